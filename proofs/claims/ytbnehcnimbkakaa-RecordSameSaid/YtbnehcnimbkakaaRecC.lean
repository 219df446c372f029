/-
  The walks over record.partsOf and (*record.parts).record: for every line, its parts.
-/
import Derived.Test.YtbnehcnimbkakaaRecB
import Derived.StillTailTactics
namespace Go.Proofs.Ytbnehcnimbkakaa
open Go.RowKit
set_option linter.unusedVariables false

/-- Block b holds the parts of a line: the bytes that are still to be read, and the number of data bytes. -/
def PartsAt (b : Nat) (w : World) (A : Option Addr) (len cap : Nat) (size : Int) : Prop :=
  CurAt b w A len cap ∧ w.cell? ⟨b, 1, none⟩ = some (.int .i64 size)
def linPre (s : ByteArray) : Bool := preB s ⟨#[58]⟩
def linCut (s : ByteArray) : ByteArray := cutPre s ⟨#[58]⟩
/-- Does a line have the form of a record: its colon and five bytes at least? -/
def linOk (s : ByteArray) : Bool := linPre s && (bytesOk (linCut s) && decide (5 ≤ (bytesL (linCut s)).length))
theorem lin_no1 {s : ByteArray} (h : linPre s = false) : linOk s = false := by unfold linOk; rw [h]; rfl
theorem lin_no2 {s : ByteArray} (h : bytesOk (linCut s) = false) : linOk s = false := by unfold linOk; rw [h]; simp
theorem lin_no3 {s : ByteArray} (h : ¬ 5 ≤ (bytesL (linCut s)).length) : linOk s = false := by unfold linOk; simp [h]
theorem lin_yes {s : ByteArray} (h1 : linPre s = true) (h2 : bytesOk (linCut s) = true) (h3 : 5 ≤ (bytesL (linCut s)).length) : linOk s = true := by unfold linOk; simp [h1, h2, h3]
theorem cutPre_le (u p : ByteArray) : (cutPre u p).size ≤ u.size := by
  unfold cutPre
  split
  · exact extract_le _ _ _
  · exact Nat.le_refl _

/-- What partsOf returns. -/
def RetParts (w : World) (s : ByteArray) (e : Ending) (w' : World) : Prop :=
  (linOk s = false ∧ e = .returned (.tuple #[.pointer none, .slice none 0 0, .bool false]) ∧ Below w.heap.size w w') ∨
  (linOk s = true ∧ ∃ A cap b, e = .returned (.tuple #[.pointer (some ⟨b, 0, none⟩), .slice A (bytesL (linCut s)).length cap, .bool true]) ∧ (bytesL (linCut s)).length ≤ cap ∧
    PartsAt b w' (subA A 1 cap) ((bytesL (linCut s)).length - 1) (cap - 1) (numI ((bytesL (linCut s)).take 1)) ∧ BytesP (fun i => w.heap.size ≤ i ∧ i < b) w' A (bytesL (linCut s)) ∧ w.heap.size ≤ b ∧ Below w.heap.size w w')
theorem linPre_any (s : ByteArray) (hs : s.size ≤ maxLen) (w : World) :
    Calls Try.prog 44 #[.string s, .string ⟨#[58]⟩] w fun e w' => e = .returned (.tuple #[.string (linCut s), .bool (linPre s)]) ∧ w = w' := cutPrefix_any s ⟨#[58]⟩ hs (by decide) w
set_option maxHeartbeats 1000000 in
theorem partsOf_any (s : ByteArray) (hs : s.size ≤ 140737488355328) (w : World) :
    Calls Try.prog 36 #[.string s] w (RetParts w s) := by
  have hp := linPre_any s (by unfold maxLen; omega) w
  have hcs := cutPre_le s ⟨#[58]⟩
  have hb := fun w => bytesC_any (linCut s) (Nat.le_trans hcs (Nat.le_trans hs (by decide))) w
  cases h1 : linPre s
  · rw [h1] at hp
    have N := Lib.hid (lin_no1 h1)
    clear h1 hcs hs hb
    go_enter Try.func36, Try.ntmps36
    go_wp2_with fail
    refine hp.mono ?_
    rintro e w1 ⟨rfl, rfl⟩
    go_wp2
    go_ret3
    exact .inl ⟨N.out, rfl, Below.refl _ _⟩
  · rw [h1] at hp
    cases h2 : bytesOk (linCut s)
    · rw [h2] at hb
      have N := Lib.hid (lin_no2 h2)
      clear h1 h2 hcs hs
      go_enter Try.func36, Try.ntmps36
      go_wp2_with fail
      refine hp.mono ?_
      rintro e w1 ⟨rfl, rfl⟩
      go_wp2_with fail
      refine (hb _).mono ?_
      rintro e w1 ⟨A, cap, rfl, -, -, -, hbel⟩
      have B := Lib.hid hbel
      clear hbel hb hp
      go_wp2
      go_ret3
      exact .inl ⟨N.out, rfl, B.out⟩
    · rw [h2] at hb
      have C : Hid (∀ P Q : Prop, (linOk s = false ∧ P) ∨ (linOk s = true ∧ Q) ↔ (linOk s = false ∧ P) ∨ (linOk s = true ∧ Q)) := fun _ _ => Iff.rfl
      clear C
      obtain ⟨bs, hbs⟩ : ∃ bs, bytesL (linCut s) = bs := ⟨_, rfl⟩
      have HB := Lib.hid hbs
      rw [hbs] at hb
      have hlen : bs.length ≤ 140737488355328 := by
        rw [← hbs]
        have h3 : (linCut s).size ≤ s.size := hcs
        unfold bytesL
        rw [h2]
        simp only [if_true, List.length_map, List.length_range]
        omega
      by_cases h3 : 5 ≤ bs.length
      · have N := Lib.hid (lin_yes h1 h2 (by rw [hbs]; exact h3))
        have h3' : decide ((bs.length : Int) < 5) = false := decide_eq_false (by omega)
        clear h1 h2 hcs hs hbs
        go_enter Try.func36, Try.ntmps36
        go_wp2_with fail
        refine hp.mono ?_
        rintro e w1 ⟨rfl, rfl⟩
        go_wp2_with fail
        refine (hb _).mono ?_
        rintro e w1 ⟨A, cap, rfl, hX0, hcap, hnew, hbel⟩
        have hX := hX0.toNew hnew
        obtain ⟨ob, hob⟩ : ∃ o, Obj.cells #[.slice A bs.length cap, .int .i64 0] 76 = o := ⟨_, rfl⟩
        have hal : Below w1.heap.size w1 (w1.alloc ob) := (Below.refl _ _).alloc (Nat.le_refl _) ob
        have hcur : CurAt w1.heap.size (w1.alloc ob) A bs.length cap := by subst hob; exact ⟨by simp, by simp [go_sem], by simp [go_sem]⟩
        have hsz : (w1.alloc ob).cell? ⟨w1.heap.size, 1, none⟩ = some (.int .i64 0) ∧ (w1.alloc ob).frozen? ⟨w1.heap.size, 1, none⟩ = false := by subst hob; exact ⟨by simp [go_sem], by simp [go_sem]⟩
        have hn := number_any (fun i => w.heap.size ≤ i ∧ i < w1.heap.size) w1.heap.size (by omega) A bs cap 1 (by omega) (by omega) hcap (w1.alloc ob) (hX.below hal) hcur
        have hcur2 := hcur.set (subA A 1 cap) (bs.length - 1) (cap - 1)
        have hX2 : BytesP (fun i => w.heap.size ≤ i ∧ i < w1.heap.size) ((w1.alloc ob).setCell ⟨w1.heap.size, 0, none⟩ (.slice (subA A 1 cap) (bs.length - 1) (cap - 1))) A bs :=
          (hX.below hal).kept (Q := (· < w1.heap.size)) ((KeptP.refl _ _).setCell (by simp) _) fun i _ hp => hp.2
        have hB2 : Below w.heap.size w ((w1.alloc ob).setCell ⟨w1.heap.size, 0, none⟩ (.slice (subA A 1 cap) (bs.length - 1) (cap - 1))) := (hbel.alloc hbel.size ob).setCell (by simpa using hbel.size) _
        have hbs0 := hbel.size
        have hd1 : ((w1.alloc ob).setCell ⟨w1.heap.size, 0, none⟩ (.slice (subA A 1 cap) (bs.length - 1) (cap - 1))).cell? ⟨w1.heap.size, 1, none⟩ = some (.int .i64 0) := by
          rw [World.cell?_setCell_other _ _ _ _ (by simp)]; exact hsz.1
        have hd2 : ((w1.alloc ob).setCell ⟨w1.heap.size, 0, none⟩ (.slice (subA A 1 cap) (bs.length - 1) (cap - 1))).frozen? ⟨w1.heap.size, 1, none⟩ = false := by
          simp only [World.frozen?_setCell]; exact hsz.2
        obtain ⟨w2, hw2⟩ : ∃ w2, (w1.alloc ob).setCell ⟨w1.heap.size, 0, none⟩ (.slice (subA A 1 cap) (bs.length - 1) (cap - 1)) = w2 := ⟨_, rfl⟩
        obtain ⟨vb, hvb⟩ : ∃ vb, w1.heap.size = vb := ⟨_, rfl⟩
        rw [hw2] at hn hcur2 hX2 hB2 hd1 hd2
        rw [hvb] at hn hcur2 hX2 hd1 hd2 hbs0
        obtain ⟨q, hq⟩ : ∃ q, numI (bs.take 1) = q := ⟨_, rfl⟩
        rw [hq] at hn
        have Q := Lib.hid hq
        have hcur3 : PartsAt vb (w2.setCell ⟨vb, 1, none⟩ (.int .i64 q)) (subA A 1 cap) (bs.length - 1) (cap - 1) q := by
          obtain ⟨k1, k2, k3⟩ := hcur2
          refine ⟨⟨by simpa [World.setCell] using k1, ?_, ?_⟩, ?_⟩
          · rw [World.cell?_setCell_other _ _ _ _ (by simp)]; exact k2
          · simp only [World.frozen?_setCell]; exact k3
          · simp [go_sem, hd1]
        have hX3 : BytesP (fun i => w.heap.size ≤ i ∧ i < vb) (w2.setCell ⟨vb, 1, none⟩ (.int .i64 q)) A bs := hX2.kept (Q := (· < vb)) ((KeptP.refl _ _).setCell (by simp) _) fun i _ hp => hp.2
        have hB3 : Below w.heap.size w (w2.setCell ⟨vb, 1, none⟩ (.int .i64 q)) := hB2.setCell hbs0 _
        have C3 := Lib.hid hcur3
        have X3 := Lib.hid hX3
        have B3 := Lib.hid hB3
        have HC := Lib.hid hcap
        have S0 := Lib.hid hbs0
        clear hal hcur hsz hcur2 hX2 hB2 hX hX0 hnew hbel hcap hcur3 hX3 hB3 hq hb hp hbs0
        go_wp2_with fail
        refine hn.mono ?_
        rintro e w' ⟨rfl, rfl⟩
        go_wp2
        go_ret3
        refine .inr ⟨N.out, ?_⟩
        rw [HB.out]
        exact ⟨A, cap, vb, rfl, HC.out, by rw [Q.out]; exact C3.out, X3.out, S0.out, B3.out⟩
      · have N := Lib.hid (lin_no3 (s := s) (by rw [hbs]; exact h3))
        have h3' : (bs.length : Int) < 5 := by omega
        clear h1 h2 hcs hs hbs
        go_enter Try.func36, Try.ntmps36
        go_wp2_with fail
        refine hp.mono ?_
        rintro e w1 ⟨rfl, rfl⟩
        go_wp2_with fail
        refine (hb _).mono ?_
        rintro e w1 ⟨A, cap, rfl, -, -, -, hbel⟩
        have B := Lib.hid hbel
        clear hbel hb hp
        go_wp2
        go_ret3
        exact .inl ⟨N.out, rfl, B.out⟩
end Go.Proofs.Ytbnehcnimbkakaa
