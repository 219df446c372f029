/-
  RecQ, RecR, RecS, RecU, RecV, RecW: texts joined to one.
-/
import Derived.Test.YtmeegpdjhcilkaaDoorRecAllA
import Derived.ProofKit
import Derived.OpenShut
import Derived.Deep.Slices
import Derived.Lib.SmallJoins
import Derived.Laws.IdiomStrings
import Derived.Lib.SlBytesRow
import Derived.Test.YtmeegpdjhcilkaaDoorRecAllB
import Derived.Maps.AppendAt
import Derived.Lib.SliceRun
import Derived.Test.YtmeegpdjhcilkaaDoorLawAll
import Derived.Shelf.Abstract
import Derived.Shelf.RegionOpen
import Derived.WalkKit
import Derived.LoopNIn
import Derived.LoopIn
import Derived.Deep.Cut
/-
  Bytes and records that came in as arguments: opened.
-/
namespace Go.Proofs.YtmeegpdjhcilkaaDoor
open Go.ChangeShapes Go.WideShapes Go.RowKit
set_option linter.unusedVariables false

theorem plain_of_cell {w : World} {a : Addr} {v : Value} (h : w.cell? (a.add 0) = some v) : ∃ b off, a = ⟨b, off, none⟩ := by
  obtain ⟨b, off, spot⟩ := a
  have hs : spot = none := by simpa [Addr.add] using World.cell?_spot h
  subst hs
  exact ⟨b, off, rfl⟩
theorem add_at (b off i j : Nat) : ((⟨b, off, none⟩ : Addr).add i).add j = ⟨b, off + i + j, none⟩ := by
  unfold Addr.add
  by_cases hi : i = 0 <;> by_cases hj : j = 0 <;> simp [hi, hj]
def toU8 (n : Int) : UInt8 := n.toNat.toUInt8
theorem toU8_nat {n : Int} (h : (Lit.int .u8 n).wf = true) : ((toU8 n).toNat : Int) = n := by
  have := bounds_u8 h
  unfold toU8
  rw [UInt8.toNat_ofNat_of_lt' (show n.toNat < 256 by omega)]
  omega
section
variable {H : Type} {enc : TypeId × Value → H} {w : World} {spare : Nat → Bool} {fuel : Nat}
set_option maxRecDepth 100000 in
theorem open_bytes {v : Value} {x : DataW H × List MemPlace} (h : DataW.trod enc Tryd.prog w 0 spare true fuel 59 [v] = some x) : ∃ A len cap xs, v = .slice A len cap ∧ len = xs.length ∧ len ≤ maxLen ∧ BytesP (fun _ => True) w A xs := by
  rcases open_ints Tryd.underlying59 Tryd.underlying5 (by kernel_rfl) h with ⟨hcs, _⟩ | ⟨a, l, c, zs, hcs, _, hl, hm, hz, _, hcell, hwz⟩
  · simp only [List.cons.injEq, and_true] at hcs
    subst hcs
    exact ⟨none, 0, 0, [], rfl, rfl, Nat.zero_le _, .inl rfl⟩
  · simp only [List.cons.injEq, and_true] at hcs
    subst hcs
    have hlz : l ≤ zs.length := by rw [hz]; split <;> omega
    refine ⟨some a, l, c, (zs.take l).map toU8, rfl, by simp; omega, by omega, ?_⟩
    by_cases h0 : l = 0
    · left; subst h0; simp
    · obtain ⟨b, off, rfl⟩ := plain_of_cell (hcell 0 (by omega))
      refine .inr ⟨b, off, rfl, trivial, fun j hj => ?_⟩
      have hj' : j < l := by simp at hj; omega
      have hjz : j < zs.length := by omega
      have e := hcell j hjz
      have hadd : (⟨b, off, none⟩ : Addr).add j = ⟨b, off + j, none⟩ := by unfold Addr.add; split <;> simp_all
      rw [hadd] at e
      rw [e]
      have hg : zs.getD j 0 = zs[j] := by simp [List.getD, List.getElem?_eq_getElem hjz]
      rw [hg]
      simp only [List.getElem_map, List.getElem_take]
      rw [toU8_nat (hwz _ (List.getElem_mem hjz))]
set_option maxRecDepth 100000 in
theorem open_rec {b0 : Nat} {v : Value} {d : DataW H} {p : List MemPlace} (hv : Value.okWide Tryd.prog w .any b0 142 v) (h : DataW.Trod enc Tryd.prog w 0 spare true 142 v d p) :
    ∃ (t a : Int) (A : Option Addr) (cap : Nat) (D : List UInt8), v = .agg #[.int .i64 t, .int .i64 a, .slice A D.length cap] ∧ D.length ≤ maxLen ∧ BytesP (fun _ => True) w A D := by
  obtain ⟨c0, c1, c2, y0, y1, y2, n, rfl, -, -, h0, h1, h2⟩ := Joins.open_agg3 Tryd.underlying142 (by kernel_rfl) (by kernel_rfl) hv h
  obtain ⟨t, e0, _, _⟩ := DataW.trod_int Tryd.underlying3 h0
  obtain ⟨a, e1, _, _⟩ := DataW.trod_int Tryd.underlying3 h1
  have e0' : c0 = .int .i64 t := by simpa using e0
  have e1' : c1 = .int .i64 a := by simpa using e1
  obtain ⟨A, len, cap, xs, e2, e3, e4, hb⟩ := open_bytes h2
  subst e0' e1' e2 e3
  exact ⟨t, a, A, cap, xs, rfl, e4, hb⟩
end
end Go.Proofs.YtmeegpdjhcilkaaDoor
/-
  The walk over the law's lower: for every string, the string with small letters instead of A to F.
-/
namespace Go.Proofs.YtmeegpdjhcilkaaDoor
open Go.RowKit
set_option linter.unusedVariables false

def lowI (c : Int) : Int := if 65 ≤ c ∧ c ≤ 70 then c + 32 else c
theorem lowI_bd (c : Int) (h0 : 0 ≤ c) (h1 : c ≤ 255) : 0 ≤ lowI c ∧ lowI c ≤ 255 := by unfold lowI; split <;> omega
/-- The small letter of A to F. -/
def lowC (c : UInt8) : UInt8 := (lowI (c.toNat : Int)).toNat.toUInt8
theorem lowC_nat (c : UInt8) : ((lowC c).toNat : Int) = lowI (c.toNat : Int) := by
  have h := lowI_bd (c.toNat : Int) (by omega) (by have := c.toNat_lt; omega)
  unfold lowC
  have : (lowI (c.toNat : Int)).toNat < 256 := by omega
  rw [UInt8.toNat_ofNat_of_lt' this]
  omega
def loB (s : ByteArray) : ByteArray := ⟨s.data.map lowC⟩
theorem loB_size (s : ByteArray) : (loB s).size = s.size := by unfold loB; show (s.data.map lowC).size = s.data.size; simp
theorem loB_at (s : ByteArray) (j : Nat) (h : j < s.size) (h' : j < (loB s).size) : (loB s)[j] = lowC s[j] := by
  have h1 : (loB s).data[j]'h' = lowC (s.data[j]'h) := by simp [loB]
  exact h1
theorem loB_list (s : ByteArray) : (loB s).data.toList = s.data.toList.map lowC := by unfold loB; simp

/-- What holds at the head of round k: the first k bytes of the row are small letters, the others are as in s. -/
def LoRel (w : World) (s : ByteArray) (k : Nat) (wr : World) : Prop :=
  (∀ j (h : j < s.size), wr.cell? ⟨w.heap.size, j, none⟩ = some (.int .u8 (if j < k then lowI (s[j].toNat : Int) else (s[j].toNat : Int)))) ∧ (∀ j, j < s.size → wr.frozen? ⟨w.heap.size, j, none⟩ = false) ∧ Below w.heap.size w wr
theorem loRel_start (w : World) (s : ByteArray) (cap : Nat) (e : TypeId) :
    LoRel w s 0 (w.alloc (.cells (bytesRow s cap) e ((bytesRow s cap).size, (bytesRow s cap).size + 1))).drew := by
  refine ⟨fun j h => ?_, fun j h => ?_, ((Below.refl _ _).alloc (Nat.le_refl _) _).drew⟩
  · have h1 := World.cell?_alloc_mark w (bytesRow s cap) e ((bytesRow s cap).size, (bytesRow s cap).size + 1) j
    rw [bytesRow_at s cap j h] at h1
    exact h1
  · have h1 := World.frozen?_alloc_mark w (bytesRow s cap) e (bytesRow s cap).size ((bytesRow s cap).size + 1) j
    have h2 : j < (bytesRow s cap).size := by
      unfold bytesRow
      rw [Array.size_append, Array.size_map]
      have : s.data.size = s.size := rfl
      omega
    have h3 : decide ((bytesRow s cap).size ≤ j) = false := by simp; exact h2
    rw [h3, Bool.false_and] at h1
    simpa using h1
theorem loRel_next (w wr : World) (s : ByteArray) (k : Nat) (h : k < s.size) (hr : LoRel w s k wr) : LoRel w s (k + 1) (wr.setCell ⟨w.heap.size, k, none⟩ (.int .u8 (lowI (s[k].toNat : Int)))) := by
  obtain ⟨r1, r2, r3⟩ := hr
  refine ⟨fun j hj => ?_, fun j hj => ?_, r3.setCell (by simp) _⟩
  · by_cases e : j = k
    · subst e
      have := r1 j hj
      rw [if_pos (by omega)]
      simp [go_sem, this]
    · rw [World.cell?_setCell_other _ _ _ _ (by simp), r1 j hj]
      by_cases h1 : j < k
      · rw [if_pos h1, if_pos (by omega)]
      · rw [if_neg h1, if_neg (by omega)]
  · simp [go_sem, r2 j hj]
theorem loRel_end (w wr : World) (s : ByteArray) (cap : Nat) (hr : LoRel w s s.size wr) :
    (convert 59 9 (.slice (some ⟨w.heap.size, 0, none⟩) s.size cap)).run Tryd.prog wr = .ok (.string (loB s)) wr := by
  have h := Lib.run_convert_whole (P := Tryd.prog) wr 59 5 9 Tryd.underlying59 Tryd.underlying5 Tryd.underlying9 w.heap.size 0 (loB s) (fun i hi => by
    have hi' : i < s.size := by rw [loB_size] at hi; exact hi
    rw [Nat.zero_add, hr.1 i hi', if_pos hi', loB_at s i hi' hi, lowC_nat]) cap
  rw [loB_size] at h
  exact h


theorem loRel_same (w wr : World) (s : ByteArray) (k : Nat) (h : k < s.size) (hc : ¬ (65 ≤ (s[k].toNat : Int) ∧ (s[k].toNat : Int) ≤ 70)) (hr : LoRel w s k wr) : LoRel w s (k + 1) wr := by
  obtain ⟨r1, r2, r3⟩ := hr
  refine ⟨fun j hj => ?_, r2, r3⟩
  rw [r1 j hj]
  by_cases e : j = k
  · subst e
    rw [if_neg (by omega), if_pos (by omega)]
    unfold lowI
    rw [if_neg hc]
  · by_cases h1 : j < k
    · rw [if_pos h1, if_pos (by omega)]
    · rw [if_neg h1, if_neg (by omega)]
end Go.Proofs.YtmeegpdjhcilkaaDoor
/-
  What Parse makes of the line of a record, also in small letters. No program.
-/
namespace Go.Proofs.YtmeegpdjhcilkaaDoor
open Go.RowKit
set_option linter.unusedVariables false

/-! ### Digits and bytes -/
theorem hexU_val : ∀ x : Fin 16, hexV ((hexU (x.val : Int)).toNat : Int) = (x.val : Int) := by decide +kernel
theorem hexU_v (x : Int) (h0 : 0 ≤ x) (h1 : x < 16) : hexV ((hexU x).toNat : Int) = x := by
  have h := hexU_val ⟨x.toNat, by omega⟩
  have e : ((x.toNat : Nat) : Int) = x := by omega
  simp only [e] at h
  exact h
theorem hexS2_list (n : Int) : (hexS n 2).data.toList = [hexU (digI n 1), hexU (digI n 0)] := by unfold hexS; simp [List.range_succ]
theorem hexL_cons (x : UInt8) (t : List UInt8) : hexL (x :: t) = hexU (digI (x.toNat : Int) 1) :: hexU (digI (x.toNat : Int) 0) :: hexL t := by
  show (hexS (x.toNat : Int) 2).data.toList ++ hexL t = _
  rw [hexS2_list]; rfl
theorem hexL_get (xs : List UInt8) (j : Nat) (h : j < xs.length) : (hexL xs).getD (2 * j) 0 = hexU (digI (xs[j].toNat : Int) 1) ∧ (hexL xs).getD (2 * j + 1) 0 = hexU (digI (xs[j].toNat : Int) 0) := by
  induction xs generalizing j with
  | nil => simp at h
  | cons x t ih =>
    rw [hexL_cons]
    cases j with
    | zero => exact ⟨rfl, rfl⟩
    | succ j =>
      obtain ⟨h1, h2⟩ := ih j (by simpa using h)
      rw [show 2 * (j + 1) = 2 * j + 1 + 1 by omega]
      simp only [List.getD_cons_succ, List.getElem_cons_succ]
      exact ⟨h1, h2⟩
/-- A string whose digits have the values of those of bytes. -/
def DigitsOf (s : ByteArray) (xs : List UInt8) : Prop := s.size = 2 * xs.length ∧ ∀ i, i < s.size → hexAt s i = hexV (((hexL xs).getD i 0).toNat : Int)
theorem pair_of {s : ByteArray} {xs : List UInt8} (h : DigitsOf s xs) (j : Nat) (hj : j < xs.length) : goodP s j ∧ lowU (pairI s j) = xs[j] := by
  obtain ⟨h1, h2⟩ := h
  obtain ⟨g1, g2⟩ := hexL_get xs j hj
  have a := h2 (2 * j) (by omega)
  have b := h2 (2 * j + 1) (by omega)
  rw [g1, hexU_v _ (digI_bd _ _).1 (digI_bd _ _).2] at a
  rw [g2, hexU_v _ (digI_bd _ _).1 (digI_bd _ _).2] at b
  have d1 := digI_bd (xs[j].toNat : Int) 1
  have d0 := digI_bd (xs[j].toNat : Int) 0
  refine ⟨by unfold goodP; rw [a, b]; exact ⟨d1.1, d0.1⟩, ?_⟩
  apply UInt8.toNat_inj.1
  have hl := lowU_nat (pairI s j)
  have e : pairI s j = (xs[j].toNat : Int) := by
    unfold pairI
    rw [a, b]
    have e1 : digI (xs[j].toNat : Int) 1 = (xs[j].toNat : Int) / 16 % 16 := by unfold digI; simp
    have e0 : digI (xs[j].toNat : Int) 0 = (xs[j].toNat : Int) % 16 := by unfold digI; simp
    have := xs[j].toNat_lt
    omega
  have := xs[j].toNat_lt
  omega
theorem bytes_of {s : ByteArray} {xs : List UInt8} (h : DigitsOf s xs) : bytesOk s = true ∧ bytesL s = xs := by
  have hs : s.size / 2 = xs.length := by have := h.1; omega
  obtain ⟨h1, h2⟩ := bytes_good s (by have := h.1; omega) fun j hj => (pair_of h j (by omega)).1
  refine ⟨h1, ?_⟩
  rw [h2, hs]
  apply List.ext_getElem (by simp)
  intro j hj hj2
  simp only [List.getElem_map, List.getElem_range]
  exact (pair_of h j hj2).2
theorem hexAt_strOf (l : List UInt8) (i : Nat) : hexAt (strOf l) i = hexV ((l.getD i 0).toNat : Int) := by unfold hexAt strOf; simp
theorem digits_hex (xs : List UInt8) : DigitsOf (strOf (hexL xs)) xs := ⟨by rw [strOf_size, hexL_length], fun i _ => hexAt_strOf _ i⟩
theorem hexV_lowC (c : UInt8) : hexV ((lowC c).toNat : Int) = hexV (c.toNat : Int) := by
  rw [lowC_nat]
  unfold lowI
  split
  · unfold hexV; split <;> (try split) <;> (try split) <;> (try split) <;> (try split) <;> omega
  · rfl
theorem digits_low {s : ByteArray} {xs : List UInt8} (h : DigitsOf s xs) : DigitsOf (loB s) xs := by
  refine ⟨by rw [loB_size]; exact h.1, fun i hi => ?_⟩
  rw [loB_size] at hi
  rw [← h.2 i hi]
  unfold hexAt
  rw [loB_list, List.getD_eq_getElem?_getD, List.getD_eq_getElem?_getD, List.getElem?_map, List.getElem?_eq_getElem (by simpa using hi)]
  simp only [Option.map_some, Option.getD_some]
  exact hexV_lowC _

/-! ### Lines -/
theorem size_list3 (s : ByteArray) : s.data.toList.length = s.size := by simp
theorem line_size (t : ByteArray) : ((⟨#[58]⟩ : ByteArray) ++ t).size = t.size + 1 := by
  have hd : ((⟨#[58]⟩ : ByteArray) ++ t).data.toList = 58 :: t.data.toList := by rw [append_data]; rfl
  have h1 : ((⟨#[58]⟩ : ByteArray) ++ t).data.toList.length = ((⟨#[58]⟩ : ByteArray) ++ t).size := size_list3 _
  have h2 : t.data.toList.length = t.size := size_list3 _
  rw [hd] at h1
  simp only [List.length_cons] at h1
  omega
theorem line_pre (t : ByteArray) : linPre (⟨#[58]⟩ ++ t) = true ∧ linCut (⟨#[58]⟩ ++ t) = t := by
  have hd : ((⟨#[58]⟩ : ByteArray) ++ t).data.toList = 58 :: t.data.toList := by rw [append_data]; rfl
  have hsz := line_size t
  have hp : linPre (⟨#[58]⟩ ++ t) = true := by
    rw [linPre_iff _ (by omega)]
    have h0 : ((⟨#[58]⟩ : ByteArray) ++ t).data.toList[0]'(by rw [size_list3]; omega) = ((⟨#[58]⟩ : ByteArray) ++ t)[0]'(by omega) := rfl
    rw [← h0]
    simp only [hd]
    rfl
  refine ⟨hp, ?_⟩
  rw [linCut_of hp]
  apply bytes_ext
  rw [Lib.extract_data, hd]
  have h2 : t.data.toList.length = t.size := by simp
  simp only [List.drop_succ_cons, List.drop_zero]
  exact List.take_of_length_le (by omega)
theorem strOf_cons (l : List UInt8) : strOf (58 :: l) = ⟨#[58]⟩ ++ strOf l := by
  apply bytes_ext
  rw [append_data]
  unfold strOf
  simp
/-- The bytes of a record's line. -/
def fullB (T a : Int) (D : List UInt8) : List UInt8 := recB T a D ++ [lowU (chkI (recB T a D))]
theorem fullB_length (T a : Int) (D : List UInt8) : (fullB T a D).length = D.length + 5 := by unfold fullB recB hdrB; simp
theorem chk_full (T a : Int) (D : List UInt8) : chkI (fullB T a D) = 0 := by
  unfold fullB chkI
  rw [sumI_append, sumI_one, lowU_nat]
  omega
theorem full_parts (T a : Int) (D : List UInt8) (h : rightB T a D.length = true) :
    numI ((fullB T a D).take 1) = (D.length : Int) ∧ recT (fullB T a D) = T ∧ recA (fullB T a D) = a ∧ recD (fullB T a D) D.length = D := by
  obtain ⟨r1, r2, r3, r4, r5⟩ : 0 ≤ T ∧ T ≤ 255 ∧ 0 ≤ a ∧ a ≤ 65535 ∧ D.length ≤ 255 := by unfold rightB at h; exact of_decide_eq_true h
  have e : fullB T a D = lowU D.length :: lowU (a / 256) :: lowU a :: lowU T :: (D ++ [lowU (chkI (recB T a D))]) := by unfold fullB recB hdrB; rfl
  have n1 := lowU_nat (D.length : Int)
  have n2 := lowU_nat (a / 256)
  have n3 := lowU_nat a
  have n4 := lowU_nat T
  refine ⟨?_, ?_, ?_, ?_⟩
  · rw [e]; show (0 : Int) * 256 + ((lowU (D.length : Int)).toNat : Int) = _; omega
  · unfold recT; rw [e]; show (0 : Int) * 256 + ((lowU T).toNat : Int) = _; omega
  · unfold recA; rw [e]; show ((0 : Int) * 256 + ((lowU (a / 256)).toNat : Int)) * 256 + ((lowU a).toNat : Int) = _; omega
  · unfold recD; rw [e]
    simp only [List.drop_succ_cons, List.drop_zero]
    rw [List.take_append_of_le_length (Nat.le_refl _), List.take_of_length_le (Nat.le_refl _)]
/-- A line with the digits of a right record. -/
theorem par_line (T a : Int) (D : List UInt8) (h : rightB T a D.length = true) (t : ByteArray) (ht : DigitsOf t (fullB T a D)) :
    parCode (⟨#[58]⟩ ++ t) = 0 ∧ parT (⟨#[58]⟩ ++ t) = T ∧ parA (⟨#[58]⟩ ++ t) = a ∧ parD (⟨#[58]⟩ ++ t) = D := by
  obtain ⟨l1, l2⟩ := line_pre t
  obtain ⟨b1, b2⟩ := bytes_of ht
  obtain ⟨p1, p2, p3, p4⟩ := full_parts T a D h
  have hl := fullB_length T a D
  have hb : bytesL (linCut (⟨#[58]⟩ ++ t)) = fullB T a D := by rw [l2]; exact b2
  have hc : parCode (⟨#[58]⟩ ++ t) = 0 := by
    refine par0 (lin_yes l1 (by rw [l2]; exact b1) (by rw [hb, hl]; omega)) ?_ ?_
    · rw [hb, hl, p1]; omega
    · rw [hb]; exact chk_full T a D
  refine ⟨hc, ?_, ?_, ?_⟩
  · unfold parT; rw [if_pos hc, hb]; exact p2
  · unfold parA; rw [if_pos hc, hb]; exact p3
  · unfold parD; rw [if_pos hc, hb, hl, show D.length + 5 - 5 = D.length by omega]; exact p4
theorem print_line (T a : Int) (D : List UInt8) : strOf (printL T a D) = ⟨#[58]⟩ ++ strOf (hexL (fullB T a D)) := strOf_cons _
end Go.Proofs.YtmeegpdjhcilkaaDoor
/-
  Rows of records; slices of bytes that may be written; the pieces of bytes, each of a size; the walk over breadboardref03.Split.
-/
namespace Go.Proofs.YtmeegpdjhcilkaaDoor
open Go.RowKit
set_option linter.unusedVariables false

/-! ### Rows of records -/
structure R where
  addr : Int
  A : Option Addr
  cap : Nat
  data : List UInt8
def runsV (rs : List R) : List Value := rs.flatMap fun r => [.int .i64 0, .int .i64 r.addr, .slice r.A r.data.length r.cap]
theorem runsV_append (V W : List R) : runsV (V ++ W) = runsV V ++ runsV W := by unfold runsV; rw [List.flatMap_append]
theorem runsV_length (W : List R) : (runsV W).length = W.length * 3 := by
  induction W with
  | nil => rfl
  | cons c t ih =>
    have : runsV (c :: t) = [.int .i64 0, .int .i64 c.addr, .slice c.A c.data.length c.cap] ++ runsV t := rfl
    rw [this, List.length_append, ih]
    simp only [List.length_cons, List.length_nil]
    omega
theorem runsV_get (W : List R) (j : Nat) (h : j < W.length) : (runsV W)[j * 3]? = some (.int .i64 0) ∧ (runsV W)[j * 3 + 1]? = some (.int .i64 W[j].addr) ∧ (runsV W)[j * 3 + 2]? = some (.slice W[j].A W[j].data.length W[j].cap) := by
  induction W generalizing j with
  | nil => simp at h
  | cons c t ih =>
    have e : runsV (c :: t) = .int .i64 0 :: .int .i64 c.addr :: .slice c.A c.data.length c.cap :: runsV t := rfl
    cases j with
    | zero => rw [e]; exact ⟨rfl, rfl, rfl⟩
    | succ j =>
      obtain ⟨h1, h2, h3⟩ := ih j (by simpa using h)
      rw [e, show (j + 1) * 3 = j * 3 + 1 + 1 + 1 by omega]
      simp only [List.getElem?_cons_succ, List.getElem_cons_succ]
      exact ⟨h1, h2, h3⟩
/-- v is a row that holds rs, in a block from n₀ on; the bytes lie elsewhere, in blocks that have the property P. -/
def OwnR (e : TypeId) (n₀ : Nat) (P : Nat → Prop) (wr : World) (v : Value) (rs : List R) : Prop :=
  wr.ownsRow n₀ e 3 v rs.length (runsV rs) ∧ ∀ r ∈ rs, BytesP (fun i => P i ∧ some i ≠ v.ownBlock) wr r.A r.data
theorem ownR_start (e : TypeId) (n₀ : Nat) (P : Nat → Prop) (w : World) : OwnR e n₀ P w (.slice none 0 0) [] := ⟨World.ownsRow_nil _ _ _ _, fun _ h => absurd h List.not_mem_nil⟩
theorem ownsRow_kept {Q : Nat → Prop} {w w' : World} {e : TypeId} {n₀ s k : Nat} {v : Value} {xs : List Value} (h : w.ownsRow n₀ e s v k xs) (hk : KeptP Q w w') (hq : ∀ i, some i = v.ownBlock → Q i) : w'.ownsRow n₀ e s v k xs := by
  rcases h.2 with ⟨h1, h0⟩ | ⟨g, cap, cur, rfl, hb, hg, hr⟩
  · exact ⟨h.1, .inl ⟨h1, h0⟩⟩
  · exact ⟨h.1, .inr ⟨g, cap, cur, rfl, hb, (hk.block g (Array.getElem?_eq_some_iff.1 hg).1 (hq g rfl)).trans hg, hr⟩⟩
theorem OwnR.kept {e : TypeId} {n₀ : Nat} {P Q : Nat → Prop} {w w' : World} {v : Value} {rs : List R} (h : OwnR e n₀ P w v rs) (hk : KeptP Q w w') (hq : ∀ i, some i = v.ownBlock → Q i) (hp : ∀ i, P i → Q i) : OwnR e n₀ P w' v rs :=
  ⟨ownsRow_kept h.1 hk hq, fun r hr => (h.2 r hr).kept hk fun i _ hi => hp i hi.1⟩
theorem OwnR.below {e : TypeId} {n₀ : Nat} {P : Nat → Prop} {w w' : World} {v : Value} {rs : List R} (h : OwnR e n₀ P w v rs) (hk : Below w.heap.size w w') : OwnR e n₀ P w' v rs :=
  ⟨ownsRow_kept h.1 (KeptP.of_all hk) (fun _ _ => trivial), fun r hr => (h.2 r hr).below hk⟩
theorem OwnR.alloc {e : TypeId} {n₀ : Nat} {P : Nat → Prop} {w : World} {v : Value} {rs : List R} (h : OwnR e n₀ P w v rs) (o : Obj) : OwnR e n₀ P (w.alloc o) v rs := h.below ((Below.refl _ _).alloc (Nat.le_refl _) o)
theorem append_rec (t e : TypeId) (ht : Tryd.prog.underlying t = some (.slice e)) (hinfo : (Tryd.prog.info? e).map (fun i => (i.zero, i.size, i.bytes)) = some (some (.agg #[.int .i64 0, .int .i64 0, .slice none 0 0]), 3, 40))
    {P : Nat → Prop} {n₀ : Nat} {wr : World} (hn₀ : n₀ ≤ wr.heap.size) {v : Value} {rs : List R} (h : OwnR e n₀ P wr v rs) (r : R) (ad : Addr) (c : Nat) (h0 : wr.cell? (ad.add 0) = some (.int .i64 0)) (h1 : wr.cell? (ad.add 1) = some (.int .i64 r.addr)) (h2 : wr.cell? (ad.add 2) = some (.slice r.A r.data.length r.cap))
    (hd : BytesP (fun i => P i ∧ some i ≠ v.ownBlock) wr r.A r.data) (hlen : rs.length ≤ 1099511627776) (ty : TypeId) :
    ∃ v' w', (Builtin.append_ #[t, t] ty #[v, .slice (some ad) 1 c]).run Tryd.prog wr = .ok v' w' ∧ OwnR e n₀ P w' v' (rs ++ [r]) ∧ wr.grownBy w' v.ownBlock ∧ (v'.ownBlock = v.ownBlock ∨ v'.ownBlock = some wr.heap.size) := by
  obtain ⟨i0, hi, hz0, hz1, hz2⟩ := info_parts hinfo
  obtain ⟨v', w', k1, k2, k3, _, k5⟩ := run_append_own_at (P := Tryd.prog) wr n₀ t ty e i0 _ 3 40 ht hi hz0 hz1 hz2 rfl (by decide) v rs.length _ h.1 ad 1 c [.int .i64 0, .int .i64 r.addr, .slice r.A r.data.length r.cap] rfl (fun j u hj => by
      match j, hj with
      | 0, hj => simp at hj; subst hj; exact h0
      | 1, hj => simp at hj; subst hj; exact h1
      | 2, hj => simp at hj; subst hj; exact h2) (fun u hu => by
      simp only [List.mem_cons, List.not_mem_nil, or_false] at hu
      rcases hu with rfl | rfl | rfl <;> rfl) (by unfold maxLen; omega) (by omega) hn₀
  refine ⟨v', w', k1, ⟨?_, fun q hq => ?_⟩, k3, k5⟩
  · rw [List.length_append, runsV_append]
    exact k2
  · have hq' : BytesP (fun i => P i ∧ some i ≠ v.ownBlock) wr q.A q.data := by
      rcases List.mem_append.1 hq with hq | hq
      · exact h.2 q hq
      · rw [List.mem_singleton.1 hq]; exact hd
    have h2 := hq'.mono (Q := fun i => P i ∧ some i ≠ v.ownBlock ∧ i < wr.heap.size) fun i hi hp => ⟨hp.1, hp.2, hi⟩
    have h3 := h2.blocks (w' := w') fun i hi hp => k3.block i hi hp.2.1
    refine h3.mono fun i _ hp => ⟨hp.1, ?_⟩
    rcases k5 with k5 | k5
    · rw [k5]; exact hp.2.1
    · rw [k5]; intro e; have := Option.some.inj e; omega
theorem info_rec : (Tryd.prog.info? 78).map (fun i => (i.zero, i.size, i.bytes)) = some (some (.agg #[.int .i64 0, .int .i64 0, .slice none 0 0]), 3, 40) := by kernel_rfl
theorem info_rrec : (Tryd.prog.info? 142).map (fun i => (i.zero, i.size, i.bytes)) = some (some (.agg #[.int .i64 0, .int .i64 0, .slice none 0 0]), 3, 40) := by kernel_rfl
def pairs (rs : List R) : List (Int × List UInt8) := rs.map fun r => (r.addr, r.data)
theorem pairs_snoc (rs : List R) (r : R) : pairs (rs ++ [r]) = pairs rs ++ [(r.addr, r.data)] := by unfold pairs; rw [List.map_append]; rfl

/-! ### The pieces -/
def chD (xs : List UInt8) (sz k : Nat) : List UInt8 := (xs.drop (k * sz)).take sz
def cnt (len sz : Nat) : Nat := (len + sz - 1) / sz
def spl (ad : Int) (xs : List UInt8) (sz k : Nat) : List (Int × List UInt8) := (List.range k).map fun j => (ad + ((j * sz : Nat) : Int), chD xs sz j)
theorem spl_succ (ad : Int) (xs : List UInt8) (sz k : Nat) : spl ad xs sz (k + 1) = spl ad xs sz k ++ [(ad + ((k * sz : Nat) : Int), chD xs sz k)] := by
  unfold spl; rw [List.range_succ, List.map_append]; rfl
theorem spl_length (ad : Int) (xs : List UInt8) (sz k : Nat) : (spl ad xs sz k).length = k := by unfold spl; simp
theorem cnt_lt (len sz k : Nat) (h : 0 < sz) : k < cnt len sz ↔ k * sz < len := by
  unfold cnt
  rw [show (k < (len + sz - 1) / sz) = (k + 1 ≤ (len + sz - 1) / sz) from rfl, Nat.le_div_iff_mul_le h, Nat.add_mul, Nat.one_mul]
  omega
theorem cnt_le (len sz : Nat) (h : 0 < sz) : cnt len sz ≤ len := by
  rcases Nat.lt_or_ge len (cnt len sz) with h1 | h1
  · have h2 := (cnt_lt len sz len h).1 h1
    have h3 : len * 1 ≤ len * sz := Nat.mul_le_mul_left _ h
    omega
  · exact h1
def spOk (ad sz : Int) (len : Nat) : Bool := decide (1 ≤ sz ∧ sz ≤ 255 ∧ 0 ≤ ad ∧ ad ≤ 65535 ∧ (len : Int) ≤ 65536 - ad)
def splW (ad sz : Int) (xs : List UInt8) : List (Int × List UInt8) := if spOk ad sz xs.length = true then spl ad xs sz.toNat (cnt xs.length sz.toNat) else []
theorem spOk_no {ad sz : Int} {xs : List UInt8} (h : ¬ (1 ≤ sz ∧ sz ≤ 255 ∧ 0 ≤ ad ∧ ad ≤ 65535 ∧ (xs.length : Int) ≤ 65536 - ad)) : splW ad sz xs = [] := by
  unfold splW spOk
  rw [decide_eq_false h]
  rfl
theorem spOk_yes {ad : Int} {sz : Nat} {xs : List UInt8} (h1 : 1 ≤ sz) (h2 : sz ≤ 255) (h3 : 0 ≤ ad) (h4 : ad ≤ 65535) (h5 : (xs.length : Int) ≤ 65536 - ad) : splW ad sz xs = spl ad xs sz (cnt xs.length sz) := by
  unfold splW spOk
  rw [decide_eq_true (by omega), if_pos rfl]
  rfl
theorem chD_length (xs : List UInt8) (sz k : Nat) : (chD xs sz k).length = min sz (xs.length - k * sz) := by unfold chD; simp
/-- The call returns a row of records; their bytes lie in blocks that have the property P. -/
def RetSpl (e : TypeId) (P : Nat → Prop) (w : World) (l : List (Int × List UInt8)) (en : Ending) (w' : World) : Prop := ∃ v rs, en = .returned v ∧ OwnR e w.heap.size P w' v rs ∧ pairs rs = l ∧ Below w.heap.size w w'
theorem retSpl_nil {e : TypeId} {P : Nat → Prop} {w w' : World} {l : List (Int × List UInt8)} (hl : l = []) (hb : Below w.heap.size w w') : RetSpl e P w l (.returned (.slice none 0 0)) w' := ⟨_, [], rfl, ownR_start _ _ _ _, hl.symm ▸ rfl, hb⟩
theorem OwnR.len_le {e : TypeId} {n₀ : Nat} {P : Nat → Prop} {w : World} {v : Value} {rs : List R} (h : OwnR e n₀ P w v rs) : ∃ A cap, v = .slice A rs.length cap := by
  rcases h.1.2 with ⟨h1, h0⟩ | ⟨g, cap, cur, rfl, _⟩
  · exact ⟨none, 0, by rw [h1, h0]⟩
  · exact ⟨_, cap, rfl⟩
set_option maxHeartbeats 2000000 in
theorem rsplit_any (P : Nat → Prop) (ad sz : Int) (A : Option Addr) (cap : Nat) (xs : List UInt8) (hl : xs.length ≤ maxLen) (hc : xs.length ≤ cap) (w : World) (hX : BytesP P w A xs) :
    Calls Tryd.prog 79 #[.int .i64 ad, .int .i64 sz, .slice A xs.length cap] w (RetSpl 142 P w (splW ad sz xs)) := by
  unfold maxLen at hl
  have X := Lib.hid (hX.mono (Q := fun i => P i ∧ i < w.heap.size) fun i hi hp => ⟨hp, hi⟩)
  clear hX
  by_cases h1 : 1 ≤ sz
  case neg =>
    have N : Hid (splW ad sz xs = []) := spOk_no (by omega)
    have h1' : sz < 1 := by omega
    clear h1
    go_enter Tryd.func79, Tryd.ntmps79
    go_wp2
    go_ret
    exact retSpl_nil N.out (Below.refl _ _)
  have h1' : decide (sz < 1) = false := decide_eq_false (by omega)
  by_cases h2 : sz ≤ 255
  case neg =>
    have N : Hid (splW ad sz xs = []) := spOk_no (by omega)
    have h2' : 255 < sz := by omega
    clear h1 h2
    go_enter Tryd.func79, Tryd.ntmps79
    go_wp2
    go_ret
    exact retSpl_nil N.out (Below.refl _ _)
  have h2' : decide (255 < sz) = false := decide_eq_false (by omega)
  by_cases h3 : 0 ≤ ad
  case neg =>
    have N : Hid (splW ad sz xs = []) := spOk_no (by omega)
    have h3' : ad < 0 := by omega
    clear h1 h2 h3
    go_enter Tryd.func79, Tryd.ntmps79
    go_wp2
    go_ret
    exact retSpl_nil N.out (Below.refl _ _)
  have h3' : decide (ad < 0) = false := decide_eq_false (by omega)
  by_cases h4 : ad ≤ 65535
  case neg =>
    have N : Hid (splW ad sz xs = []) := spOk_no (by omega)
    have h4' : 65535 < ad := by omega
    clear h1 h2 h3 h4
    go_enter Tryd.func79, Tryd.ntmps79
    go_wp2
    go_ret
    exact retSpl_nil N.out (Below.refl _ _)
  have h4' : decide (65535 < ad) = false := decide_eq_false (by omega)
  by_cases h5 : (xs.length : Int) ≤ 65536 - ad
  case neg =>
    have N : Hid (splW ad sz xs = []) := spOk_no (by omega)
    have h5' : 65536 - ad < (xs.length : Int) := by omega
    clear h1 h2 h5
    go_enter Tryd.func79, Tryd.ntmps79
    go_wp2
    go_ret
    exact retSpl_nil N.out (Below.refl _ _)
  have h5' : decide (65536 - ad < (xs.length : Int)) = false := decide_eq_false (by omega)
  obtain ⟨s, rfl⟩ : ∃ s : Nat, sz = (s : Int) := ⟨sz.toNat, by omega⟩
  have s1 : 1 ≤ s := by omega
  have s2 : s ≤ 255 := by omega
  have N : Hid (splW ad (s : Int) xs = spl ad xs s (cnt xs.length s)) := spOk_yes s1 s2 h3 h4 h5
  have hlen : xs.length ≤ 65536 := by omega
  have S1 := Lib.hid s1
  have S2 := Lib.hid s2
  clear h1 h2 s1 s2 hl
  go_enter Tryd.func79, Tryd.ntmps79
  go_wp2
  clear h1' h2' h3' h4' h5'
  go_loopw [7, 8] (fun v i wr => ∃ (k p : Nat) (rs : List R), i = .int .i64 p ∧ p ≤ 70000 ∧ OwnR 142 w.heap.size (fun i => P i ∧ i < w.heap.size) wr v rs ∧ Hid (Below w.heap.size w wr) ∧ Hid (p = k * s) ∧ Hid (k ≤ cnt xs.length s) ∧ Hid (pairs rs = spl ad xs s k)) (fun _ i _ => xs.length - (intOf i).toNat)
  case atStart => exact ⟨0, 0, [], rfl, by omega, ownR_start _ _ _ _, Below.refl _ _, by show 0 = 0 * s; omega, Nat.zero_le _, rfl⟩
  case round =>
    obtain ⟨k, p, rs, rfl, hp, hO, B, K, C, E⟩ := hrel
    have O := Lib.hid hO
    clear hO
    by_cases hlt : p < xs.length
    · have hlt' : (p : Int) < (xs.length : Int) := by omega
      have hs1 := S1.out
      have hs2 := S2.out
      obtain ⟨e, he⟩ : ∃ e, min (p + s) xs.length = e := ⟨_, rfl⟩
      have hmin : min ((p : Int) + (s : Int)) (xs.length : Int) = (e : Int) := by omega
      have he1 : p ≤ e := by omega
      have he2 : e ≤ cap := by omega
      have hsl := fun w => slB_lh A xs.length cap p e he1 he2 w
      have hD : chD xs s k = (xs.drop p).take (e - p) := by
        unfold chD
        rw [← K.out]
        by_cases h : p + s ≤ xs.length
        · rw [show e - p = s by omega]
        · rw [List.take_of_length_le (by simp; omega), List.take_of_length_le (by simp; omega)]
      have hDl : (chD xs s k).length = e - p := by rw [hD]; simp; omega
      obtain ⟨ob, hob⟩ : ∃ o, Obj.cells #[.int .i64 0, .int .i64 (ad + (p : Int)), .slice (subA A p cap) (e - p) (cap - p)] 142 = o := ⟨_, rfl⟩
      have hO2 := O.out.alloc ob
      have hal : Below wr.heap.size wr (wr.alloc ob) := (Below.refl _ _).alloc (Nat.le_refl _) ob
      have hX2 : BytesP (fun i => P i ∧ i < w.heap.size) (wr.alloc ob) A xs := (X.out.blocks fun i hi hp => B.out.block i hp.2).below hal
      have hd2 : BytesP (fun i => (P i ∧ i < w.heap.size) ∧ some i ≠ u7.ownBlock) (wr.alloc ob) (subA A p cap) (chD xs s k) := by
        rw [hD]
        refine ((hX2.sub p cap hc).take (e - p)).mono fun i _ hi => ⟨hi, fun h => ?_⟩
        have := (O.out.1.lt i h.symm).1; have h5 := hi.2
        omega
      have hrs : rs.length ≤ 1099511627776 := by
        have h2 := congrArg List.length E.out
        rw [spl_length] at h2
        unfold pairs at h2
        have h3 := cnt_le xs.length s hs1
        have h4 := C.out
        simp at h2
        omega
      have tc := three_cells wr wr.heap.size rfl (.int .i64 0) (.int .i64 (ad + (p : Int))) (.slice (subA A p cap) (e - p) (cap - p)) 142
      rw [hob] at tc
      obtain ⟨v', w', k1, k2, k3, k4⟩ := append_rec 139 142 Tryd.underlying139 info_rrec (n₀ := w.heap.size) (Nat.le_trans B.out.size hal.size) hO2 ⟨ad + (p : Int), subA A p cap, cap - p, chD xs s k⟩ ⟨wr.heap.size, 0, none⟩ 1 (by simpa [Addr.add] using tc.1) (by simpa [Addr.add] using tc.2.1) (by simpa [Addr.add, hDl] using tc.2.2) hd2 hrs 139
      rw [← hob] at k1
      have KK := Lib.hid k1
      have N2 : Hid (OwnR 142 w.heap.size (fun i => P i ∧ i < w.heap.size) w' v' (rs ++ [⟨ad + (p : Int), subA A p cap, cap - p, chD xs s k⟩])) := k2
      have B2 : Hid (Below w.heap.size w w') := ((B.out.alloc B.out.size ob).grown k3 (Nat.le_trans B.out.size hal.size) fun j hj => (O.out.1.lt j hj).1)
      have E2 : Hid (pairs (rs ++ [⟨ad + (p : Int), subA A p cap, cap - p, chD xs s k⟩]) = spl ad xs s (k + 1)) := by
        show _ = _
        rw [pairs_snoc, E.out, spl_succ, ← K.out]
      have K2 : Hid (p + s = (k + 1) * s) := by show _ = _; rw [Nat.add_mul, ← K.out, Nat.one_mul]
      have C2 : Hid (k + 1 ≤ cnt xs.length s) := (cnt_lt xs.length s k hs1).2 (by rw [← K.out]; exact hlt)
      have HE := Lib.hid he
      clear k1 k2 k3 k4 tc hO2 hal hX2 hd2 hrs hD hDl hob he
      go_wp2_with (at_builtin; refine wpList_run_append KK.out rfl _ _ rfl rfl rfl rfl ?_)
      go_roundw
      case rel => exact ⟨k + 1, p + s, _, by go_num, by omega, N2.out, B2.out, K2.out, C2.out, E2.out⟩
      case measure => simp [intOf]; omega
    · have hlt' : decide ((p : Int) < (xs.length : Int)) = false := decide_eq_false (by omega)
      have F : Hid (RetSpl 142 P w (splW ad (s : Int) xs) (.returned u7) wr) := by
        have hk : k = cnt xs.length s := by
          have h1 := C.out
          have h2 := mt (cnt_lt xs.length s k S1.out).1 (by rw [← K.out]; exact hlt)
          omega
        refine ⟨u7, rs, rfl, ⟨O.out.1, fun r hr => (O.out.2 r hr).mono fun i _ hi => ⟨hi.1.1, hi.2⟩⟩, ?_, B.out⟩
        rw [E.out, N.out, hk]
      go_wp2
      go_ret
      exact F.out
end Go.Proofs.YtmeegpdjhcilkaaDoor
/-
  slices.Chunk at []byte: the walk over it, and the contract of the function that it returns.
-/
namespace Go.Proofs.YtmeegpdjhcilkaaDoor
open Go.RowKit Go.Shelf
set_option linter.unusedVariables false
attribute [local go_sem] Oper.semAt_some

set_option maxHeartbeats 1000000 in
theorem chunk_any (A : Option Addr) (len cap : Nat) (s : Int) (h : 1 ≤ s) (w : World) (n : Nat) (hn : w.heap.size = n) :
    Calls Tryd.prog 99 #[.slice A len cap, .int .i64 s] w fun e w' => e = .returned (.func (.func 119) #[] #[.pointer (some ⟨n, 0, none⟩), .pointer (some ⟨n + 1, 0, none⟩)]) ∧ (w.alloc (.cells #[.slice A len cap] 59)).alloc (.cells #[.int .i64 s] 3) = w' := by
  subst hn
  have h' : decide (s < 1) = false := decide_eq_false (by omega)
  clear h
  go_enter Tryd.func99, Tryd.ntmps99
  go_wp2
  go_ret
  exact ⟨rfl, rfl⟩
/-- The k-th piece, as a slice. -/
def chV (A : Option Addr) (xs : List UInt8) (s k : Nat) : Value := .slice (subA A (k * s) (k * s + (chD xs s k).length)) (chD xs s k).length (chD xs s k).length
set_option maxHeartbeats 2000000 in
theorem chunk1_stops (n : Nat) (Q : Nat → Prop) (Bs Bn : Nat) (hQs : Q Bs) (hQn : Q Bn) (A : Option Addr) (cap : Nat) (xs : List UInt8) (s : Nat) (hs1 : 1 ≤ s) (hs2 : s ≤ 255) (hl : xs.length ≤ 65536) (hc : xs.length ≤ cap) (w : World)
    (hBs : Bs < w.heap.size) (hBn : Bn < w.heap.size) (hcs : w.cell? ⟨Bs, 0, none⟩ = some (.slice A xs.length cap)) (hcn : w.cell? ⟨Bn, 0, none⟩ = some (.int .i64 s)) :
    SeqStopsK Fence.wide n Tryd.prog 119 #[.pointer (some ⟨Bs, 0, none⟩), .pointer (some ⟨Bn, 0, none⟩)] (fun x : Nat => #[chV A xs s x]) (KeptP Q) (fun ys => ys = List.range (cnt xs.length s)) (fun _ => True) (cnt xs.length s) w := fun l J Jx W hW hJ hJx hY h0 => by
  have ks : W.cell? ⟨Bs, 0, none⟩ = some (.slice A xs.length cap) := (hW.cell (p := ⟨Bs, 0, none⟩) hBs).trans hcs
  have kn : W.cell? ⟨Bn, 0, none⟩ = some (.int .i64 s) := (hW.cell (p := ⟨Bn, 0, none⟩) hBn).trans hcn
  have hsz := hW.size
  have hJd : ∀ (m : Nat) (z : List Nat) (X : World), J z X → J z (X.drewN m) := fun m z X h => hJ z X _ none h ⟨rfl, rfl, rfl, Nat.le_refl _, fun _ _ _ => rfl⟩ (fun r e => by cases e)
  have S1 := Lib.hid hs1
  have S2 := Lib.hid hs2
  have KS := Lib.hid ks
  have KN := Lib.hid kn
  have ZZ := Lib.hid (And.intro (Nat.lt_of_lt_of_le hBs hsz) (Nat.lt_of_lt_of_le hBn hsz))
  have J0 := Lib.hid h0
  have HY := Lib.hid hY
  have HD := Lib.hid hJd
  clear hs1 hs2 ks kn hW hBs hBn hcs hcn hsz h0 hY hJd hJ hJx
  refine callsIn_wide.2 ?_
  show Calls Tryd.prog 119 #[.func (.yield l) #[] #[], .pointer (some ⟨Bs, 0, none⟩), .pointer (some ⟨Bn, 0, none⟩)] W _
  go_enter Tryd.func119, Tryd.ntmps119
  go_wp2
  go_loopw [4] (fun i wr => ∃ (k p : Nat), i = .int .i64 p ∧ p ≤ 70000 ∧ Hid (KeptP Q W wr) ∧ Hid (p = k * s) ∧ Hid (k ≤ cnt xs.length s) ∧ Hid (J (List.range k) wr)) (fun i _ => xs.length - (intOf i).toNat)
  case atStart => exact ⟨0, 0, rfl, by omega, KeptP.refl _ _, by show 0 = 0 * s; omega, Nat.zero_le _, J0.out⟩
  case round =>
    obtain ⟨k, p, rfl, hp, B, K, C, E⟩ := hrel
    have ks : wr.cell? ⟨Bs, 0, none⟩ = some (.slice A xs.length cap) := (B.out.cell (p := ⟨Bs, 0, none⟩) ZZ.out.1 hQs).trans KS.out
    have kn : wr.cell? ⟨Bn, 0, none⟩ = some (.int .i64 s) := (B.out.cell (p := ⟨Bn, 0, none⟩) ZZ.out.2 hQn).trans KN.out
    by_cases hlt : p < xs.length
    · have hlt' : (p : Int) < (xs.length : Int) := by omega
      have hs1 := S1.out
      have hs2 := S2.out
      have hk : k < cnt xs.length s := (cnt_lt xs.length s k hs1).2 (by rw [← K.out]; exact hlt)
      obtain ⟨d, hd⟩ : ∃ d, xs.length - p = d := ⟨_, rfl⟩
      obtain ⟨e, he⟩ : ∃ e, min s d = e := ⟨_, rfl⟩
      have hel : (chD xs s k).length = e := by rw [chD_length, ← K.out]; omega
      have hmin : min (s : Int) (d : Int) = (e : Int) := by omega
      have h1 := fun w => slB_l A xs.length cap p (Nat.le_of_lt hlt) w
      rw [hd] at h1
      have h2 := fun w => slB_lhm A xs.length cap p (p + e) (p + e) (by omega) (Nat.le_refl _) (by omega) w
      rw [show p + e - p = e by omega] at h2
      simp only [Int.natCast_add] at h2
      have hv : chV A xs s k = .slice (subA A p (p + e)) e e := by unfold chV; rw [hel, ← K.out]
      have hde : e ≤ 255 := by omega
      clear hs1 hs2 he hd hel
      go_wp2_with fail
      go_quiet (fail)
      obtain ⟨fn, tmps, assign, body, hy, hR⟩ := HY.out (List.range k) k (wr.drewN nq) (HD.out nq _ _ E.out) (by simpa using hk)
      rw [hv] at hy
      have ks2 : (wr.drewN nq).cell? ⟨Bs, 0, none⟩ = some (.slice A xs.length cap) := ks
      have kn2 : (wr.drewN nq).cell? ⟨Bn, 0, none⟩ = some (.int .i64 s) := kn
      have B2 : Hid (KeptP Q W (wr.drewN nq)) := B.out.drewN nq
      obtain ⟨wq, hwq⟩ : ∃ wq, wr.drewN nq = wq := ⟨_, rfl⟩
      rw [hwq] at hy hR ks2 kn2 B2 ⊢
      clear ks kn hwq E hv
      go_upto_region 4 with fail
      refine (wpIn_wide (n := n)).1 ?_
      gi_wp2
      refine ⟨fun h => (by cases h), hR.mono ?_⟩
      rintro e3 W3 (⟨rfl, hJ3, hk3⟩ | ⟨rfl, hJx3⟩)
      · have ks3 : W3.cell? ⟨Bs, 0, none⟩ = some (.slice A xs.length cap) := (hk3.cell (p := ⟨Bs, 0, none⟩) (Nat.lt_of_lt_of_le ZZ.out.1 B2.out.size) hQs).trans ks2
        have kn3 : W3.cell? ⟨Bn, 0, none⟩ = some (.int .i64 s) := (hk3.cell (p := ⟨Bn, 0, none⟩) (Nat.lt_of_lt_of_le ZZ.out.2 B2.out.size) hQn).trans kn2
        have K3 : Hid (p + s = (k + 1) * s) := by show _ = _; rw [Nat.add_mul, ← K.out, Nat.one_mul]
        have J3 : Hid (J (List.range (k + 1)) W3) := by show J _ _; rw [List.range_succ]; exact hJ3
        have B3 : Hid (KeptP Q W W3) := B2.out.trans hk3
        have hs1 := S1.out
        have hs2 := S2.out
        clear hJ3 hk3 hR hy ks2 kn2
        gi_wp2
        go_wp2
        go_roundw
        case rel => exact ⟨k + 1, p + s, by go_num, by omega, B3.out, K3.out, hk, J3.out⟩
        case measure => simp [intOf]; omega
      · clear hR hy ks2 kn2
        gi_wp2
        go_wp2
        refine bodyPost_ret (results_none rfl _ _ _) rfl ?_
        exact ⟨⟨_, rfl⟩, .inr ⟨_, trivial, hJx3⟩⟩
    · have hlt' : decide ((p : Int) < (xs.length : Int)) = false := decide_eq_false (by omega)
      have F : Hid (J (List.range (cnt xs.length s)) wr) := by
        have hk : k = cnt xs.length s := by
          have h1 := C.out
          have h2 := mt (cnt_lt xs.length s k S1.out).1 (by rw [← K.out]; exact hlt)
          omega
        have h := E.out
        rwa [hk] at h
      go_wp2
      go_end0
      exact ⟨⟨_, rfl⟩, .inl ⟨_, rfl, F.out⟩⟩
end Go.Proofs.YtmeegpdjhcilkaaDoor
/-
  What a round of record.Split's loop keeps and does.
-/
namespace Go.Proofs.YtmeegpdjhcilkaaDoor
open Go.RowKit Go.Shelf
set_option linter.unusedVariables false

/-- The bytes lie in a block that may be written. -/
def Wr (w : World) (A : Option Addr) (xs : List UInt8) : Prop := xs = [] ∨ ∃ (b off : Nat) (cs : Array Value) (t : {t : TypeId // t = 5}), A = some ⟨b, off, none⟩ ∧ w.heap[b]? = some (.cells cs t.1 (0, 0))
theorem Wr.kept {w w' : World} {A : Option Addr} {xs : List UInt8} {P Q : Nat → Prop} (h : Wr w A xs) (hb : BytesP P w A xs) (k : KeptP Q w w') (hPQ : ∀ i, P i → Q i) : Wr w' A xs := by
  rcases h with h | ⟨b, off, cs, t, h1, h2⟩
  · exact .inl h
  · rcases hb with h | ⟨b', off', h3, h4, _⟩
    · exact .inl h
    · rw [h1] at h3
      simp only [Option.some.injEq, Addr.mk.injEq, and_true] at h3
      obtain ⟨rfl, rfl⟩ := h3
      exact .inr ⟨b, off, cs, t, h1, (k.block b (Array.getElem?_eq_some_iff.1 h2).1 (hPQ b h4)).trans h2⟩
theorem Wr.below {w w' : World} {A : Option Addr} {xs : List UInt8} (h : Wr w A xs) (k : Below w.heap.size w w') : Wr w' A xs := by
  rcases h with h | ⟨b, off, cs, t, h1, h2⟩
  · exact .inl h
  · exact .inr ⟨b, off, cs, t, h1, (k.block b (Array.getElem?_eq_some_iff.1 h2).1).trans h2⟩
theorem own_wr {w : World} {base : Nat} {n cap : Nat} {A : Option Addr} {xs : List UInt8} (h : w.ownsRow base 5 1 (.slice A n cap) n (xs.map u8V)) : Wr w A xs := by
  rcases h.2 with ⟨h1, h0⟩ | ⟨g, cap', cur, h1, _, hg, _⟩
  · have := h.1
    rw [h0] at this
    left
    exact List.map_eq_nil_iff.1 (List.eq_nil_of_length_eq_zero (by omega))
  · simp only [Value.slice.injEq, true_and] at h1
    obtain ⟨rfl, rfl⟩ := h1
    exact .inr ⟨g, 0, cur, ⟨_, rfl⟩, rfl, hg⟩
theorem keptP_grown {w w' : World} {row : Option Nat} (k : w.grownBy w' row) : KeptP (fun i => some i ≠ row) w w' := ⟨k.os, k.tape, k.output, k.size, fun i hi hp => k.block i hi hp⟩
theorem BytesP.cells {P : Nat → Prop} {w : World} {A : Option Addr} {xs : List UInt8} (h : BytesP P w A xs) : BytesP (fun i => P i ∧ ∃ o : Obj, w.heap[i]? = some o ∧ o.isCells = true) w A xs := by
  by_cases h0 : xs = []
  · exact .inl h0
  · rcases h with h | ⟨b, off, rfl, hp, hc⟩
    · exact absurd h h0
    · have hl : 0 < xs.length := List.length_pos_iff.2 h0
      exact .inr ⟨b, off, rfl, ⟨hp, cells_of_cell (hc 0 hl)⟩, hc⟩
/-- The turn of a block that is no cells. -/
theorem OwnR.turn {e : TypeId} {n₀ : Nat} {P : Nat → Prop} {w w' : World} {v : Value} {rs : List R} (h : OwnR e n₀ P w v rs) {row : Option Nat} (hg : w.grownBy w' row) (hr : ∀ r, row = some r → ∃ o : Obj, w.heap[r]? = some o ∧ o.isCells = false) : OwnR e n₀ P w' v rs := by
  refine ⟨h.1.kept hg ?_, fun r hm => ?_⟩
  · rcases h.1.2 with ⟨h1, _⟩ | ⟨g, cap, cur, h1, _, hgb, _⟩
    · rw [h1]; exact .inl rfl
    · rw [h1]
      refine .inr fun e' => ?_
      obtain ⟨o, ho, hc⟩ := hr g (by simpa [Value.ownBlock] using e'.symm)
      rw [hgb] at ho; cases ho; cases hc
  · refine ((h.2 r hm).cells.blocks fun i hi hp => hg.block i hi fun e' => ?_).mono fun i _ hp => hp.1
    obtain ⟨o, ho, hc⟩ := hr i e'.symm
    obtain ⟨o', ho', hc'⟩ := hp.2
    rw [ho] at ho'; cases ho'; rw [hc] at hc'; cases hc'
theorem Wr.turn {w w' : World} {A : Option Addr} {xs : List UInt8} (h : Wr w A xs) {row : Option Nat} (hg : w.grownBy w' row) (hr : ∀ r, row = some r → ∃ o : Obj, w.heap[r]? = some o ∧ o.isCells = false) : Wr w' A xs := by
  rcases h with h | ⟨b, off, cs, t, h1, h2⟩
  · exact .inl h
  · refine .inr ⟨b, off, cs, t, h1, (hg.block b (Array.getElem?_eq_some_iff.1 h2).1 fun e' => ?_).trans h2⟩
    obtain ⟨o, ho, hc⟩ := hr b e'.symm
    rw [h2] at ho; cases ho; cases hc

/-! ### What has come -/
def sumL (xs : List UInt8) (s : Nat) (pre : List Nat) : Nat := (pre.map fun x => (chD xs s x).length).sum
theorem sumL_snoc (xs : List UInt8) (s : Nat) (pre : List Nat) (x : Nat) : sumL xs s (pre ++ [x]) = sumL xs s pre + (chD xs s x).length := by unfold sumL; simp
theorem sumL_le (xs : List UInt8) (s : Nat) (hs : s ≤ 255) (pre : List Nat) : sumL xs s pre ≤ 255 * pre.length := by
  unfold sumL
  induction pre with
  | nil => simp
  | cons x t ih =>
    have h := chD_length xs s x
    simp only [List.map_cons, List.sum_cons, List.length_cons]
    omega
def acc (ad : Int) (xs : List UInt8) (s : Nat) (pre : List Nat) : List (Int × List UInt8) := (List.range pre.length).map fun k => (ad + (sumL xs s (pre.take k) : Int), chD xs s (pre.getD k 0))
theorem acc_length (ad : Int) (xs : List UInt8) (s : Nat) (pre : List Nat) : (acc ad xs s pre).length = pre.length := by unfold acc; simp
theorem acc_snoc (ad : Int) (xs : List UInt8) (s : Nat) (pre : List Nat) (x : Nat) : acc ad xs s (pre ++ [x]) = acc ad xs s pre ++ [(ad + (sumL xs s pre : Int), chD xs s x)] := by
  unfold acc
  rw [List.length_append, List.length_singleton, List.range_succ, List.map_append]
  congr 1
  · refine List.map_congr_left fun k hk => ?_
    have hk' : k < pre.length := List.mem_range.1 hk
    rw [List.take_append_of_le_length (by omega), List.getD_eq_getElem?_getD, List.getD_eq_getElem?_getD, List.getElem?_append_left hk']
  · simp
theorem sumL_range (xs : List UInt8) (s k : Nat) : sumL xs s (List.range k) = min (k * s) xs.length := by
  induction k with
  | zero => simp [sumL]
  | succ k ih =>
    rw [List.range_succ, sumL_snoc, ih, chD_length, Nat.add_mul, Nat.one_mul]
    omega
theorem acc_range (ad : Int) (xs : List UInt8) (s m : Nat) (hs : 1 ≤ s) (hm : m ≤ cnt xs.length s) : acc ad xs s (List.range m) = spl ad xs s m := by
  unfold acc spl
  rw [List.length_range]
  refine List.map_congr_left fun k hk => ?_
  have hk' : k < m := List.mem_range.1 hk
  have h1 := (cnt_lt xs.length s k hs).1 (by omega)
  rw [List.take_range, sumL_range, show min k m = k by omega, show min (k * s) xs.length = k * s by omega, List.getD_eq_getElem?_getD, List.getElem?_range hk']
  rfl

/-! ### Between two rounds -/
/-- Box bl holds the row of the records, box ba the next address; what was there before the loop is as it was. -/
def SInv (w0 : World) (ba bl n1 : Nat) (ad : Int) (xs : List UInt8) (s : Nat) (pre : List Nat) (W : World) : Prop :=
  ∃ v rs, Boxed W bl 121 v ∧ Boxed W ba 3 (.int .i64 (ad + (sumL xs s pre : Int))) ∧ OwnR 78 n1 (n1 ≤ ·) W v rs ∧ (∀ r ∈ rs, Wr W r.A r.data) ∧ pairs rs = acc ad xs s pre ∧ KeptP (fun i => i < n1 ∧ i ≠ ba ∧ i ≠ bl) w0 W
theorem SInv.own {w0 : World} {ba bl n1 : Nat} {ad : Int} {xs : List UInt8} {s : Nat} (h1 : ba < n1) (h2 : bl < n1) : OwnFrom n1 (SInv w0 ba bl n1 ad xs s) := by
  rintro pre X Y row ⟨v, rs, a1, a2, a3, a4, a5, a6⟩ hg hr
  have hn : ∀ b, b < n1 → some b ≠ row := fun b hb e => by
    have := (hr b e.symm).1
    omega
  exact ⟨v, rs, a1.kept hg (hn _ h2), a2.kept hg (hn _ h1), a3.turn hg fun r e => (hr r e).2, fun r hm => (a4 r hm).turn hg fun r e => (hr r e).2, a5, a6.grown hg fun k e hk => hn k hk.1 e.symm⟩
theorem SInv.drew {w0 : World} {ba bl n1 : Nat} {ad : Int} {xs : List UInt8} {s : Nat} {pre : List Nat} {W : World} (h : SInv w0 ba bl n1 ad xs s pre W) : SInv w0 ba bl n1 ad xs s pre W.drew := by
  obtain ⟨v, rs, a1, a2, a3, a4, a5, a6⟩ := h
  have k : KeptP (fun _ => True) W W.drew := (KeptP.refl _ _).drew
  exact ⟨v, rs, a1, a2, a3.kept k (fun _ _ => trivial) fun _ _ => trivial, fun r hm => (a4 r hm).kept (a3.2 r hm) k fun _ _ => trivial, a5, a6.drew⟩
theorem keepsOthers_of_below {w w' : World} (h : Below w.heap.size w w') : KeepsOthers w w' := ⟨h.size, fun k o hk _ => (h.block k (Array.getElem?_eq_some_iff.1 hk).1).trans hk⟩
/-- A round: the piece is cloned, the record appended, the address moved on. -/
theorem SInv.step {w0 : World} {ba bl n1 : Nat} {ad : Int} {xs : List UInt8} {s : Nat} {pre : List Nat} {W : World} (hw0 : w0.heap.size = n1) (hba : ba < n1) (hbl : bl < n1) (hne : ba ≠ bl) (hlen : pre.length ≤ 65536) {v : Value} {rs : List R} {a : Int} (ha : ad + (sumL xs s pre : Int) = a)
    (a1 : Boxed W bl 121 v) (a2 : Boxed W ba 3 (.int .i64 a)) (a3 : OwnR 78 n1 (n1 ≤ ·) W v rs) (a4 : ∀ r ∈ rs, Wr W r.A r.data) (a5 : pairs rs = acc ad xs s pre) (a6 : KeptP (fun i => i < n1 ∧ i ≠ ba ∧ i ≠ bl) w0 W) (x : Nat)
    {A1 : Option Addr} {cap1 n : Nat} (hn : (chD xs s x).length = n) {w2 : World} (hO : OwnB W w2 (.slice A1 n cap1) (chD xs s x)) (ty : TypeId) :
    ∃ g cap' w4, (Builtin.append_ #[121, 121] ty #[v, .slice (some ⟨w2.heap.size, 0, none⟩) 1 1]).run Tryd.prog (w2.alloc (.cells #[.int .i64 0, .int .i64 a, .slice A1 n cap1] 78)) = .ok (.slice (some ⟨g, 0, none⟩) (rs.length + 1) cap') w4 ∧
      (Boxed w2 bl 121 v ∧ Boxed w2 ba 3 (.int .i64 a)) ∧ (Boxed w4 bl 121 v ∧ Boxed w4 ba 3 (.int .i64 a)) ∧
      KeepsFrom n1 W ((w4.setCell ⟨bl, 0, none⟩ (.slice (some ⟨g, 0, none⟩) (rs.length + 1) cap')).setCell ⟨ba, 0, none⟩ (.int .i64 (a + (n : Int)))) ∧
      KeptP (fun i => i < n1 ∧ i ≠ ba ∧ i ≠ bl) W ((w4.setCell ⟨bl, 0, none⟩ (.slice (some ⟨g, 0, none⟩) (rs.length + 1) cap')).setCell ⟨ba, 0, none⟩ (.int .i64 (a + (n : Int)))) ∧
      SInv w0 ba bl n1 ad xs s (pre ++ [x]) ((w4.setCell ⟨bl, 0, none⟩ (.slice (some ⟨g, 0, none⟩) (rs.length + 1) cap')).setCell ⟨ba, 0, none⟩ (.int .i64 (a + (n : Int)))) := by
  subst ha hn
  have hW : n1 ≤ W.heap.size := hw0 ▸ a6.size
  have hb2 := hO.2
  obtain ⟨A1', cap1', hv, hB⟩ := own_bytes hO.1 rfl
  simp only [Value.slice.injEq, true_and] at hv
  obtain ⟨rfl, rfl⟩ := hv
  have hF := own_wr hO.1
  obtain ⟨ob, hob⟩ : ∃ o, Obj.cells #[.int .i64 0, .int .i64 (ad + (sumL xs s pre : Int)), .slice A1 (chD xs s x).length cap1] 78 = o := ⟨_, rfl⟩
  have hal : Below w2.heap.size w2 (w2.alloc ob) := (Below.refl _ _).alloc (Nat.le_refl _) ob
  have tc := three_cells w2 w2.heap.size rfl (.int .i64 0) (.int .i64 (ad + (sumL xs s pre : Int))) (.slice A1 (chD xs s x).length cap1) 78
  rw [hob] at tc ⊢
  have b3 := (a3.below hb2).alloc ob
  have hd : BytesP (fun i => n1 ≤ i ∧ some i ≠ v.ownBlock) (w2.alloc ob) A1 (chD xs s x) := (hB.below hal).mono fun i _ hi => ⟨Nat.le_trans hW hi.1, fun h => by
    have h5 := (a3.1.lt i h.symm).2
    have h6 := hi.1
    omega⟩
  have hrs : rs.length = pre.length := by
    have := congrArg List.length a5
    rw [acc_length] at this
    unfold pairs at this
    simpa using this
  obtain ⟨v', w4, k1, k2, k3, k5⟩ := append_rec 121 78 Tryd.underlying121 info_rec (n₀ := n1) (Nat.le_trans hW (Nat.le_trans hb2.size hal.size)) b3 ⟨ad + (sumL xs s pre : Int), A1, cap1, chD xs s x⟩ ⟨w2.heap.size, 0, none⟩ 1 (by simpa [Addr.add] using tc.1) (by simpa [Addr.add] using tc.2.1) (by simpa [Addr.add] using tc.2.2) hd (by omega) ty
  have k2' := k2.1
  rw [List.length_append, List.length_singleton] at k2'
  obtain ⟨g, cap', rfl⟩ := ownsRow_succ k2'
  have hg1 : n1 ≤ g := (k2'.lt g rfl).1
  have hb3 : Below W.heap.size W (w2.alloc ob) := hb2.trans (hal.mono hb2.size)
  have c1 : Boxed w2 bl 121 v := (hb2.block bl a1.lt).trans a1
  have c2 : Boxed w2 ba 3 (.int .i64 (ad + (sumL xs s pre : Int))) := (hb2.block ba a2.lt).trans a2
  have hrow : ∀ k, v.ownBlock = some k → n1 ≤ k := fun k hk => (a3.1.lt k hk).1
  have d1 : Boxed w4 bl 121 v := (c1.alloc ob).kept k3 fun e => by have := hrow bl e.symm; omega
  have d2 : Boxed w4 ba 3 (.int .i64 (ad + (sumL xs s pre : Int))) := (c2.alloc ob).kept k3 fun e => by have := hrow ba e.symm; omega
  obtain ⟨w5, hw5⟩ : ∃ w5, w4.setCell ⟨bl, 0, none⟩ (.slice (some ⟨g, 0, none⟩) (rs.length + 1) cap') = w5 := ⟨_, rfl⟩
  have e1 : Boxed w5 bl 121 (.slice (some ⟨g, 0, none⟩) (rs.length + 1) cap') := hw5 ▸ d1.set _
  have e2 : Boxed w5 ba 3 (.int .i64 (ad + (sumL xs s pre : Int))) := hw5 ▸ d2.other hne _
  obtain ⟨w6, hw6⟩ : ∃ w6, w5.setCell ⟨ba, 0, none⟩ (.int .i64 (ad + (sumL xs s pre : Int) + ((chD xs s x).length : Int))) = w6 := ⟨_, rfl⟩
  have f1 : Boxed w6 bl 121 (.slice (some ⟨g, 0, none⟩) (rs.length + 1) cap') := hw6 ▸ e1.other (Ne.symm hne) _
  have f2 : Boxed w6 ba 3 (.int .i64 (ad + (sumL xs s pre : Int) + ((chD xs s x).length : Int))) := hw6 ▸ e2.set _
  have K46 : KeptP (fun i => i ≠ bl ∧ i ≠ ba) w4 w6 := by
    rw [← hw6, ← hw5]
    exact ((KeptP.refl _ _).setCell (by simp) _).setCell (by simp) _
  have KQ : KeptP (fun i => i < n1 ∧ i ≠ ba ∧ i ≠ bl) W w6 :=
    (((KeptP.of_all hb3).grown k3 fun k hk hq => by have := hrow k hk; omega).trans (K46.mono fun i _ hq => ⟨hq.2.2, hq.2.1⟩))
  have KF : KeepsFrom n1 W w6 := by
    have q1 : KeepsOthers W (w2.alloc ob) := keepsOthers_of_below hb3
    have q2 : KeepsOthers (w2.alloc ob) w4 := KeepsOthers.of_grownBy k3 fun j o ej hj => by
      rcases b3.1.2 with ⟨rfl, _⟩ | ⟨g0, cap0, cur, rfl, _, hgb, _⟩
      · simp [Value.ownBlock] at ej
      · obtain rfl : g0 = j := by simpa [Value.ownBlock] using ej
        rw [hgb] at hj; cases hj; rfl
    rw [← hw6, ← hw5]
    exact (((q1.trans q2).trans (KeepsOthers.setCell _ _ _)).trans (KeepsOthers.setCell _ _ _)).from _
  refine ⟨g, cap', w4, k1, ⟨c1, c2⟩, ⟨d1, d2⟩, ?_⟩
  rw [hw5, hw6]
  refine ⟨KF, KQ, _, rs ++ [⟨ad + (sumL xs s pre : Int), A1, cap1, chD xs s x⟩], f1, ?_, ?_, ?_, ?_, a6.trans KQ⟩
  · rw [sumL_snoc, show ad + ((sumL xs s pre + (chD xs s x).length : Nat) : Int) = ad + (sumL xs s pre : Int) + ((chD xs s x).length : Int) by omega]
    exact f2
  · exact k2.kept K46 (fun i hi => by
      have := Option.some.inj hi
      subst this
      omega) fun i hi => by
        have : n1 ≤ i := hi
        omega
  · have W3 : ∀ r ∈ rs ++ [(⟨ad + (sumL xs s pre : Int), A1, cap1, chD xs s x⟩ : R)], Wr w4 r.A r.data := fun r hr => by
      have hx : BytesP (fun i => n1 ≤ i ∧ some i ≠ v.ownBlock) (w2.alloc ob) r.A r.data ∧ Wr (w2.alloc ob) r.A r.data := by
        rcases List.mem_append.1 hr with hr | hr
        · exact ⟨b3.2 r hr, ((a4 r hr).below hb2).below hal⟩
        · rw [List.mem_singleton.1 hr]
          exact ⟨hd, hF.below hal⟩
      exact hx.2.kept hx.1 (keptP_grown k3) fun i hi => hi.2
    intro r hr
    exact (W3 r hr).kept (k2.2 r hr) K46 fun i hi => by
      have : n1 ≤ i := hi.1
      omega
  · rw [pairs_snoc, a5, acc_snoc]
end Go.Proofs.YtmeegpdjhcilkaaDoor
