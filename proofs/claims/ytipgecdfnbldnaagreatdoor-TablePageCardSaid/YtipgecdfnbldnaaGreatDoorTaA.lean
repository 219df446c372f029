/-
  TbA, TbB: texts joined to one.
-/
import Derived.Test.YtipgecdfnbldnaaGreatDoorBaA
import Derived.Lib.IndexMore
import Derived.Lib.SlBytesRow
set_option linter.all false
set_option maxRecDepth 100000
set_option maxHeartbeats 4000000
/-
  The lists of patterns as bytes; what a pattern, a field, a form and an entry are (pure).
-/
namespace Go.Proofs.YtipgecdfnbldnaaGreatDoor
open Go.RowKit
abbrev Str := List UInt8
def ixL (sub : Str) : Str → Option Nat
  | [] => if sub.isEmpty then some 0 else none
  | b :: l => if sub.isPrefixOf (b :: l) then some 0 else (ixL sub l).map (· + 1)
theorem index_ixL (sub : Str) : ∀ l : Str, Lib.index l sub = match ixL sub l with | none => -1 | some n => (n : Int)
  | [] => by
    unfold Lib.index ixL
    cases sub.isEmpty <;> simp
  | b :: l => by
    have ih := index_ixL sub l
    unfold Lib.index ixL
    rw [ih]
    cases sub.isPrefixOf (b :: l)
    · cases ixL sub l <;> simp <;> omega
    · simp
def cutL (sub l : Str) : Str × Str × Bool := match ixL sub l with
  | none => (l, [], false)
  | some n => (l.take n, l.drop (n + sub.length), true)
theorem cut_cutL (l sub : Str) : Lib.cut l sub = cutL sub l := by
  unfold Lib.cut cutL
  rw [index_ixL]
  cases h : ixL sub l <;> simp
theorem ixL_le (sub : Str) : ∀ (l : Str) (n : Nat), ixL sub l = some n → n + sub.length ≤ l.length
  | [], n, h => by
    unfold ixL at h
    cases sub with
    | nil => simp at h; subst h; simp
    | cons => simp at h
  | b :: l, n, h => by
    unfold ixL at h
    split at h
    · next hp =>
      have := List.IsPrefix.length_le (List.isPrefixOf_iff_prefix.1 hp)
      simp at h
      subst h
      simpa using this
    · cases hx : ixL sub l with
      | none => rw [hx] at h; simp at h
      | some m =>
        rw [hx] at h
        have ih := ixL_le sub l m hx
        simp at h
        simp
        omega
theorem cutL_lt (sub l : Str) (hs : 0 < sub.length) (hl : 0 < l.length) : (cutL sub l).2.1.length < l.length ∧ (cutL sub l).1.length ≤ l.length := by
  unfold cutL
  cases h : ixL sub l with
  | none => simpa using hl
  | some n =>
    have := ixL_le sub l n h
    simp
    omega
abbrev Pat := Str × Str
def rowP (row : Str) : Pat := ((cutL [32] row).1, (cutL [32] row).2.1)
def patsF : Nat → Str → List Pat
  | 0, _ => []
  | n + 1, l => if l.isEmpty then [] else rowP (cutL [59, 32] l).1 :: patsF n (cutL [59, 32] l).2.1
def mainS : Str := [48, 48, 48, 48, 48, 48, 48, 48, 32, 78, 79, 80, 59, 32, 48, 48, 48, 48, 49, 48, 48, 48, 32, 69, 88, 32, 65, 70, 44, 65, 70, 39, 59, 32, 48, 48, 48, 49, 48, 48,
  48, 48, 32, 68, 74, 78, 90, 32, 101, 59, 32, 48, 48, 48, 49, 49, 48, 48, 48, 32, 74, 82, 32, 101, 59, 32, 48, 48, 49, 107, 107, 48, 48, 48, 32, 74, 82, 32, 107, 44,
  101, 59, 32, 48, 48, 112, 112, 48, 48, 48, 49, 32, 76, 68, 32, 112, 44, 119, 59, 32, 48, 48, 112, 112, 49, 48, 48, 49, 32, 65, 68, 68, 32, 72, 76, 44, 112, 59, 32, 48,
  48, 48, 48, 48, 48, 49, 48, 32, 76, 68, 32, 40, 66, 67, 41, 44, 65, 59, 32, 48, 48, 48, 49, 48, 48, 49, 48, 32, 76, 68, 32, 40, 68, 69, 41, 44, 65, 59, 32, 48,
  48, 49, 48, 48, 48, 49, 48, 32, 76, 68, 32, 40, 119, 41, 44, 72, 76, 59, 32, 48, 48, 49, 49, 48, 48, 49, 48, 32, 76, 68, 32, 40, 119, 41, 44, 65, 59, 32, 48, 48,
  48, 48, 49, 48, 49, 48, 32, 76, 68, 32, 65, 44, 40, 66, 67, 41, 59, 32, 48, 48, 48, 49, 49, 48, 49, 48, 32, 76, 68, 32, 65, 44, 40, 68, 69, 41, 59, 32, 48, 48,
  49, 48, 49, 48, 49, 48, 32, 76, 68, 32, 72, 76, 44, 40, 119, 41, 59, 32, 48, 48, 49, 49, 49, 48, 49, 48, 32, 76, 68, 32, 65, 44, 40, 119, 41, 59, 32, 48, 48, 112,
  112, 48, 48, 49, 49, 32, 73, 78, 67, 32, 112, 59, 32, 48, 48, 112, 112, 49, 48, 49, 49, 32, 68, 69, 67, 32, 112, 59, 32, 48, 48, 114, 114, 114, 49, 48, 48, 32, 73, 78,
  67, 32, 114, 59, 32, 48, 48, 114, 114, 114, 49, 48, 49, 32, 68, 69, 67, 32, 114, 59, 32, 48, 48, 114, 114, 114, 49, 49, 48, 32, 76, 68, 32, 114, 44, 110, 59, 32, 48, 48,
  48, 48, 48, 49, 49, 49, 32, 82, 76, 67, 65, 59, 32, 48, 48, 48, 48, 49, 49, 49, 49, 32, 82, 82, 67, 65, 59, 32, 48, 48, 48, 49, 48, 49, 49, 49, 32, 82, 76, 65,
  59, 32, 48, 48, 48, 49, 49, 49, 49, 49, 32, 82, 82, 65, 59, 32, 48, 48, 49, 48, 48, 49, 49, 49, 32, 68, 65, 65, 59, 32, 48, 48, 49, 48, 49, 49, 49, 49, 32, 67,
  80, 76, 59, 32, 48, 48, 49, 49, 48, 49, 49, 49, 32, 83, 67, 70, 59, 32, 48, 48, 49, 49, 49, 49, 49, 49, 32, 67, 67, 70, 59, 32, 48, 49, 49, 49, 48, 49, 49, 48,
  32, 72, 65, 76, 84, 59, 32, 48, 49, 114, 114, 114, 115, 115, 115, 32, 76, 68, 32, 114, 44, 115, 59, 32, 49, 48, 97, 97, 97, 115, 115, 115, 32, 97, 32, 115, 59, 32, 49, 49,
  99, 99, 99, 48, 48, 48, 32, 82, 69, 84, 32, 99, 59, 32, 49, 49, 113, 113, 48, 48, 48, 49, 32, 80, 79, 80, 32, 113, 59, 32, 49, 49, 48, 48, 49, 48, 48, 49, 32, 82,
  69, 84, 59, 32, 49, 49, 48, 49, 49, 48, 48, 49, 32, 69, 88, 88, 59, 32, 49, 49, 49, 48, 49, 48, 48, 49, 32, 74, 80, 32, 40, 72, 76, 41, 59, 32, 49, 49, 49, 49,
  49, 48, 48, 49, 32, 76, 68, 32, 83, 80, 44, 72, 76, 59, 32, 49, 49, 99, 99, 99, 48, 49, 48, 32, 74, 80, 32, 99, 44, 119, 59, 32, 49, 49, 48, 48, 48, 48, 49, 49,
  32, 74, 80, 32, 119, 59, 32, 49, 49, 48, 49, 48, 48, 49, 49, 32, 79, 85, 84, 32, 40, 110, 41, 44, 65, 59, 32, 49, 49, 48, 49, 49, 48, 49, 49, 32, 73, 78, 32, 65,
  44, 40, 110, 41, 59, 32, 49, 49, 49, 48, 48, 48, 49, 49, 32, 69, 88, 32, 40, 83, 80, 41, 44, 72, 76, 59, 32, 49, 49, 49, 48, 49, 48, 49, 49, 32, 69, 88, 32, 68,
  69, 44, 72, 76, 59, 32, 49, 49, 49, 49, 48, 48, 49, 49, 32, 68, 73, 59, 32, 49, 49, 49, 49, 49, 48, 49, 49, 32, 69, 73, 59, 32, 49, 49, 99, 99, 99, 49, 48, 48,
  32, 67, 65, 76, 76, 32, 99, 44, 119, 59, 32, 49, 49, 113, 113, 48, 49, 48, 49, 32, 80, 85, 83, 72, 32, 113, 59, 32, 49, 49, 48, 48, 49, 49, 48, 49, 32, 67, 65, 76,
  76, 32, 119, 59, 32, 49, 49, 97, 97, 97, 49, 49, 48, 32, 97, 32, 110, 59, 32, 49, 49, 116, 116, 116, 49, 49, 49, 32, 82, 83, 84, 32, 116]
def cbS : Str := [48, 48, 111, 111, 111, 115, 115, 115, 32, 111, 32, 115, 59, 32, 48, 49, 98, 98, 98, 115, 115, 115, 32, 66, 73, 84, 32, 98, 44, 115, 59, 32, 49, 48, 98, 98, 98, 115, 115, 115,
  32, 82, 69, 83, 32, 98, 44, 115, 59, 32, 49, 49, 98, 98, 98, 115, 115, 115, 32, 83, 69, 84, 32, 98, 44, 115]
def edS : Str := [48, 49, 49, 49, 48, 48, 48, 48, 32, 73, 78, 32, 40, 67, 41, 59, 32, 48, 49, 114, 114, 114, 48, 48, 48, 32, 73, 78, 32, 114, 44, 40, 67, 41, 59, 32, 48, 49, 49, 49,
  48, 48, 48, 49, 32, 79, 85, 84, 32, 40, 67, 41, 44, 48, 59, 32, 48, 49, 114, 114, 114, 48, 48, 49, 32, 79, 85, 84, 32, 40, 67, 41, 44, 114, 59, 32, 48, 49, 112, 112,
  48, 48, 49, 48, 32, 83, 66, 67, 32, 72, 76, 44, 112, 59, 32, 48, 49, 112, 112, 49, 48, 49, 48, 32, 65, 68, 67, 32, 72, 76, 44, 112, 59, 32, 48, 49, 112, 112, 48, 48,
  49, 49, 32, 76, 68, 32, 40, 119, 41, 44, 112, 59, 32, 48, 49, 112, 112, 49, 48, 49, 49, 32, 76, 68, 32, 112, 44, 40, 119, 41, 59, 32, 48, 49, 120, 120, 120, 49, 48, 48,
  32, 78, 69, 71, 59, 32, 48, 49, 48, 48, 49, 49, 48, 49, 32, 82, 69, 84, 73, 59, 32, 48, 49, 120, 120, 120, 49, 48, 49, 32, 82, 69, 84, 78, 59, 32, 48, 49, 120, 48,
  120, 49, 49, 48, 32, 73, 77, 32, 48, 59, 32, 48, 49, 120, 49, 48, 49, 49, 48, 32, 73, 77, 32, 49, 59, 32, 48, 49, 120, 49, 49, 49, 49, 48, 32, 73, 77, 32, 50, 59,
  32, 48, 49, 48, 48, 48, 49, 49, 49, 32, 76, 68, 32, 73, 44, 65, 59, 32, 48, 49, 48, 48, 49, 49, 49, 49, 32, 76, 68, 32, 82, 44, 65, 59, 32, 48, 49, 48, 49, 48,
  49, 49, 49, 32, 76, 68, 32, 65, 44, 73, 59, 32, 48, 49, 48, 49, 49, 49, 49, 49, 32, 76, 68, 32, 65, 44, 82, 59, 32, 48, 49, 49, 48, 48, 49, 49, 49, 32, 82, 82,
  68, 59, 32, 48, 49, 49, 48, 49, 49, 49, 49, 32, 82, 76, 68, 59, 32, 49, 48, 49, 48, 48, 48, 48, 48, 32, 76, 68, 73, 59, 32, 49, 48, 49, 48, 48, 48, 48, 49, 32,
  67, 80, 73, 59, 32, 49, 48, 49, 48, 48, 48, 49, 48, 32, 73, 78, 73, 59, 32, 49, 48, 49, 48, 48, 48, 49, 49, 32, 79, 85, 84, 73, 59, 32, 49, 48, 49, 48, 49, 48,
  48, 48, 32, 76, 68, 68, 59, 32, 49, 48, 49, 48, 49, 48, 48, 49, 32, 67, 80, 68, 59, 32, 49, 48, 49, 48, 49, 48, 49, 48, 32, 73, 78, 68, 59, 32, 49, 48, 49, 48,
  49, 48, 49, 49, 32, 79, 85, 84, 68, 59, 32, 49, 48, 49, 49, 48, 48, 48, 48, 32, 76, 68, 73, 82, 59, 32, 49, 48, 49, 49, 48, 48, 48, 49, 32, 67, 80, 73, 82, 59,
  32, 49, 48, 49, 49, 48, 48, 49, 48, 32, 73, 78, 73, 82, 59, 32, 49, 48, 49, 49, 48, 48, 49, 49, 32, 79, 84, 73, 82, 59, 32, 49, 48, 49, 49, 49, 48, 48, 48, 32,
  76, 68, 68, 82, 59, 32, 49, 48, 49, 49, 49, 48, 48, 49, 32, 67, 80, 68, 82, 59, 32, 49, 48, 49, 49, 49, 48, 49, 48, 32, 73, 78, 68, 82, 59, 32, 49, 48, 49, 49,
  49, 48, 49, 49, 32, 79, 84, 68, 82]
def listS (page : Int) : Str := if page = 0 ∨ page = 3 ∨ page = 4 then mainS else if page = 1 ∨ page = 5 ∨ page = 6 then cbS else if page = 2 then edS else []
def mainP : List Pat := patsF 60 mainS
def cbP : List Pat := patsF 60 cbS
def edP : List Pat := patsF 60 edS
end Go.Proofs.YtipgecdfnbldnaaGreatDoor
/-
  A pattern's masks; whether an opcode fits; the number in a field.
-/
namespace Go.Proofs.YtipgecdfnbldnaaGreatDoor
open Go.RowKit
attribute [local go_sem] Oper.semAt_some
def sB (l : Str) : ByteArray := ⟨l.toArray⟩
theorem sB_size (l : Str) : (sB l).size = l.length := by show l.toArray.size = l.length; simp
theorem sB_at (l : Str) (j : Nat) (h : j < (sB l).size) (h' : j < l.length) : (sB l)[j] = l[j] := by
  have h1 : (sB l).data[j]'h = l[j] := by simp [sB]
  exact h1
def RowB (w : World) (s : ByteArray) (b : Nat) : Prop := ∀ j (h : j < s.size), w.cell? ⟨b, j, none⟩ = some (.int .u8 (s[j].toNat : Int))
theorem rowB_start (w : World) (s : ByteArray) (cap : Nat) (e : TypeId) : RowB (w.alloc (.cells (bytesRow s cap) e ((bytesRow s cap).size, (bytesRow s cap).size + 1))).drew s w.heap.size := fun j h => by
  have h1 := World.cell?_alloc_mark w (bytesRow s cap) e ((bytesRow s cap).size, (bytesRow s cap).size + 1) j
  rw [bytesRow_at s cap j h] at h1
  exact h1
def mskF (l : Str) : Nat → Int × Int
  | 0 => (0, 0)
  | k + 1 => if l[k]?.getD 0 = 48 then mskF l k else if l[k]?.getD 0 = 49 then (bits .or .u8 (mskF l k).1 (128 / 2 ^ k), (mskF l k).2) else ((mskF l k).1, bits .or .u8 (mskF l k).2 (128 / 2 ^ k))
theorem u8_is (c : UInt8) (n : Nat) (hn : n < 256) (b : Bool) (h : ((c.toNat : Int) == (n : Int)) = b) : decide (c = UInt8.ofNat n) = b := by
  have e : (UInt8.ofNat n).toNat = n := UInt8.toNat_ofNat_of_lt' hn
  cases b
  · simp at h ⊢
    intro h2
    subst h2
    exact h (by rw [e])
  · simp at h ⊢
    exact UInt8.toNat_inj.1 (by rw [e]; omega)
def opnF (l : Str) : Int × Int := mskF l 8
theorem masks_any (l f : Str) (hl : l.length = 8) (w : World) :
    Calls Tryz.prog 79 #[.agg #[.string (sB l), .string (sB f)]] w fun e w' => e = .returned (.tuple #[.int .u8 (opnF l).1, .int .u8 (opnF l).2]) ∧ Below w.heap.size w w' := by
  obtain ⟨s, hs⟩ : ∃ s, sB l = s := ⟨_, rfl⟩
  have hz : s.size = 8 := by rw [← hs, sB_size, hl]
  have hat : ∀ k (h : k < s.size) (h' : k < l.length), s[k] = l[k] := fun k h h' => by subst hs; exact sB_at l k h h'
  have HAT := Lib.hid hat
  have HL := Lib.hid hl
  have hcv := fun (w : World) => run_bytes_of_string (P := Tryz.prog) w 9 42 5 s Tryz.underlying9 Tryz.underlying42 Tryz.underlying5
  have S := Lib.hid (rowB_start (w.alloc (.cells #[.string s, .string (sB f)] 56)) s (grownCap (w.alloc (.cells #[.string s, .string (sB f)] 56)) s.size 0 5) 5)
  have HB : Hid (Below w.heap.size w ((w.alloc (.cells #[.string s, .string (sB f)] 56)).alloc (.cells (bytesRow s (grownCap (w.alloc (.cells #[.string s, .string (sB f)] 56)) s.size 0 5)) 5 ((bytesRow s (grownCap (w.alloc (.cells #[.string s, .string (sB f)] 56)) s.size 0 5)).size, (bytesRow s (grownCap (w.alloc (.cells #[.string s, .string (sB f)] 56)) s.size 0 5)).size + 1))).drew) :=
    (((Below.refl _ w).alloc (Nat.le_refl _) _).alloc (by simp) _).drew
  rw [hz] at S HB
  rw [hs]
  clear hs hat hl
  go_enter Tryz.func79, Tryz.ntmps79
  go_wp2
  clear hcv
  go_loopw [10, 2, 3] (fun i o u wr => ∃ k : Nat, k ≤ 8 ∧ i = .int .i64 k ∧ o = .int .u8 (mskF l k).1 ∧ u = .int .u8 (mskF l k).2 ∧ Hid (RowB wr s (w.heap.size + 1)) ∧ Hid (Below w.heap.size w wr)) (fun i _ _ _ => 8 - (intOf i).toNat)
  case atStart => exact ⟨0, Nat.zero_le _, rfl, rfl, rfl, (by have h := S.out; rw [World.size_alloc] at h; exact h), HB.out⟩
  case round =>
    clear S HB
    obtain ⟨k, hk, rfl, rfl, rfl, R, B⟩ := hrel
    by_cases hlt : k < 8
    · have hlt' : k < s.size := by omega
      have g1 : wr.cell? ⟨w.heap.size + 1, k, none⟩ = some (.int .u8 (s[k].toNat : Int)) := R.out k hlt'
      obtain ⟨c, hc⟩ : ∃ c, s[k] = c := ⟨_, rfl⟩
      rw [hc] at g1
      have HC := Lib.hid hc
      clear hc
      obtain ⟨o, ho⟩ : ∃ o, (mskF l k).1 = o := ⟨_, rfl⟩
      obtain ⟨u, hu⟩ : ∃ u, (mskF l k).2 = u := ⟨_, rfl⟩
      rw [ho, hu]
      have HO := Lib.hid ho
      have HU := Lib.hid hu
      clear ho hu
      go_wp2
      all_goals (have hl8 := HL.out)
      all_goals (have hck : l[k]?.getD 0 = c := by rw [List.getElem?_eq_getElem (by omega), Option.getD_some, ← HAT.out k hlt' (by omega)]; exact HC.out)
      · have e1 : c = 48 := of_decide_eq_true (u8_is c 48 (by decide) true (by assumption))
        go_roundw
        case rel => exact ⟨k + 1, by omega, by go_num, by rw [mskF, if_pos (hck.trans e1), HO.out], by rw [mskF, if_pos (hck.trans e1), HU.out], R, B⟩
        case measure => simp [intOf]; omega
      · have e0 : ¬ c = 48 := of_decide_eq_false (u8_is c 48 (by decide) false (by assumption))
        have e1 : c = 49 := of_decide_eq_true (u8_is c 49 (by decide) true (by assumption))
        go_roundw
        case rel => exact ⟨k + 1, by omega, by go_num, by rw [mskF, if_neg (by rw [hck]; exact e0), if_pos (hck.trans e1), HO.out], by rw [mskF, if_neg (by rw [hck]; exact e0), if_pos (hck.trans e1), HU.out], R, B⟩
        case measure => simp [intOf]; omega
      · have e0 : ¬ c = 48 := of_decide_eq_false (u8_is c 48 (by decide) false (by assumption))
        have e1 : ¬ c = 49 := of_decide_eq_false (u8_is c 49 (by decide) false (by assumption))
        go_roundw
        case rel => exact ⟨k + 1, by omega, by go_num, by rw [mskF, if_neg (by rw [hck]; exact e0), if_neg (by rw [hck]; exact e1), HO.out], by rw [mskF, if_neg (by rw [hck]; exact e0), if_neg (by rw [hck]; exact e1), HU.out], R, B⟩
        case measure => simp [intOf]; omega
    · obtain rfl : k = 8 := by omega
      go_wp2
      go_ret2
      exact ⟨rfl, B.out⟩
def fitsP (l : Str) (op : Int) : Bool := bits .andNot .u8 op (opnF l).2 == (opnF l).1
theorem tfits_any (l f : Str) (hl : l.length = 8) (op : Int) (w : World) :
    Calls Tryz.prog 50 #[.agg #[.string (sB l), .string (sB f)], .int .u8 op] w fun e w' => e = .returned (.bool (fitsP l op)) ∧ Below w.heap.size w w' := by
  have hm := masks_any l f hl (w.alloc (.cells #[.string (sB l), .string (sB f)] 56))
  go_enter Tryz.func50, Tryz.ntmps50
  go_wp2_with fail
  refine hm.mono ?_
  rintro e w' ⟨rfl, hb⟩
  have HB : Hid (Below w.heap.size w w') := ((Below.refl _ w).alloc (Nat.le_refl _) _).trans (hb.mono (by simp))
  clear hm hb
  go_wp2
  go_ret
  exact ⟨rfl, HB.out⟩
def numF (l : Str) (op : Int) (c : UInt8) : Nat → Int
  | 0 => 0
  | k + 1 => if l[k]?.getD 0 = c then bits .or .i64 (wrap64 (numF l op c k * 2)) (wrap64 (bits .and .u8 (op / 2 ^ (7 - k)) 1)) else numF l op c k
def numP (l : Str) (op : Int) (c : UInt8) : Int := numF l op c 8
theorem number_any (l f : Str) (hl : l.length = 8) (op : Int) (h0 : 0 ≤ op) (h1 : op ≤ 255) (c : UInt8) (w : World) :
    Calls Tryz.prog 85 #[.agg #[.string (sB l), .string (sB f), .int .u8 op], .int .u8 (c.toNat : Int)] w fun e w' => e = .returned (.int .i64 (numP l op c)) ∧ Below w.heap.size w w' := by
  obtain ⟨s, hs⟩ : ∃ s, sB l = s := ⟨_, rfl⟩
  have hz : s.size = 8 := by rw [← hs, sB_size, hl]
  have hat : ∀ k (h : k < s.size) (h' : k < l.length), s[k] = l[k] := fun k h h' => by subst hs; exact sB_at l k h h'
  have HAT := Lib.hid hat
  have HL := Lib.hid hl
  have hcv := fun (w : World) => run_bytes_of_string (P := Tryz.prog) w 9 42 5 s Tryz.underlying9 Tryz.underlying42 Tryz.underlying5
  obtain ⟨w1, hw1⟩ : ∃ w1, w.alloc (.cells #[.string s, .string (sB f), .int .u8 op] 58) = w1 := ⟨_, rfl⟩
  have S := Lib.hid (rowB_start w1 s (grownCap w1 s.size 0 5) 5)
  have HB : Hid (Below w.heap.size w (w1.alloc (.cells (bytesRow s (grownCap w1 s.size 0 5)) 5 ((bytesRow s (grownCap w1 s.size 0 5)).size, (bytesRow s (grownCap w1 s.size 0 5)).size + 1))).drew) := by
    subst hw1
    exact (((Below.refl _ w).alloc (Nat.le_refl _) _).alloc (by simp) _).drew
  have HB1 : Hid (Below w1.heap.size w1 (w1.alloc (.cells (bytesRow s (grownCap w1 s.size 0 5)) 5 ((bytesRow s (grownCap w1 s.size 0 5)).size, (bytesRow s (grownCap w1 s.size 0 5)).size + 1))).drew) :=
    ((Below.refl _ w1).alloc (Nat.le_refl _) _).drew
  have c0 : w1.cell? ⟨w.heap.size, 0, none⟩ = some (.string s) := by subst hw1; simp [go_sem]
  have c2 : w1.cell? ⟨w.heap.size, 2, none⟩ = some (.int .u8 op) := by subst hw1; simp [go_sem]
  have C2 := Lib.hid c2
  have hsz : w1.heap.size = w.heap.size + 1 := by subst hw1; simp
  rw [hz] at S HB HB1
  rw [hs]
  clear hs hat hl c2
  go_enter Tryz.func85, Tryz.ntmps85
  go_wp2
  clear hcv
  go_loopw [13, 5] (fun i o wr => ∃ k : Nat, k ≤ 8 ∧ i = .int .i64 k ∧ o = .int .i64 (numF l op c k) ∧ Hid (RowB wr s w1.heap.size) ∧ Hid (Below w.heap.size w wr) ∧ Hid (Below w1.heap.size w1 wr)) (fun i _ _ => 8 - (intOf i).toNat)
  case atStart => exact ⟨0, Nat.zero_le _, rfl, rfl, S.out, HB.out, HB1.out⟩
  case round =>
    clear S HB HB1
    obtain ⟨k, hk, rfl, rfl, R, B, B1⟩ := hrel
    by_cases hlt : k < 8
    · have hlt' : k < s.size := by omega
      have g1 : wr.cell? ⟨w1.heap.size, k, none⟩ = some (.int .u8 (s[k].toNat : Int)) := R.out k hlt'
      have g2 : wr.cell? ⟨w.heap.size, 2, none⟩ = some (.int .u8 op) := (B1.out.cell (show w.heap.size < w1.heap.size by omega)).trans C2.out
      rw [hsz] at g1
      obtain ⟨d, hd⟩ : ∃ d, s[k] = d := ⟨_, rfl⟩
      rw [hd] at g1
      have HD := Lib.hid hd
      clear hd
      obtain ⟨o, ho⟩ : ∃ o, numF l op c k = o := ⟨_, rfl⟩
      rw [ho]
      have HO := Lib.hid ho
      clear ho
      have hk7 : (k : Int) ≤ 7 := by omega
      go_wp2
      all_goals (have hl8 := HL.out)
      all_goals (have hck : l[k]?.getD 0 = d := by rw [List.getElem?_eq_getElem (by omega), Option.getD_some, ← HAT.out k hlt' (by omega)]; exact HD.out)
      · have e1 : d = c := UInt8.toNat_inj.1 (by
          have h : ((d.toNat : Int) == (c.toNat : Int)) = true := by assumption
          have h2 : (d.toNat : Int) = (c.toNat : Int) := by simpa using h
          omega)
        go_roundw
        case rel => exact ⟨k + 1, by omega, by go_num, by rw [numF, if_pos (hck.trans e1), HO.out], R, B, B1⟩
        case measure => simp [intOf]; omega
      · have e1 : ¬ d = c := fun e => by
          subst e
          have h : ((d.toNat : Int) == (d.toNat : Int)) = false := by assumption
          simp at h
        go_roundw
        case rel => exact ⟨k + 1, by omega, by go_num, by rw [numF, if_neg (by rw [hck]; exact e1), HO.out], R, B, B1⟩
        case measure => simp [intOf]; omega
    · obtain rfl : k = 8 := by omega
      go_wp2
      go_ret
      exact ⟨rfl, B.out⟩
end Go.Proofs.YtipgecdfnbldnaaGreatDoor
