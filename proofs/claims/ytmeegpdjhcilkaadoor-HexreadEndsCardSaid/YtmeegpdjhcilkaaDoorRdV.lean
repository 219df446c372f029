/-
  The walks over strings.Trim at a set of two or more ASCII bytes, strings.TrimRight at a byte 13, and hexread.isBlank.
-/
import Derived.Test.YtmeegpdjhcilkaaDoorRdU
namespace Go.Proofs.YtmeegpdjhcilkaaDoor
open Go.RowKit
set_option linter.unusedVariables false

theorem dropWhile_nil {p : UInt8 → Bool} {l : List UInt8} : l.dropWhile p = [] ↔ ∀ c ∈ l, p c = true := by
  induction l with
  | nil => simp
  | cons a t ih =>
    rw [List.dropWhile_cons]
    cases h : p a
    · simp [h]
    · simp [h, ih]
def trimS (cs : List UInt8) (s : ByteArray) : ByteArray := trimLS cs (trimRS cs s)
theorem trimRS_le (cs : List UInt8) (s : ByteArray) : (trimRS cs s).size ≤ s.size := by
  have h : (trimRS cs s).size = (s.data.toList.reverse.dropWhile (cs.contains ·)).length := by
    show ((s.data.toList.reverse.dropWhile (cs.contains ·)).reverse).toArray.size = _
    simp
  have h2 := (List.dropWhile_suffix (l := s.data.toList.reverse) (cs.contains ·)).length_le
  rw [List.length_reverse] at h2
  have h3 : s.data.toList.length = s.size := by simp
  omega
theorem trimS_nil (cs : List UInt8) (s : ByteArray) : (trimS cs s).toList.isEmpty = s.data.toList.all (cs.contains ·) := by
  obtain ⟨l, hl⟩ : ∃ l, s.data.toList = l := ⟨_, rfl⟩
  have e : (trimS cs s).toList = ((l.reverse.dropWhile (cs.contains ·)).reverse).dropWhile (cs.contains ·) := by
    rw [ByteArray.toList_eq]
    unfold trimS trimLS trimRS
    simp [hl]
  rw [e, hl, Bool.eq_iff_iff, List.isEmpty_iff, List.all_eq_true, dropWhile_nil (p := (cs.contains ·))]
  obtain ⟨m, hm⟩ : ∃ m, l.reverse.dropWhile (cs.contains ·) = m := ⟨_, rfl⟩
  rw [hm]
  constructor
  · intro h
    have hn : m = [] := by
      cases m with
      | nil => rfl
      | cons a t =>
        have h1 := List.head?_dropWhile_not (cs.contains ·) l.reverse
        rw [hm] at h1
        have h2 := h a (by simp)
        simp only [List.head?_cons] at h1
        rw [h2] at h1
        cases h1
    rw [hn] at hm
    have h3 := dropWhile_nil.1 hm
    exact fun c hc => h3 c (List.mem_reverse.2 hc)
  · intro h
    have hn : m = [] := by
      rw [← hm]
      exact dropWhile_nil.2 fun c hc => h c (List.mem_reverse.1 hc)
    rw [hn]
    intro c hc
    cases hc
theorem trimS_empty (cs : List UInt8) (s : ByteArray) (h : s.toList.isEmpty = true) : trimS cs s = s := by
  have h1 : ¬ 0 < s.size := by
    rw [ByteArray.toList_eq] at h
    have h2 : s.data.toList = [] := by simpa using h
    have h3 : s.data.toList.length = s.size := by simp
    rw [h2] at h3
    simp at h3
    omega
  unfold trimS
  rw [trimRS_nil cs s h1, trimLS_nil cs s h1]
set_option maxRecDepth 100000 in
set_option maxHeartbeats 4000000 in
theorem trim_any (cs : List UInt8) (h2 : 2 ≤ cs.length) (hl : cs.length ≤ 100) (ha : ∀ c ∈ cs, c.toNat < 128) (s : ByteArray) (hs : s.size ≤ maxLen) (w : World) :
    Calls Tryd.prog 20 #[.string s, .string (strOf cs)] w fun e w' => e = .returned (.string (trimS cs s)) ∧ Below w.heap.size w w' := by
  have hmk := makeSet_any cs hl ha w
  have hsz : (strOf cs).size = cs.length := strOf_size cs
  have hne : (strOf cs).toList.isEmpty = false := by
    rw [ByteArray.toList_eq]
    cases cs with
    | nil => simp at h2
    | cons c t => simp [strOf]
  have h1 : (((strOf cs).size : Int) == 1) = false := beq_eq_false_iff_ne.2 (by omega)
  obtain ⟨t, ht⟩ : ∃ t, strOf cs = t := ⟨_, rfl⟩
  rw [ht] at hmk hne h1 hsz ⊢
  have hts : t.size ≤ 100 := by omega
  clear ht hl ha hsz
  cases he : s.toList.isEmpty
  case true =>
    have E := Lib.hid (trimS_empty cs s he)
    clear hmk
    go_enter Tryd.func20, Tryd.ntmps20
    go_wp2
    go_ret
    exact ⟨ret_str E.out.symm, Below.refl _ _⟩
  case false =>
    obtain ⟨z, hz, hzs, hzc⟩ := setZero_spec setZero_t
    have hb := zero_set z hz
    have HS := Lib.hid hs
    clear h2 hz
    go_enter Tryd.func20, Tryd.ntmps20
    go_wp2_with fail
    refine hmk.mono ?_
    rintro e w1 ⟨c, rfl, hcs, hcc, hb1⟩
    have S0 := set_new w1 z hzs [] hzc
    have B1 : Below w.heap.size w (w1.alloc (.cells z 98)) := hb1.alloc hb1.size _
    obtain ⟨w2, hst, S2, K2⟩ := store_set S0 c hcs hcc
    have B2 : Hid (Below w.heap.size w w2) := B1.trans (K2.below hb1.size B1.size)
    have S3 := Lib.hid S2
    clear hcs hcc hb1 S0 B1 S2 K2 hzs hzc hmk
    go_wp2_with (first | (refine Im.wpList_store_var rfl 98 (.tmp 5) (.tmp 32) rfl _ rfl _ rfl hst ?_) | fail)
    refine (trimRightSet_any _ cs s HS.out _ S3.out).mono ?_
    rintro e w3 ⟨rfl, rfl⟩
    go_wp2_with fail
    refine (trimLeftSet_any _ cs (trimRS cs s) (Nat.le_trans (trimRS_le cs s) HS.out) _ S3.out).mono ?_
    rintro e w3 ⟨rfl, rfl⟩
    go_wp2
    go_ret
    exact ⟨rfl, B2.out⟩
set_option maxHeartbeats 1000000 in
theorem isBlank_any (x : List UInt8) (hx : x.length ≤ maxLen) (w : World) :
    Calls Tryd.prog 63 #[.string (strOf x)] w fun e w' => e = .returned (.bool (blankL x)) ∧ Below w.heap.size w w' := by
  have ht := trim_any [32, 9] (by decide) (by decide) (by decide) (strOf x) (by rw [strOf_size]; exact hx) w
  have h32 : strOf [32, 9] = ⟨#[32, 9]⟩ := rfl
  have hn := trimS_nil [32, 9] (strOf x)
  have e : (strOf x).data.toList.all (([32, 9] : List UInt8).contains ·) = blankL x := by
    have e1 : (strOf x).data.toList = x := by simp [strOf]
    rw [e1]
    unfold blankL
    congr 1
    funext c
    simp
    rfl
  rw [e] at hn
  rw [h32] at ht
  obtain ⟨s, hs⟩ : ∃ s, trimS [32, 9] (strOf x) = s := ⟨_, rfl⟩
  obtain ⟨t, ht'⟩ : ∃ t, strOf x = t := ⟨_, rfl⟩
  rw [hs] at ht hn
  rw [ht'] at ht ⊢
  clear hs ht' e h32
  have hq : (s.toList == (⟨#[]⟩ : ByteArray).toList) = blankL x := by
    rw [← hn]
    have e0 : (⟨#[]⟩ : ByteArray).toList = [] := by rw [ByteArray.toList_eq]
    rw [e0]
    cases s.toList <;> rfl
  have Q := Lib.hid hq
  have Q2 := Lib.hid hn
  clear hq hn
  go_enter Tryd.func63, Tryd.ntmps63
  go_wp2_with fail
  refine ht.mono ?_
  rintro e w1 ⟨rfl, hb⟩
  have B := Lib.hid hb
  clear hb ht
  go_wp2
  go_ret
  exact ⟨ret_bool Q2.out, B.out⟩
end Go.Proofs.YtmeegpdjhcilkaaDoor
