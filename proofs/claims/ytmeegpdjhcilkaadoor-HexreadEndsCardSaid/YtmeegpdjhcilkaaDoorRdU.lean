/-
  The walks over strings.makeASCIISet, trimLeftASCII, trimRightASCII and strings.Trim at a set of two or more ASCII bytes.
-/
import Derived.Test.YtmeegpdjhcilkaaDoorRdT
import Derived.Laws.ResultCell
namespace Go.Proofs.YtmeegpdjhcilkaaDoor
open Go.RowKit
set_option linter.unusedVariables false

/-! ### The set -/
def RetSet (w : World) (cs : List UInt8) (e : Ending) (w' : World) : Prop :=
  ∃ c : Array Value, e = .returned (.tuple #[.agg c, .bool true]) ∧ c.size = 256 ∧ (∀ i, i < 256 → c[i]? = some (setV cs i)) ∧ Below w.heap.size w w'
theorem load_set {w : World} {b : Nat} {cs : List UInt8} (h : SetAt w b cs) :
    ∃ c : Array Value, (loadVar 98 ⟨b, 0, none⟩).run Tryd.prog w = .ok (.agg c) w ∧ c.size = 256 ∧ ∀ i, i < 256 → c[i]? = some (setV cs i) := by
  obtain ⟨c, hb, hs, hc⟩ := h
  exact ⟨c, run_loadVar_row w b 98 98 c (0, 0) _ hb Tryd.underlying98 rfl (by rw [hs]; exact info_set), hs, hc⟩
theorem store_set {w : World} {b : Nat} {cs ds : List UInt8} (h : SetAt w b cs) (c : Array Value) (hs : c.size = 256) (hc : ∀ i, i < 256 → c[i]? = some (setV ds i)) :
    ∃ w', (storeVar 98 ⟨b, 0, none⟩ (.agg c)).run Tryd.prog w = .ok () w' ∧ SetAt w' b ds ∧ Im.Keep b w w' := by
  obtain ⟨c0, hb, hs0, _⟩ := h
  have h1 : c.all (·.oneCell') = true := by
    rw [Array.all_eq_true]
    intro i hi
    have hi' : i < 256 := by omega
    have := hc i hi'
    rw [Array.getElem?_eq_getElem hi] at this
    rw [Option.some.inj this]
    rfl
  refine ⟨_, run_storeVar_row w b 98 98 c0 c hb (by rw [hs]; exact info_set) (by rw [hs0, hs]) h1, ⟨c, setRow_heap w b c0 c _ _ hb, hs, hc⟩, ⟨rfl, rfl, rfl, by simp, fun i hi hn => setRow_other w b i _ (by omega)⟩⟩
theorem SetAt.frozen {w : World} {b : Nat} {cs : List UInt8} (h : SetAt w b cs) (i : Nat) : w.frozen? ⟨b, i, none⟩ = false := by
  obtain ⟨c, hb, _⟩ := h
  exact Lib.frozen_of_heap hb i
theorem SetAt.below {w w' : World} {b : Nat} {cs : List UInt8} (h : SetAt w b cs) (k : Below w.heap.size w w') : SetAt w' b cs := World.rowIs.of_block h (k.block b (World.rowIs.lt h))
theorem set_new (w : World) (c : Array Value) (hs : c.size = 256) (cs : List UInt8) (hc : ∀ i, i < 256 → c[i]? = some (setV cs i)) : SetAt (w.alloc (.cells c 98)) w.heap.size cs := by
  have h := World.rowIs_alloc w c 98 (setV cs) (fun i hi => hc i (by omega))
  rw [hs] at h
  exact h
set_option maxRecDepth 100000 in
set_option maxHeartbeats 4000000 in
theorem makeSet_any (cs : List UInt8) (hl : cs.length ≤ 100) (ha : ∀ c ∈ cs, c.toNat < 128) (w : World) :
    Calls Tryd.prog 48 #[.string (strOf cs)] w (RetSet w cs) := by
  obtain ⟨c, hz, hs, hc⟩ := setZero_spec setZero_t
  have hb := zero_set c hz
  obtain ⟨s, hs', hsz, hat⟩ : ∃ s, strOf cs = s ∧ s.size = cs.length ∧ ∀ i (h : i < cs.length) (h' : i < s.size), s[i] = cs[i] := ⟨_, rfl, strOf_size cs, fun i h h' => by
    have h1 : (strOf cs).data[i]'h' = cs[i] := by simp only [strOf, List.getElem_toArray]; rfl
    exact h1⟩
  have N0 := Lib.hid (set_new w c hs [] hc)
  have B0 : Hid (Below w.heap.size w (w.alloc (.cells c 98))) := (Below.refl _ _).alloc (Nat.le_refl _) _
  have HA := Lib.hid ha
  have HAT := Lib.hid hat
  rw [hs']
  have HL := Lib.hid hl
  have hsl : s.size ≤ 100 := by omega
  have SZ := Lib.hid hsz
  clear hz hs hc ha hs' hat hl hsz
  go_enter Tryd.func48, Tryd.ntmps48
  go_wp2
  obtain ⟨w0, hw0⟩ : ∃ w0, w.alloc (.cells c 98) = w0 := ⟨_, rfl⟩
  rw [hw0] at N0 B0 ⊢
  clear hw0
  go_loopw [4] (fun iv wr => ∃ k : Nat, k ≤ s.size ∧ iv = .int .i64 k ∧ Hid (SetAt wr w.heap.size (cs.take k)) ∧ Hid (Below w.heap.size w wr)) (fun iv _ => s.size - (intOf iv).toNat)
  case atStart => exact ⟨0, Nat.zero_le _, rfl, N0.out, B0.out⟩
  case round =>
    clear N0 B0
    obtain ⟨k, hk, rfl, N, B⟩ := hrel
    by_cases hlt : k < s.size
    · have hkc : k < cs.length := by rw [← SZ.out]; exact hlt
      have hx : s[k] = cs[k] := HAT.out k hkc hlt
      have h128 : (s[k]).toNat < 128 := by rw [hx]; exact HA.out _ (List.getElem_mem hkc)
      have N2 : Hid (SetAt (wr.setCell ⟨w.heap.size, (s[k]).toNat, none⟩ (.bool true)) w.heap.size (cs.take (k + 1))) := by
        show SetAt _ _ _
        rw [List.take_succ_eq_append_getElem hkc, ← hx]
        exact N.out.add _
      have B2 : Hid (Below w.heap.size w (wr.setCell ⟨w.heap.size, (s[k]).toNat, none⟩ (.bool true))) := B.out.setCell (p := ⟨w.heap.size, (s[k]).toNat, none⟩) (Nat.le_refl _) _
      have c0 := World.rowIs.cell N.out (show (s[k]).toNat < 256 by omega)
      have f0 := N.out.frozen (s[k]).toNat
      unfold setV at c0
      obtain ⟨y, hy⟩ : ∃ y, (s[k]).toNat = y := ⟨_, rfl⟩
      obtain ⟨q, hq⟩ : ∃ q, ((cs.take k).any fun c => c.toNat == (s[k]).toNat) = q := ⟨_, rfl⟩
      rw [hq] at c0
      have hyi : ((s[k]).toNat : Int) = (y : Int) := by rw [hy]
      rw [hy] at c0 f0 h128 N2 B2
      clear hx hq hkc
      go_wp2
      go_roundw
      case rel => exact ⟨k + 1, hlt, by go_num, N2.out, B2.out⟩
      case measure => simp [intOf]; omega
    · have hk2 : cs.take k = cs := List.take_of_length_le (by have := SZ.out; omega)
      have N1 := N.out
      rw [hk2] at N1
      obtain ⟨d, hl, hs, hc⟩ := load_set N1
      obtain ⟨w2, hst, hN2, hK⟩ := store_set N1 d hs hc
      obtain ⟨d2, hl2, hs2, hc2⟩ := load_set hN2
      have F : Hid (RetSet w cs (.returned (.tuple #[.agg d2, .bool true])) w2) := ⟨d2, rfl, hs2, hc2, B.out.trans (hK.below (Nat.le_refl _) B.out.size)⟩
      clear hk2 N1 hs hc hs2 hc2 hN2 hK N B
      go_wp2_with (first | (refine Im.wpList_load_var rfl 98 (.tmp 2) rfl _ rfl _ hl ?_) | (refine Im.wpList_store_var rfl 98 (.tmp 2) (.tmp 20) rfl _ rfl _ rfl hst ?_))
      refine bodyPost_ret (v := .tuple #[.agg d2, .bool true]) ((results_cell_tmp rfl _ _ _).trans (by show (((loadVar 98 ⟨w.heap.size, 0, none⟩).run Tryd.prog w2).andThen fun v w₂ => Result.ok (Value.tuple #[v, .bool true]) w₂) = _; rw [hl2]; rfl)) rfl F.out

/-! ### Trimming -/
/-- Without the bytes of a set in front; without those at the end. -/
def trimLS (cs : List UInt8) (s : ByteArray) : ByteArray := ⟨(s.data.toList.dropWhile (cs.contains ·)).toArray⟩
def trimRS (cs : List UInt8) (s : ByteArray) : ByteArray := ⟨((s.data.toList.reverse.dropWhile (cs.contains ·)).reverse).toArray⟩
theorem trimLS_same (cs : List UInt8) (t : ByteArray) (h : 0 < t.size) (e : cs.contains t[0] = true) : trimLS cs (t.extract 1 t.size) = trimLS cs t := by
  apply bytes_ext
  unfold trimLS
  simp only [list_cons t h, List.dropWhile_cons, e, if_true]
theorem trimLS_stop (cs : List UInt8) (t : ByteArray) (h : 0 < t.size) (e : cs.contains t[0] = false) : trimLS cs t = t := by
  apply bytes_ext
  unfold trimLS
  show List.dropWhile (cs.contains ·) t.data.toList = _
  rw [list_cons t h, List.dropWhile_cons]
  simp only [e, Bool.false_eq_true, if_false]
theorem bytes_nil {t : ByteArray} (h : ¬ 0 < t.size) : t.data.toList = [] := by
  have h3 : t.data.toList.length = t.size := by simp
  exact List.eq_nil_of_length_eq_zero (by omega)
theorem trimLS_nil (cs : List UInt8) (t : ByteArray) (h : ¬ 0 < t.size) : trimLS cs t = t := by
  apply bytes_ext
  unfold trimLS
  simp [bytes_nil h]
theorem trimRS_nil (cs : List UInt8) (t : ByteArray) (h : ¬ 0 < t.size) : trimRS cs t = t := by
  apply bytes_ext
  unfold trimRS
  simp [bytes_nil h]
theorem list_snoc (t : ByteArray) (h : 0 < t.size) : t.data.toList = (t.extract 0 (t.size - 1)).data.toList ++ [t[t.size - 1]] := by
  rw [Lib.extract_data]
  have hl : t.data.toList.length = t.size := by simp
  have h1 : t.size - 1 < t.data.toList.length := by omega
  have h2 : t.data.toList.take (t.size - 1 + 1) = t.data.toList := List.take_of_length_le (by omega)
  rw [List.take_succ_eq_append_getElem h1] at h2
  conv => lhs; rw [← h2]
  simp
  rfl
theorem trimRS_same (cs : List UInt8) (t : ByteArray) (h : 0 < t.size) (e : cs.contains t[t.size - 1] = true) : trimRS cs (t.extract 0 (t.size - 1)) = trimRS cs t := by
  apply bytes_ext
  unfold trimRS
  have h1 := list_snoc t h
  obtain ⟨l, hl⟩ : ∃ l, t.data.toList = l := ⟨_, rfl⟩
  rw [hl] at h1 ⊢
  rw [h1, List.reverse_append, List.reverse_singleton, List.singleton_append, List.dropWhile_cons]
  simp only [e, if_true]
theorem trimRS_stop (cs : List UInt8) (t : ByteArray) (h : 0 < t.size) (e : cs.contains t[t.size - 1] = false) : trimRS cs t = t := by
  apply bytes_ext
  unfold trimRS
  have h1 := list_snoc t h
  obtain ⟨l, hl⟩ : ∃ l, t.data.toList = l := ⟨_, rfl⟩
  rw [hl] at h1 ⊢
  rw [h1, List.reverse_append, List.reverse_singleton, List.singleton_append, List.dropWhile_cons]
  simp only [e, Bool.false_eq_true, if_false]
  simp
set_option maxHeartbeats 1000000 in
theorem trimLeftSet_any (b : Nat) (cs : List UInt8) (s : ByteArray) (hs : s.size ≤ maxLen) (w : World) (hS : SetAt w b cs) :
    Calls Tryd.prog 53 #[.string s, .pointer (some ⟨b, 0, none⟩)] w fun e w' => e = .returned (.string (trimLS cs s)) ∧ w = w' := by
  unfold maxLen at hs
  have SA := Lib.hid hS
  clear hS
  go_enter Tryd.func53, Tryd.ntmps53
  go_wp2
  go_loop [0] (fun v => ∃ t : ByteArray, v = .string t ∧ t.size ≤ 2 ^ 63 - 1 ∧ Hid (trimLS cs t = trimLS cs s)) (fun v => strLen v)
  case atStart => exact ⟨s, rfl, hs, rfl⟩
  case round =>
    obtain ⟨t, rfl, ht, T⟩ := hrel
    by_cases h : 0 < t.size
    · have hne : ((t.size : Int) == 0) = false := by rw [beq_eq_false_iff_ne]; omega
      have hca := contains_any b cs t[0] w SA.out
      cases e : cs.contains t[0]
      · have N : Hid (t = trimLS cs s) := (trimLS_stop cs t h e).symm.trans T.out
        rw [e] at hca
        clear e
        go_wp2_with fail
        refine hca.mono ?_
        rintro e w' ⟨rfl, rfl⟩
        go_wp2
        go_ret
        exact ⟨ret_str N.out, rfl⟩
      · have N : Hid (trimLS cs (t.extract 1 t.size) = trimLS cs s) := (trimLS_same cs t h e).trans T.out
        rw [e] at hca
        clear e
        go_wp2_with fail
        refine hca.mono ?_
        rintro e w' ⟨rfl, rfl⟩
        go_wp2
        go_round
        case rel => exact ⟨_, rfl, Nat.le_trans (extract_le t 1 t.size) ht, N⟩
        case measure => simp [strLen]; omega
    · have N : Hid (t = trimLS cs s) := (trimLS_nil cs t h).symm.trans T.out
      go_wp2
      go_ret
      exact ⟨ret_str N.out, rfl⟩
set_option maxHeartbeats 1000000 in
theorem trimRightSet_any (b : Nat) (cs : List UInt8) (s : ByteArray) (hs : s.size ≤ maxLen) (w : World) (hS : SetAt w b cs) :
    Calls Tryd.prog 49 #[.string s, .pointer (some ⟨b, 0, none⟩)] w fun e w' => e = .returned (.string (trimRS cs s)) ∧ w = w' := by
  unfold maxLen at hs
  have SA := Lib.hid hS
  clear hS
  go_enter Tryd.func49, Tryd.ntmps49
  go_wp2
  go_loop [0] (fun v => ∃ t : ByteArray, v = .string t ∧ t.size ≤ 2 ^ 63 - 1 ∧ Hid (trimRS cs t = trimRS cs s)) (fun v => strLen v)
  case atStart => exact ⟨s, rfl, hs, rfl⟩
  case round =>
    obtain ⟨t, rfl, ht, T⟩ := hrel
    by_cases h : 0 < t.size
    · have hne : ((t.size : Int) == 0) = false := by rw [beq_eq_false_iff_ne]; omega
      have hca := contains_any b cs (t[t.size - 1]'(by omega)) w SA.out
      cases e : cs.contains (t[t.size - 1]'(by omega))
      · have N : Hid (t = trimRS cs s) := (trimRS_stop cs t h e).symm.trans T.out
        rw [e] at hca
        clear e
        go_wp2_with fail
        refine hca.mono ?_
        rintro e w' ⟨rfl, rfl⟩
        go_wp2
        go_ret
        exact ⟨ret_str N.out, rfl⟩
      · have N : Hid (trimRS cs (t.extract 0 (t.size - 1)) = trimRS cs s) := (trimRS_same cs t h e).trans T.out
        rw [e] at hca
        clear e
        go_wp2_with fail
        refine hca.mono ?_
        rintro e w' ⟨rfl, rfl⟩
        go_wp2
        go_round
        case rel => exact ⟨_, rfl, Nat.le_trans (extract_le t 0 (t.size - 1)) ht, N⟩
        case measure => simp [strLen]; omega
    · have N : Hid (t = trimRS cs s) := (trimRS_nil cs t h).symm.trans T.out
      go_wp2
      go_ret
      exact ⟨ret_str N.out, rfl⟩
end Go.Proofs.YtmeegpdjhcilkaaDoor
