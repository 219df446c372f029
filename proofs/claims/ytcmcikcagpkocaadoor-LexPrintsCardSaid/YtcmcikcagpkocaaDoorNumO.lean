/-
  Walks over breadboardref01.Upper, num.Bytes and breadboardref01.Bytes.
-/
import Derived.Test.YtcmcikcagpkocaaDoorNumN
import Derived.Test.YtcmcikcagpkocaaDoorNumD
import Derived.Test.YtcmcikcagpkocaaDoorNumJ
import Derived.Laws.BytesArg
namespace Go.Proofs.YtcmcikcagpkocaaDoor
open Go.RowKit
set_option linter.unusedVariables false

theorem ownB_string {w wr : World} {v : Value} {xs : List UInt8} (h : OwnB w wr v xs) (s : ByteArray) (hs : s.data.toList = xs) :
    (convert 69 9 v).run Tryd.prog wr = .ok (.string s) wr := by
  have e : s = ⟨xs.toArray⟩ := bytes_ext (by simpa using hs)
  subst e
  rcases h.1.2 with ⟨rfl, h0⟩ | ⟨g, cap, cur, rfl, _⟩
  · have hx : xs = [] := List.eq_nil_of_length_eq_zero h0
    subst hx
    rw [run_convert_bytes_nil (P := Tryd.prog) wr 69 5 Tryd.underlying69 Tryd.underlying5 0 0 9 Tryd.underlying9]
    rfl
  · refine run_convert_bytes_back wr 69 9 5 ⟨g, 0, none⟩ cap xs Tryd.underlying69 Tryd.underlying5 Tryd.underlying9 (fun j hj => ?_)
    have h1 := h.1.cells (g := g) rfl j (u8V xs[j]) (by simp [List.getElem?_eq_getElem hj])
    exact h1
/-- 'out = append(out, x)' at a row of bytes of the call's own. -/
theorem wpList_app1 {w wr : World} {v : Value} {xs : List UInt8} (R : OwnB w wr v xs) {ops : Array Oper} {rest : List Oper} {o : Oper} {a : Act} {Q : Exit → Act → World → Prop} (hgd : o.guard = none) (s x : Operand)
    (ho : o.op = .call { callee := .builtin .append, args := #[s, x], argTypes := #[69, 69] }) (hs : a.eval s = v) (hx : a.eval x = .slice (some ⟨wr.heap.size, 0, none⟩) 1 1)
    (y : Int) (b : UInt8) (hy : y = (b.toNat : Int)) (hlen : xs.length < 140737488355328)
    (h : ∀ v' w1, OwnB w w1 v' (xs ++ [b]) → wpList Tryd.prog ops Q rest (a.put o.dst v') w1) : wpList Tryd.prog ops Q (o :: rest) a (wr.alloc (.cells #[.int .u8 y] 5)) := by
  obtain ⟨i0, hi, hz0, hz1, hz2⟩ := info_parts info_u8
  have hB := R.2.size
  refine wpList_append_own _ hgd s x 69 ho w.heap.size 5 i0 (.int .u8 0) 1 1 Tryd.underlying69 hi hz0 hz1 hz2 rfl (by decide) v xs.length _ hs (R.1.alloc _) ⟨wr.heap.size, 0, none⟩ 1 1 [.int .u8 y] hx rfl ?_ ?_ ?_ ?_ ?_ ?_
  · intro j u hj
    match j, hj with
    | 0, hj => simp at hj; subst hj; simp [Addr.add, go_sem]
  · intro u hu; simp at hu; subst hu; rfl
  · unfold maxLen; omega
  · omega
  · simp; omega
  · intro v' w1 hown' hgrow _
    exact h v' w1 (ownB_snoc R b y hy hown' hgrow)
theorem map_take_cap (s : ByteArray) (k : Nat) (h : k < s.size) : (s.data.toList.take (k + 1)).map capU = (s.data.toList.take k).map capU ++ [capU s[k]] := by
  rw [take_snoc s k h, List.map_append]; rfl

set_option maxHeartbeats 1000000 in
theorem rupper_any (s : ByteArray) (hl : s.size ≤ 140737488355328) (w : World) :
    Calls Tryd.prog 62 #[.string s] w fun e w' => e = .returned (.string (upB s)) ∧ Below w.heap.size w w' := by
  go_enter Tryd.func62, Tryd.ntmps62
  go_wp2
  go_loopw [3, 4] (fun v i wr => ∃ k : Nat, k ≤ s.size ∧ i = .int .i64 k ∧ OwnB w wr v ((s.data.toList.take k).map capU)) (fun _ i _ => s.size - (intOf i).toNat)
  case atStart => exact ⟨0, Nat.zero_le _, rfl, ownB_start w⟩
  case round =>
    obtain ⟨k, hk, rfl, hr⟩ := hrel
    have hlen : ((s.data.toList.take k).map capU).length ≤ k := by simp; omega
    obtain ⟨L, hL⟩ : ∃ L, (s.data.toList.take k).map capU = L := ⟨_, rfl⟩
    rw [hL] at hr hlen
    have HL := Lib.hid hL
    clear hL
    have R := Lib.hid hr
    clear hr
    by_cases hlt : k < s.size
    · have c0 : (0 : Int) ≤ (s[k].toNat : Int) := by omega
      have c1 : (s[k].toNat : Int) ≤ 255 := by have := s[k].toNat_lt; omega
      by_cases h1 : 97 ≤ (s[k].toNat : Int)
      · by_cases h2 : (s[k].toNat : Int) ≤ 122
        · have Y : Hid ((s[k].toNat : Int) - 32 = ((capU s[k]).toNat : Int)) := by show _ = _; rw [capU_nat]; unfold capI; rw [if_pos ⟨h1, h2⟩]
          go_wp2_with (at_builtin; refine wpList_app1 R.out rfl _ _ rfl rfl rfl ((s[k].toNat : Int) - 32) (capU s[k]) Y.out (by omega) ?_; intro v' w1 hown')
          have N := Lib.hid hown'
          clear hown'
          go_wp2
          go_roundw
          case rel => exact ⟨k + 1, by omega, by go_num, by rw [map_take_cap s k hlt, HL.out]; exact N.out⟩
          case measure => simp [intOf]; omega
        · have Y : Hid ((s[k].toNat : Int) = ((capU s[k]).toNat : Int)) := by show _ = _; rw [capU_nat]; unfold capI; rw [if_neg (by omega)]
          go_wp2_with (at_builtin; refine wpList_app1 R.out rfl _ _ rfl rfl rfl (s[k].toNat : Int) (capU s[k]) Y.out (by omega) ?_; intro v' w1 hown')
          have N := Lib.hid hown'
          clear hown'
          go_wp2
          go_roundw
          case rel => exact ⟨k + 1, by omega, by go_num, by rw [map_take_cap s k hlt, HL.out]; exact N.out⟩
          case measure => simp [intOf]; omega
      · have Y : Hid ((s[k].toNat : Int) = ((capU s[k]).toNat : Int)) := by show _ = _; rw [capU_nat]; unfold capI; rw [if_neg (by omega)]
        go_wp2_with (at_builtin; refine wpList_app1 R.out rfl _ _ rfl rfl rfl (s[k].toNat : Int) (capU s[k]) Y.out (by omega) ?_; intro v' w1 hown')
        have N := Lib.hid hown'
        clear hown'
        go_wp2
        go_roundw
        case rel => exact ⟨k + 1, by omega, by go_num, by rw [map_take_cap s k hlt, HL.out]; exact N.out⟩
        case measure => simp [intOf]; omega
    · have hback := ownB_string R.out (upB s) (by rw [upB_list, ← HL.out, List.take_of_length_le (by simp; omega)])
      go_wp2
      go_ret
      exact ⟨rfl, R.out.2⟩
end Go.Proofs.YtcmcikcagpkocaaDoor
