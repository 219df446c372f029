/-
  Walks over breadboardref01.Upper, num.Bytes and breadboardref01.Bytes.
-/
import Derived.Test.YtbnehcnimbkakaaNumN
import Derived.Test.YtbnehcnimbkakaaNumD
import Derived.Test.YtbnehcnimbkakaaNumJ
import Derived.Laws.BytesArg
namespace Go.Proofs.Ytbnehcnimbkakaa
open Go.RowKit
set_option linter.unusedVariables false

theorem ownB_string {w wr : World} {v : Value} {xs : List UInt8} (h : OwnB w wr v xs) (s : ByteArray) (hs : s.data.toList = xs) :
    (convert 22 9 v).run Try.prog wr = .ok (.string s) wr := by
  have e : s = ⟨xs.toArray⟩ := bytes_ext (by simpa using hs)
  subst e
  rcases h.1.2 with ⟨rfl, h0⟩ | ⟨g, cap, cur, rfl, _⟩
  · have hx : xs = [] := List.eq_nil_of_length_eq_zero h0
    subst hx
    rw [run_convert_bytes_nil (P := Try.prog) wr 22 5 Try.underlying22 Try.underlying5 0 0 9 Try.underlying9]
    rfl
  · refine run_convert_bytes_back wr 22 9 5 ⟨g, 0, none⟩ cap xs Try.underlying22 Try.underlying5 Try.underlying9 (fun j hj => ?_)
    have h1 := h.1.cells (g := g) rfl j (u8V xs[j]) (by simp [List.getElem?_eq_getElem hj])
    exact h1
/-- 'out = append(out, x)' at a row of bytes of the call's own. -/
theorem wpList_app1 {w wr : World} {v : Value} {xs : List UInt8} (R : OwnB w wr v xs) {ops : Array Oper} {rest : List Oper} {o : Oper} {a : Act} {Q : Exit → Act → World → Prop} (hgd : o.guard = none) (s x : Operand)
    (ho : o.op = .call { callee := .builtin .append, args := #[s, x], argTypes := #[22, 22] }) (hs : a.eval s = v) (hx : a.eval x = .slice (some ⟨wr.heap.size, 0, none⟩) 1 1)
    (y : Int) (b : UInt8) (hy : y = (b.toNat : Int)) (hlen : xs.length < 140737488355328)
    (h : ∀ v' w1, OwnB w w1 v' (xs ++ [b]) → wpList Try.prog ops Q rest (a.put o.dst v') w1) : wpList Try.prog ops Q (o :: rest) a (wr.alloc (.cells #[.int .u8 y] 5)) := by
  obtain ⟨i0, hi, hz0, hz1, hz2⟩ := info_parts info_u8
  have hB := R.2.size
  refine wpList_append_own _ hgd s x 22 ho w.heap.size 5 i0 (.int .u8 0) 1 1 Try.underlying22 hi hz0 hz1 hz2 rfl (by decide) v xs.length _ hs (R.1.alloc _) ⟨wr.heap.size, 0, none⟩ 1 1 [.int .u8 y] hx rfl ?_ ?_ ?_ ?_ ?_ ?_
  · intro j u hj
    match j, hj with
    | 0, hj => simp at hj; subst hj; simp [Addr.add, go_sem]
  · intro u hu; simp at hu; subst hu; rfl
  · unfold maxLen; omega
  · omega
  · simp; omega
  · intro v' w1 hown' hgrow _
    exact h v' w1 (ownB_snoc R b y hy hown' hgrow)
theorem map_take_cap (s : ByteArray) (k : Nat) (h : k < s.size) : (s.data.toList.take (k + 1)).map capU = (s.data.toList.take k).map capU ++ [capU s[k]] := by
  rw [take_snoc s k h, List.map_append]; rfl

end Go.Proofs.Ytbnehcnimbkakaa
