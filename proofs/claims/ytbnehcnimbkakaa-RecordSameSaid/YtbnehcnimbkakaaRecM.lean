/-
  Slices of bytes: append from whatever slice, also an empty one; the walk over slices.Clone at []byte; slices of new memory.
-/
import Derived.Test.YtbnehcnimbkakaaRecA
import Derived.OwnWalk
import Derived.Laws.AppendOwn
import Derived.Laws.OwnMore
namespace Go.Proofs.Ytbnehcnimbkakaa
open Go.RowKit
set_option linter.unusedVariables false

theorem run_append_nothing (w : World) (base : Nat) (t ty e : TypeId) (size : Nat) (ht : Try.prog.underlying t = some (.slice e)) (hs : ∀ w, (sizeOf e).run Try.prog w = .ok size w)
    (v : Value) (n : Nat) (xs : List Value) (hown : w.ownsRow base e size v n xs) (A : Option Addr) (c : Nat) :
    (Builtin.append_ #[t, t] ty #[v, .slice A 0 c]).run Try.prog w = .ok v w := by
  have h0 : ∀ x, (loadCells x 0).run Try.prog w = .ok #[] w := fun x => by simpa using run_loadCells_list (P := Try.prog) w x [] (by simp)
  rcases hown.2 with ⟨rfl, h⟩ | ⟨g, cap, cur, rfl, hb, hg, hm, hle, _⟩
  · cases A <;> simp [Builtin.append_, run_underlying ht, hs, Builtin.lenOf, Builtin.firstCells, h0]
  · cases A <;> simp [Builtin.append_, run_underlying ht, hs, Builtin.lenOf, Builtin.firstCells, h0, hm, storeCells] <;> omega
theorem run_append_src (w : World) (base : Nat) (t ty e : TypeId) (i : TypeInfo) (z : Value) (size bytes : Nat) (ht : Try.prog.underlying t = some (.slice e)) (hi : Try.prog.info? e = some i) (hz : i.zero = some z)
    (hsize : i.size = size) (hby : i.bytes = bytes) (hzs : z.cells.size = size) (hsz : 0 < size)
    (v : Value) (n : Nat) (xs : List Value) (hown : w.ownsRow base e size v n xs)
    (A : Option Addr) (m c : Nat) (news : List Value) (hl : news.length = m * size) (hnews : m = 0 ∨ ∃ a, A = some a ∧ ∀ j u, news[j]? = some u → w.cell? (a.add j) = some u) (h1 : ∀ u ∈ news, u.oneCell' = true)
    (h63 : n + m ≤ maxLen) (hbytes : (n + m) * bytes ≤ 140737488355328) (hbase : base ≤ w.heap.size) :
    ∃ v' w', (Builtin.append_ #[t, t] ty #[v, .slice A m c]).run Try.prog w = .ok v' w' ∧ w'.ownsRow base e size v' (n + m) (xs ++ news) ∧ w.grownBy w' v.ownBlock := by
  by_cases hm : m = 0
  · subst hm
    have hn0 : news = [] := List.eq_nil_of_length_eq_zero (by omega)
    subst hn0
    refine ⟨v, w, run_append_nothing w base t ty e size ht (fun w => ?_) v n xs hown A c, ?_, World.grownBy.refl _ _⟩
    · simp [sizeOf, typeInfo, hi, hsize]
    · simpa using hown
  · obtain ⟨a, rfl, hn⟩ := hnews.resolve_left hm
    obtain ⟨v', w', h2, h3, h4, _⟩ := run_append_own (P := Try.prog) w base t ty e i z size bytes ht hi hz hsize hby hzs hsz v n xs hown a m c news hl hn h1 h63 hbytes hbase
    exact ⟨v', w', h2, h3, h4⟩

theorem wpList_run_append {w w1 : World} {t ty : TypeId} {v y v' : Value} (h1 : (Builtin.append_ #[t, t] ty #[v, y]).run Try.prog w = .ok v' w1) {ops : Array Oper} {rest : List Oper} {o : Oper} {a : Act} {Q : Exit → Act → World → Prop} (hgd : o.guard = none) (s x : Operand)
    (ho : o.op = .call { callee := .builtin .append, args := #[s, x], argTypes := #[t, t] }) (hty : o.type = ty) (hs : a.eval s = v) (hx : a.eval x = y) (hk : wpList Try.prog ops Q rest (a.put o.dst v') w1) : wpList Try.prog ops Q (o :: rest) a w := by
  subst hty
  refine wpList_plain hgd fun K hK => ?_
  unfold Oper.wp
  simp [execOp, ho, resolve, invoke, builtin, hs, hx, h1, Result.andThen]
  exact hK _ _ hk
theorem own_bytes {w : World} {base : Nat} {e : TypeId} {v : Value} {n : Nat} {xs : List UInt8} (h : w.ownsRow base e 1 v n (xs.map u8V)) (hn : n = xs.length) : ∃ A cap, v = .slice A xs.length cap ∧ BytesP (fun i => base ≤ i ∧ some i = v.ownBlock) w A xs := by
  subst hn
  rcases h.2 with ⟨rfl, h0⟩ | ⟨g, cap, cur, rfl, hb, _⟩
  · exact ⟨none, 0, by rw [h0], .inl (List.eq_nil_of_length_eq_zero h0)⟩
  · refine ⟨_, cap, rfl, .inr ⟨g, 0, rfl, ⟨hb, rfl⟩, fun j hj => ?_⟩⟩
    rw [Nat.zero_add, h.cellAt j (by omega)]
    simp [u8V, List.getElem?_eq_getElem hj]
theorem BytesP.news {P : Nat → Prop} {w : World} {A : Option Addr} {xs : List UInt8} (h : BytesP P w A xs) : xs.length = 0 ∨ ∃ a, A = some a ∧ ∀ j u, (xs.map u8V)[j]? = some u → w.cell? (a.add j) = some u := by
  rcases h with rfl | ⟨b, off, rfl, _, hc⟩
  · exact .inl rfl
  · refine .inr ⟨_, rfl, fun j u hu => ?_⟩
    have hadd : (⟨b, off, none⟩ : Addr).add j = ⟨b, off + j, none⟩ := by unfold Addr.add; split <;> simp_all
    rw [List.getElem?_map] at hu
    by_cases hj : j < xs.length
    · rw [List.getElem?_eq_getElem hj] at hu
      simp only [Option.map_some, Option.some.injEq] at hu
      subst hu
      rw [hadd]
      exact hc j hj
    · rw [List.getElem?_eq_none (by omega)] at hu; cases hu
/-- The call returns a slice that reads as xs, in new memory. -/
def RetB (w : World) (xs : List UInt8) (e : Ending) (w' : World) : Prop := ∃ A cap, e = .returned (.slice A xs.length cap) ∧ BytesP (w.heap.size ≤ ·) w' A xs ∧ Below w.heap.size w w'
set_option maxHeartbeats 1000000 in
theorem cloneB_any (P : Nat → Prop) (A : Option Addr) (cap : Nat) (xs : List UInt8) (hl : xs.length ≤ 70368744177664) (w : World) (hx : BytesP P w A xs) :
    Calls Try.prog 18 #[.slice A xs.length cap] w (RetB w xs) := by
  cases A with
  | none =>
    obtain rfl : xs = [] := by
      rcases hx with h | ⟨b, off, h, _⟩
      · exact h
      · cases h
    clear hx
    have hnil := fun w => Lib.run_eql_slice_nil (P := Try.prog) w 22 5 none 0 cap 0 0 Try.underlying22
    go_enter Try.func18, Try.ntmps18
    go_wp2
    go_ret
    exact ⟨none, 0, rfl, .inl rfl, Below.refl _ _⟩
  | some a =>
    obtain ⟨i0, hi, hz0, hz1, hz2⟩ := info_parts info_u8
    have hb : Below w.heap.size w (w.alloc (.cells #[] 5)) := (Below.refl _ _).alloc (Nat.le_refl _) _
    have hown := World.ownsRow_made (base := w.heap.size) (e := 5) (size := 1) w #[] 0 (Nat.le_refl _) (by unfold maxLen; omega) rfl
    obtain ⟨v', w', k1, k2, k3⟩ := run_append_src (w.alloc (.cells #[] 5)) w.heap.size 22 22 5 i0 _ 1 1 Try.underlying22 hi hz0 hz1 hz2 rfl (by decide) _ 0 [] hown (some a) xs.length cap (xs.map u8V)
      (by simp) (hx.below hb).news (fun u hu => by obtain ⟨x, _, rfl⟩ := List.mem_map.1 hu; rfl) (by unfold maxLen; omega) (by omega) (by simp)
    have N : Hid (RetB w xs (.returned v') w') := by
      rw [List.nil_append, Nat.zero_add] at k2
      obtain ⟨A', cap', hv, hB⟩ := own_bytes k2 rfl
      subst hv
      exact ⟨A', cap', rfl, hB.mono fun i _ hi => hi.1, hb.grown k3 (by simp) fun k hk => (hown.lt k hk).1⟩
    have K := Lib.hid k1
    clear hx hb hown k1 k2 k3 hi hz0 hz1 hz2
    go_enter Try.func18, Try.ntmps18
    have hnil := fun w => Lib.run_eql_slice_nil (P := Try.prog) w 22 5 (some a) xs.length cap 0 0 Try.underlying22
    go_wp2_with (at_builtin; refine wpList_run_append K.out rfl _ _ rfl rfl rfl rfl ?_)
    go_ret
    exact N.out

end Go.Proofs.Ytbnehcnimbkakaa
