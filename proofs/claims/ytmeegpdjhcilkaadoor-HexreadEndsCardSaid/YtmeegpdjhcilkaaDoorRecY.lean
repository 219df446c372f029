/-
  What a row of records that was returned reads as; joining the pieces; bytes that came in, with their capacity.
-/
import Derived.Test.YtmeegpdjhcilkaaDoorRecX
import Derived.Test.YtmeegpdjhcilkaaDoorRecAllC
namespace Go.Mixed
open Go
theorem execOp_unguarded (ρ : Operand → Value) (o : Oper) : execOp ρ { o with guard := none } = execOp ρ o := by unfold execOp; rfl
/-- A loud operation behind a guard that lets it come up. -/
theorem wpMix_loudG {P : Program} {ops : Array Oper} {C : World → Prop} {T : Act → World → Prop} {k : Nat} {r : List (Nat × Bool)} {a : Act} {w : World} {o : Oper} (ho : ops[k]? = some o) (hw : Region.wanted o (yielded ops a.tmps) = true)
    (h : wpList P ops (QK fun a' w' => C w' ∧ wpMix P ops C T r a' w') [{ o with guard := none }] a w) : wpMix P ops C T ((k, false) :: r) a w := by
  simp only [wpMix]
  unfold wpOp
  simp only [ho, hw, if_true]
  simp only [wpList] at h
  rw [if_pos (by simp [Region.wanted])] at h
  rcases h with h | h
  · refine .inl ?_
    unfold Oper.wp at h ⊢
    rw [execOp_unguarded] at h
    have h2 := upon_QK h
    generalize (execOp a.eval o).run P w = rs at h2 ⊢
    cases rs with
    | ok x w' => cases x <;> exact h2
    | halt x w' => cases x <;> exact h2
  · exact absurd h.2 (not_letsOut_QK _)
end Go.Mixed
namespace Go.Proofs.YtmeegpdjhcilkaaDoor
open Go.RowKit Go.ChangeShapes
set_option linter.unusedVariables false

theorem OwnR.at_ {e : TypeId} {n₀ : Nat} {P : Nat → Prop} {w : World} {v : Value} {rs : List R} (h : OwnR e n₀ P w v rs) (hn : 0 < rs.length) : ∃ g cap, v = .slice (some ⟨g, 0, none⟩) rs.length cap ∧ n₀ ≤ g ∧ g < w.heap.size ∧
    ∀ k (hk : k < rs.length), w.cell? ⟨g, k * 3, none⟩ = some (.int .i64 0) ∧ w.cell? ⟨g, k * 3 + 1, none⟩ = some (.int .i64 rs[k].addr) ∧ w.cell? ⟨g, k * 3 + 2, none⟩ = some (.slice rs[k].A rs[k].data.length rs[k].cap) := by
  rcases h.1.2 with ⟨_, h0⟩ | ⟨g, cap, cur, rfl, hb, hg, _⟩
  · omega
  · refine ⟨g, cap, rfl, hb, (Array.getElem?_eq_some_iff.1 hg).1, fun k hk => ?_⟩
    obtain ⟨h1, h2, h3⟩ := runsV_get rs k hk
    rw [h.1.cellAt (k * 3) (by omega), h.1.cellAt (k * 3 + 1) (by omega), h.1.cellAt (k * 3 + 2) (by omega)]
    exact ⟨h1, h2, h3⟩
theorem pairs_length {rs : List R} {l : List (Int × List UInt8)} (h : pairs rs = l) : rs.length = l.length := by
  have := congrArg List.length h
  unfold pairs at this
  simpa using this
theorem pairs_at {rs : List R} {l : List (Int × List UInt8)} (h : pairs rs = l) {k : Nat} (hk : k < rs.length) (hl : k < l.length) : rs[k].addr = l[k].1 ∧ rs[k].data = l[k].2 := by
  subst h
  have e : (pairs rs)[k]? = some (rs[k].addr, rs[k].data) := by unfold pairs; rw [List.getElem?_map, List.getElem?_eq_getElem hk]; rfl
  rw [List.getElem?_eq_getElem hl] at e
  have e2 := Option.some.inj e
  rw [e2]
  exact ⟨rfl, rfl⟩
/-- The first k pieces, joined. -/
def catL (l : List (Int × List UInt8)) (k : Nat) : List UInt8 := (l.take k).flatMap fun p => p.2
theorem catL_zero (l : List (Int × List UInt8)) : catL l 0 = [] := rfl
theorem catL_succ (l : List (Int × List UInt8)) (k : Nat) (hk : k < l.length) : catL l (k + 1) = catL l k ++ l[k].2 := by
  unfold catL
  rw [List.take_succ_eq_append_getElem hk, List.flatMap_append]
  simp
theorem catL_spl (ad : Int) (xs : List UInt8) (s m k : Nat) (hk : k ≤ m) : catL (spl ad xs s m) k = xs.take (k * s) := by
  induction k with
  | zero => simp [catL_zero]
  | succ k ih =>
    rw [catL_succ _ k (by rw [spl_length]; omega), ih (by omega)]
    have e : (spl ad xs s m)[k]'(by rw [spl_length]; omega) = (ad + ((k * s : Nat) : Int), chD xs s k) := by unfold spl; simp
    rw [e]
    unfold chD
    rw [Nat.add_mul, Nat.one_mul, List.take_add]
theorem splW_cat (ad sz : Int) (xs : List UInt8) (h : 0 < (splW ad sz xs).length) : catL (splW ad sz xs) (splW ad sz xs).length = xs := by
  unfold splW at h ⊢
  by_cases hs : spOk ad sz xs.length = true
  · rw [if_pos hs] at h ⊢
    have h2 := hs
    unfold spOk at h2
    have h3 := of_decide_eq_true h2
    rw [spl_length, catL_spl _ _ _ _ _ (Nat.le_refl _)]
    refine List.take_of_length_le ?_
    have h4 := mt (cnt_lt xs.length sz.toNat (cnt xs.length sz.toNat) (by omega)).2 (Nat.lt_irrefl _)
    omega
  · rw [if_neg hs] at h
    simp at h
theorem splW_len (ad sz : Int) (xs : List UInt8) : (splW ad sz xs).length ≤ xs.length := by
  unfold splW
  split
  · rename_i hs
    unfold spOk at hs
    have h3 := of_decide_eq_true hs
    rw [spl_length]
    exact cnt_le _ _ (by omega)
  · simp
theorem splW_dat (ad sz : Int) (xs : List UInt8) (k : Nat) (hk : k < (splW ad sz xs).length) : (splW ad sz xs)[k].2.length ≤ 255 := by
  have key : ∀ p ∈ splW ad sz xs, p.2.length ≤ 255 := fun p hp => by
    unfold splW at hp
    split at hp
    · rename_i hs
      unfold spOk at hs
      have h3 := of_decide_eq_true hs
      unfold spl at hp
      obtain ⟨j, _, rfl⟩ := List.mem_map.1 hp
      show (chD xs sz.toNat j).length ≤ 255
      rw [chD_length]
      omega
    · simp at hp
  exact key _ (List.getElem_mem hk)
theorem catL_le (l : List (Int × List UInt8)) (k : Nat) : (catL l k).length ≤ (catL l l.length).length := by
  unfold catL
  rw [List.take_length]
  conv => rhs; rw [← List.take_append_drop k l, List.flatMap_append, List.length_append]
  omega
/-- 'all = append(all, ys...)'. -/
theorem ownB_append {w wr : World} {v : Value} {xs ys : List UInt8} (h : OwnB w wr v xs) {P : Nat → Prop} {A : Option Addr} (hy : BytesP P wr A ys) (cap : Nat) (hl : xs.length + ys.length ≤ 70368744177664) (ty : TypeId) :
    ∃ v' w', (Builtin.append_ #[59, 59] ty #[v, .slice A ys.length cap]).run Tryd.prog wr = .ok v' w' ∧ OwnB w w' v' (xs ++ ys) := by
  obtain ⟨i0, hi, hz0, hz1, hz2⟩ := info_parts info_u8
  obtain ⟨v', w', k1, k2, k3⟩ := run_append_src wr w.heap.size 59 ty 5 i0 _ 1 1 Tryd.underlying59 hi hz0 hz1 hz2 rfl (by decide) _ _ _ h.1 A ys.length cap (ys.map u8V)
      (by simp) hy.news (fun u hu => by obtain ⟨x, _, rfl⟩ := List.mem_map.1 hu; rfl) (by unfold maxLen; omega) (by omega) h.2.size
  refine ⟨v', w', k1, ?_, h.2.grown k3 h.2.size fun k hk => (h.1.lt k hk).1⟩
  rw [List.length_append, List.map_append]
  exact k2
theorem OwnB.more {w wr w' : World} {v : Value} {xs : List UInt8} (h : OwnB w wr v xs) (k : Below wr.heap.size wr w') : OwnB w w' v xs :=
  ⟨ownsRow_kept h.1 (KeptP.of_all k) (fun _ _ => trivial), h.2.trans (k.mono h.2.size)⟩
section
variable {H : Type} {enc : TypeId × Value → H} {w : World} {spare : Nat → Bool} {fuel : Nat}
theorem open_bytesC {v : Value} {x : DataW H × List MemPlace} (h : DataW.trod enc Tryd.prog w 0 spare true fuel 59 [v] = some x) : ∃ A len cap xs, v = .slice A len cap ∧ len = xs.length ∧ len ≤ maxLen ∧ BytesP (fun _ => True) w A xs ∧ len ≤ cap := by
  obtain ⟨A, len, cap, xs, e1, e2, e3, e4⟩ := open_bytes h
  refine ⟨A, len, cap, xs, e1, e2, e3, e4, ?_⟩
  subst e1
  rcases open_ints Tryd.underlying59 Tryd.underlying5 (by kernel_rfl) h with ⟨hcs, _⟩ | ⟨a, l, c, zs, hcs, _, hl, hm, hz, _, hcell, hwz⟩
  · simp at hcs
    omega
  · simp at hcs
    omega
end
end Go.Proofs.YtmeegpdjhcilkaaDoor
