/-
  The walks over strings.Builder's WriteString and String.
-/
import Derived.Test.YtbnehcnimbkakaaRecI
namespace Go.Proofs.Ytbnehcnimbkakaa
open Go.RowKit
set_option linter.unusedVariables false

theorem strCells_u8V (s : ByteArray) : Lib.strCells s = s.data.toList.map u8V := rfl
/-- append(v, s...): where the result lies. -/
theorem app_str {w : World} {v : Value} {bs : List UInt8} (hown : w.ownsRow 0 5 1 v bs.length (bs.map u8V)) (s : ByteArray) (hlen : bs.length + s.size ≤ 140737488355328) (ty : TypeId) :
    ∃ v' w', (Builtin.append_ #[22, 9] ty #[v, .string s]).run Try.prog w = .ok v' w' ∧ w'.ownsRow 0 5 1 v' (bs ++ s.data.toList).length ((bs ++ s.data.toList).map u8V) ∧ w.grownBy w' v.ownBlock ∧
      ∀ g, v'.ownBlock = some g → v.ownBlock = some g ∨ w.heap.size ≤ g := by
  obtain ⟨i0, hi, hz0, hz1, hz2⟩ := info_parts info_u8
  have h63 : bs.length + s.size ≤ maxLen := by unfold maxLen; omega
  obtain ⟨v', w', hr, h2, h3, _⟩ := Lib.run_append_own_string (P := Try.prog) w 0 22 9 ty 5 i0 Try.underlying22 Try.underlying9 hi hz0 hz1 hz2 v bs.length (bs.map u8V) hown s h63 hlen (Nat.zero_le _)
  refine ⟨v', w', hr, ?_, h3, ?_⟩
  · rw [strCells_u8V] at h2
    rw [List.length_append, List.map_append]
    have e : s.data.toList.length = s.size := by simp
    rw [e]
    exact h2
  · intro g hg
    rcases hown.2 with ⟨rfl, h0⟩ | ⟨b, cap, cur, rfl, hb, hbk, hn, hm, hsz, ht⟩
    · obtain ⟨v'', w'', hr2, k2, _⟩ := Lib.run_append_own_string (P := Try.prog) w w.heap.size 22 9 ty 5 i0 Try.underlying22 Try.underlying9 hi hz0 hz1 hz2 (.slice none 0 0) 0 [] (World.ownsRow_nil _ _ _ _) s (by unfold maxLen; omega) (by omega) (Nat.le_refl _)
      have e := hr.symm.trans hr2
      injection e with e1 e2
      subst e1
      exact .inr (k2.lt g hg).1
    · by_cases hroom : bs.length + s.size ≤ cap
      · have hr2 := Lib.run_append_room_string (P := Try.prog) w 22 9 ty 5 i0 Try.underlying22 Try.underlying9 hi hz1 b bs.length cap cur hbk s hroom (by omega)
        have e := hr.symm.trans hr2
        injection e with e1 e2
        subst e1
        exact .inl hg
      · have holds : ∀ j u, (bs.map u8V)[j]? = some u → w.cell? ((⟨b, 0, none⟩ : Addr).add j) = some u := hown.cells (g := b) rfl
        have hr2 := Lib.run_append_grow_string (P := Try.prog) w 22 9 ty 5 i0 (.int .u8 0) Try.underlying22 Try.underlying9 hi hz0 ⟨b, 0, none⟩ bs.length cap (bs.map u8V) (by rw [hz1]; simp) holds s (by omega) (by omega) (by rw [hz2]; exact growslice_fits (by omega) (by omega))
        have e := hr.symm.trans hr2
        injection e with e1 e2
        subst e1
        simp only [Value.ownBlock, Option.some.injEq] at hg
        exact .inr (by omega)
theorem wpList_app_str {w w1 : World} {t u ty : TypeId} {v v' : Value} {s : ByteArray} (h1 : (Builtin.append_ #[t, u] ty #[v, .string s]).run Try.prog w = .ok v' w1) {ops : Array Oper} {rest : List Oper} {o : Oper} {a : Act} {Q : Exit → Act → World → Prop} (hgd : o.guard = none) (sl x : Operand)
    (ho : o.op = .call { callee := .builtin .append, args := #[sl, x], argTypes := #[t, u] }) (hty : o.type = ty) (hs : a.eval sl = v) (hx : a.eval x = .string s) (hk : wpList Try.prog ops Q rest (a.put o.dst v') w1) : wpList Try.prog ops Q (o :: rest) a w := by
  subst hty
  refine wpList_plain hgd fun K hK => ?_
  unfold Oper.wp
  simp [execOp, ho, resolve, invoke, builtin, hs, hx, h1, Result.andThen]
  exact hK _ _ hk

/-- What WriteString leaves. -/
def RetWS (b : Nat) (w : World) (v : Value) (bs : List UInt8) (s : ByteArray) (e : Ending) (w' : World) : Prop :=
  e = .returned (.tuple #[.int .i64 s.size, .nilIface]) ∧ ∃ v', Bld b w' (selfP b) v' (bs ++ s.data.toList) ∧ (∀ g, v'.ownBlock = some g → v.ownBlock = some g ∨ w.heap.size ≤ g) ∧ KeptP (fun i => i ≠ b ∧ some i ≠ v.ownBlock) w w'
set_option maxHeartbeats 1000000 in
theorem writeString_any (b : Nat) (w : World) (v : Value) (bs : List UInt8) (s : ByteArray) (hlen : bs.length + s.size ≤ 140737488355328) (h : Bld b w (selfP b) v bs) :
    Calls Try.prog 29 #[.pointer (some ⟨b, 0, none⟩), .string s] w (RetWS b w v bs s) := by
  have hcc := copyCheck_used b w v bs h
  obtain ⟨v', w2, hr, hown', hgrow, hblk⟩ := app_str h.2.1 s hlen 22
  have hlt := h.lt
  have hb2 : w2.heap[b]? = some (.cells #[selfP b, v] 59 (0, 0)) := by
    rw [hgrow.block b hlt (fun e => h.2.2 e.symm)]
    exact h.1
  have c1 := h.c1
  have d1 : w2.cell? ⟨b, 1, none⟩ = some v := by rw [Lib.cell_of_heap hb2]; rfl
  have f1 : w2.frozen? ⟨b, 1, none⟩ = false := Lib.frozen_of_heap hb2 1
  have hB := Bld.set1 hb2 hown'
  have hK : KeptP (fun i => i ≠ b ∧ some i ≠ v.ownBlock) w (w2.setCell ⟨b, 1, none⟩ v') := ((KeptP.refl _ _).grown hgrow (fun k hk h => h.2 hk.symm)).setCell (fun h => h.1 rfl) _
  have HB := Lib.hid hB
  have HK := Lib.hid hK
  have HN := Lib.hid hblk
  have HR := Lib.hid hr
  obtain ⟨ao, n', cap', hv'⟩ : ∃ ao n' cap', v' = .slice ao n' cap' := by
    rcases hown'.2 with ⟨hv, _⟩ | ⟨g, cap, cur, hv, _⟩
    · exact ⟨_, _, _, hv⟩
    · exact ⟨_, _, _, hv⟩
  subst hv'
  clear hB hK hblk hr hown' hgrow hb2 h hlt
  go_enter Try.func29, Try.ntmps29
  go_wp2_with fail
  refine hcc.mono ?_
  rintro e w' ⟨rfl, rfl⟩
  clear hcc
  go_wp2_with (at_builtin; refine wpList_app_str HR.out rfl _ _ rfl rfl rfl rfl ?_)
  go_ret2
  exact ⟨rfl, _, HB.out, HN.out, HK.out⟩

theorem cells_u8 : Try.prog.cellsOf 5 = 1 := by kernel_rfl
set_option maxHeartbeats 1000000 in
theorem bString_any (B b : Nat) (w : World) (p v : Value) (bs : List UInt8) (h0 : bs ≠ []) (h : Bld b w p v bs) (hB : ∀ g, v.ownBlock = some g → B ≤ g) :
    Calls Try.prog 32 #[.pointer (some ⟨b, 0, none⟩)] w fun e w' => e = .returned (.string (strOf bs)) ∧ Below B w w' := by
  obtain ⟨hbk, hown, hne⟩ := h
  have hl0 : bs.length ≠ 0 := by simpa using h0
  obtain ⟨g, cap, cur, rfl, -, hg, hnc, hcm, hcs, htake⟩ : ∃ g cap cur, v = .slice (some ⟨g, 0, none⟩) bs.length cap ∧ 0 ≤ g ∧ w.heap[g]? = some (.cells cur 5 (0, 0)) ∧ bs.length ≤ cap ∧ cap ≤ maxLen ∧ cur.size = cap * 1 ∧ cur.toList.take (bs.length * 1) = bs.map u8V := by
    rcases hown.2 with ⟨_, hz⟩ | ⟨g, cap, cur, hv, r⟩
    · exact absurd hz hl0
    · exact ⟨g, cap, cur, hv, r⟩
  have c1 : w.drew.cell? ⟨b, 1, none⟩ = some (.slice (some ⟨g, 0, none⟩) bs.length cap) := by
    have : w.drew.heap[b]? = some (.cells #[p, .slice (some ⟨g, 0, none⟩) bs.length cap] 59 (0, 0)) := hbk
    rw [Lib.cell_of_heap this]; rfl
  have hSD : (Builtin.unsafeSliceData_ #[22] 84 #[.slice (some ⟨g, 0, none⟩) bs.length cap]).run Try.prog w.drew = .ok (.pointer (some ⟨g, 0, none⟩)) w.drew :=
    Lib.run_unsafeSliceData_row _ _ _ _ _ _ (by omega)
  have hUS : (Builtin.unsafeString_ #[84, 3] 9 #[.pointer (some ⟨g, 0, none⟩), .int .i64 bs.length]).run Try.prog w.drew = .ok (.string (strOf bs)) (w.drew.freeze ⟨g, 0, none⟩ bs.length) := by
    refine Lib.run_unsafeString_row w.drew 84 3 9 5 Try.underlying84 cells_u8 g cur.size (by have hg' : w.drew.heap[g]? = some (.cells cur 5 (0, 0)) := hg; simp [World.shape?, hg']) bs h0 (by omega) (by unfold maxLen at hcm; omega) ?_
    intro j x hx
    have := hown.cells (g := g) rfl j (.int .u8 x.toNat) (by simp [u8V, hx])
    exact this
  have hbg := hB g rfl
  have N : Hid (Below B w (w.drew.freeze ⟨g, 0, none⟩ bs.length)) := Lib.below_freeze (Below.drew (Below.refl B w)) (p := ⟨g, 0, none⟩) hbg _
  clear hB hbk hown hne hg htake hcs
  go_enter Try.func32, Try.ntmps32
  go_wp2
  go_region
  all_goals (go_wp2; go_ret; exact ⟨rfl, N.out⟩)
end Go.Proofs.Ytbnehcnimbkakaa
