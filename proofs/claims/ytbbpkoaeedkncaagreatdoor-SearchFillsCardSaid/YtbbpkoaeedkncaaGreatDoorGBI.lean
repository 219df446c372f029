/-
  EvD, EvE, EvF, EvG.
-/
import Derived.Test.YtbbpkoaeedkncaaGreatDoorGBH
import Derived.Laws.Append
set_option linter.all false
set_option maxRecDepth 100000
set_option maxHeartbeats 4000000
namespace Go.Ev
open Go Go.RowKit
section
variable {P : Program} {w0 w : World} {ρ : Ren} {σ σ' : Hp} {T : Tm} {a : Act} {o : Oper}
theorem cell_at {cur : Array Value} {t : TypeId} {k i : Nat} (h : w.heap[k]? = some (.cells cur t (0, 0))) : w.cell? ⟨k, i, none⟩ = cur[i]? := by simp [World.cell?, h]
theorem add_at (k i j : Nat) : (⟨k, i, none⟩ : Addr).add j = ⟨k, i + j, none⟩ := by
  unfold Addr.add
  split
  · rename_i h; subst h; rfl
  · rfl
def loadA (P : Program) (σ : Hp) (t : TypeId) (b off : Nat) : Option A1 := match look σ b with
  | some ob => match aggT P t with
    | some true => match sizeT P t with
      | some n => match Nat.beq ((ob.c.drop off).take n).length n with
        | true => some ⟨true, (ob.c.drop off).take n⟩
        | false => none
      | none => none
    | some false => match ob.c[off]? with
      | some x => some ⟨false, [x]⟩
      | none => none
    | none => none
  | none => none
theorem loadA_run {t : TypeId} {b off k cp : Nat} {x : A1} (hs : HR w0 ρ σ w) (h : loadA P σ t b off = some x) (hk : ρ b = some (k, cp)) : ∃ v, x.rel ρ v ∧ (loadVar t ⟨k, off, none⟩).run P w = .ok v w := by
  unfold loadA at h
  split at h
  · rename_i ob hob
    obtain ⟨k', cp', e', -, cur, hcur, hc, hz⟩ := hs.obj b ob hob
    rw [hk] at e'
    cases e'
    split at h
    · rename_i hag
      split at h
      · rename_i n hn
        split at h
        · rename_i hb
          have hb := Nat.eq_of_beq_eq_true hb
          cases h
          have hcs : R2 ρ ((ob.c.drop off).take n) ((cur.toList.drop off).take n) := by
            refine R2.of_at ?_ fun i y hy => ?_
            · rw [hb]
              rcases Nat.eq_zero_or_pos n with h0 | h0
              · subst h0; rfl
              · have hl : off + (n - 1) < ob.c.length := by simp at hb; omega
                obtain ⟨v, k1, -⟩ := hc _ _ (List.getElem?_eq_getElem hl)
                have := (Array.getElem?_eq_some_iff.1 k1).1
                simp
                omega
            · have hi : i < n := by
                have := (List.getElem?_eq_some_iff.1 hy).1
                rw [hb] at this
                exact this
              rw [List.getElem?_take, if_pos hi, List.getElem?_drop] at hy
              obtain ⟨v, k1, k2⟩ := hc _ _ hy
              exact ⟨v, by rw [List.getElem?_take, if_pos hi, List.getElem?_drop, Array.getElem?_toList]; exact k1, k2⟩
          refine ⟨.agg ((cur.toList.drop off).take n).toArray, ⟨_, rfl, hcs⟩, ?_⟩
          have hlen : ((cur.toList.drop off).take n).length = n := by rw [hcs.length, hb]
          have hl := run_loadCells_list (P := P) w ⟨k, off, none⟩ ((cur.toList.drop off).take n) fun j v hj => by
            rw [add_at, cell_at hcur, ← Array.getElem?_toList]
            have hi : j < n := by
              have := (List.getElem?_eq_some_iff.1 hj).1
              rw [hlen] at this
              exact this
            rwa [List.getElem?_take, if_pos hi, List.getElem?_drop] at hj
          rw [hlen] at hl
          simp [loadVar, run_aggT hag, run_sizeT hn, hl]
        · cases h
      · cases h
    · rename_i hag
      split at h
      · rename_i y hy
        cases h
        obtain ⟨v, k1, k2⟩ := hc _ _ hy
        refine ⟨v, ⟨_, rfl, k2⟩, ?_⟩
        simp only [loadVar, Sem.run_bind, run_aggT hag, Result.andThen_ok, Bool.false_eq_true, if_false, run_load, cell_at hcur, k1]
      · cases h
    · cases h
  · cases h
theorem res_load {t : TypeId} {x : Operand} {b off : Nat} {y : A1} (ho : o.op = .load t x) (hs : HR w0 ρ σ w) (hT : TR ρ T a) (hx : opc T x = some (.ptr b off)) (h : loadA P σ t b off = some y) : Res P w0 ρ o a w (some (.one y)) σ := by
  obtain ⟨k, cp, hk, hv⟩ := opc_rel hT hx
  obtain ⟨v, h1, h2⟩ := loadA_run hs h hk
  refine res_still hs ?_ h1
  simp [execOp, ho, Instr.loadAt, Instr.sureAddr, hv, h2]
theorem res_store {t : TypeId} {x u : Operand} {b off : Nat} {y : A1} {ob : AO} (ho : o.op = .store t x u) (hs : HR w0 ρ σ w) (hT : TR ρ T a) (hx : opc T x = some (.ptr b off)) (hy : op1 T u = some y) (hob : look σ b = some ob)
    (hn : sizeT P t = some y.l.length) (hle : off + y.l.length ≤ ob.c.length) : Res P w0 ρ o a w none ((b, ⟨ob.t, over ob.c off y.l, ob.s⟩) :: σ) := by
  obtain ⟨k, cp, hk, hv⟩ := opc_rel hT hx
  have hyr := (op1_rel hT hy).cells
  obtain ⟨k', cp', e', -, cur, hcur, hc, hz⟩ := hs.obj b ob hob
  rw [hk] at e'
  cases e'
  have hvl : (a.eval u).cells.size = y.l.length := by rw [← Array.length_toList, hyr.length]
  have hcl : ob.c.length ≤ cur.size := by
    rcases Nat.eq_zero_or_pos ob.c.length with h0 | h0
    · omega
    · obtain ⟨v, k1, -⟩ := hc (ob.c.length - 1) _ (List.getElem?_eq_getElem (by omega))
      have := (Array.getElem?_eq_some_iff.1 k1).1
      omega
  have hst := run_storeCells_at (P := P) k off ob.t (a.eval u).cells.toList 0 cur w hcur (by simp; omega) hyr.ones
  refine ⟨.skip, _, ρ, ?_, Ext.refl _, hs.row hk hob (l := over ob.c off y.l) (cur' := (cur.toList.take (off + 0) ++ (a.eval u).cells.toList ++ cur.toList.drop (off + 0 + (a.eval u).cells.toList.length)).toArray) (fun i z hz => ?_) ?_, rfl⟩
  · have e : ((a.eval u).cells.size ≠ y.l.length) = False := by simp [hvl]
    simp only [execOp, ho, Instr.storeAt, Instr.sureAddr, hv, storeVar, Sem.run_bind, Sem.run_pure, Result.andThen_ok, run_sizeT hn, e, if_false, hst]
  · rw [over_at] at hz
    have hvl' : (a.eval u).cells.toList.length = y.l.length := by rw [Array.length_toList, hvl]
    have htk : (cur.toList.take off).length = off := by simp; omega
    rw [List.getElem?_toArray, Nat.add_zero, hvl']
    split at hz
    · rename_i hi
      obtain ⟨v, k1, k2⟩ := hyr.at_ hz
      refine ⟨v, ?_, k2⟩
      rw [List.append_assoc, List.getElem?_append_right (by rw [htk]; exact hi.1), htk, List.getElem?_append_left (by rw [hvl']; omega)]
      exact k1
    · rename_i hi
      obtain ⟨v, k1, k2⟩ := hc _ _ hz
      have hzi := (List.getElem?_eq_some_iff.1 hz).1
      refine ⟨v, ?_, k2⟩
      rw [← Array.getElem?_toList] at k1
      by_cases h1 : i < off
      · rw [List.append_assoc, List.getElem?_append_left (by rw [htk]; exact h1), List.getElem?_take, if_pos h1]
        exact k1
      · rw [List.getElem?_append_right (by simp; omega), List.length_append, htk, hvl', List.getElem?_drop, show off + y.l.length + (i - (off + y.l.length)) = i by omega]
        exact k1
  · have hsz : (cur.toList.take (off + 0) ++ (a.eval u).cells.toList ++ cur.toList.drop (off + 0 + (a.eval u).cells.toList.length)).toArray.size = cur.size := by simp; omega
    rw [hsz, over_length]
    exact hz
def intOf (x : Option AC) : Option Nat := match x with
  | some (.int _ (.ofNat n)) => some n
  | _ => none
def indexAddrA (P : Program) (t : TypeId) (x : Option AC) (i : Option AC) : Option (Nat × Nat) := match intOf i with
  | some n => match P.underlying t, x with
    | some (.slice e), some (.sl b off l _) => match sizeT P e, Nat.blt n l with
      | some s, true => some (b, off + n * s)
      | _, _ => none
    | some (.array l e), some (.ptr b off) => match sizeT P e, Nat.blt n l with
      | some s, true => some (b, off + n * s)
      | _, _ => none
    | _, _ => none
  | none => none
theorem intOf_rel {x : Option AC} {n : Nat} (h : intOf x = some n) {v : Value} (hr : ∀ y, x = some y → y.rel ρ v) : ∃ k, v = .int k (n : Int) := by
  unfold intOf at h
  split at h
  · cases h; exact ⟨_, hr _ rfl⟩
  · cases h
theorem pure_indexAddr {t : TypeId} {x i : Operand} {b off : Nat} (ho : o.op = .indexAddr t x i) (hT : TR ρ T a) (h : indexAddrA P t (opc T x) (opc T i) = some (b, off)) : ∃ v, (ptrV b off).rel ρ v ∧ ∀ w, (execOp a.eval o).run P w = .ok (.value v) w := by
  unfold indexAddrA at h
  split at h
  · rename_i n hn
    obtain ⟨kd, hi⟩ := intOf_rel (ρ := ρ) hn fun y hy => opc_rel hT hy
    split at h
    · rename_i e b' off' l c hu hx
      obtain ⟨k, cp, hk, hv⟩ := opc_rel hT hx
      split at h
      · rename_i s hsz hlt
        cases h
        have hlt : n < l := Nat.le_of_ble_eq_true hlt
        refine ⟨.pointer (some ⟨k, off' + n * s, none⟩), ptr_rel hk, fun w => ?_⟩
        have h1 : (0 : Int) ≤ (n : Int) ∧ (n : Int) < (l : Int) := by omega
        simp only [execOp, ho, Instr.indexAt, hi, hv, asIntOf, Sem.run_bind, Sem.run_pure, Result.andThen_ok, run_und hu, h1, and_self, if_true, run_sizeT hsz, add_at, Int.toNat_natCast]
      · cases h
    · rename_i l e b' off' hu hx
      obtain ⟨k, cp, hk, hv⟩ := opc_rel hT hx
      split at h
      · rename_i s hsz hlt
        cases h
        have hlt : n < l := Nat.le_of_ble_eq_true hlt
        refine ⟨.pointer (some ⟨k, off' + n * s, none⟩), ptr_rel hk, fun w => ?_⟩
        have h1 : (0 : Int) ≤ (n : Int) ∧ (n : Int) < (l : Int) := by omega
        simp only [execOp, ho, Instr.indexAt, Instr.sureAddr, hi, hv, asIntOf, Sem.run_bind, Sem.run_pure, Result.andThen_ok, run_und hu, h1, and_self, if_true, run_sizeT hsz, add_at, Int.toNat_natCast]
      · cases h
    · cases h
  · cases h
def fieldA (P : Program) (t : TypeId) (f : Nat) : Option Field := match P.underlying t with
  | some (.struct fs) => fs[f]?
  | _ => none
theorem fieldA_und {t : TypeId} {f : Nat} {fd : Field} (h : fieldA P t f = some fd) : ∃ fs, P.underlying t = some (.struct fs) ∧ fs[f]? = some fd := by
  unfold fieldA at h
  split at h
  · exact ⟨_, by assumption, h⟩
  · cases h
theorem pure_fieldAddr {t : TypeId} {x : Operand} {f : Nat} {b off n : Nat} {fd : Field} (ho : o.op = .fieldAddr t x f) (hT : TR ρ T a) (hf : fieldA P t f = some fd) (hx : opc T x = some (.ptr b off)) (hn : sizeT P fd.type = some (n + 1)) :
    ∃ v, (ptrV b (off + fd.offset)).rel ρ v ∧ ∀ w, (execOp a.eval o).run P w = .ok (.value v) w := by
  obtain ⟨fs, hu, hfd⟩ := fieldA_und hf
  obtain ⟨k, cp, hk, hv⟩ := opc_rel hT hx
  refine ⟨.pointer (some ⟨k, off + fd.offset, none⟩), ptr_rel hk, fun w => ?_⟩
  simp [execOp, ho, Instr.fieldAt, hu, run_und hu, hfd, Instr.sureAddr, hv, fieldPlace, run_sizeT hn, add_at]
def partA (P : Program) (t : TypeId) (l : List AC) (off : Nat) : Option A1 := match aggT P t with
  | some true => match sizeT P t with
    | some n => match Nat.beq ((l.drop off).take n).length n with
      | true => some ⟨true, (l.drop off).take n⟩
      | false => none
    | none => none
  | some false => match l[off]? with
    | some x => some ⟨false, [x]⟩
    | none => none
  | none => none
theorem partA_run {t : TypeId} {l : List AC} {off : Nat} {x : A1} (h : partA P t l off = some x) {cs : Array Value} (hr : R2 ρ l cs.toList) : ∃ v, x.rel ρ v ∧ ∀ w, (part t cs off).run P w = .ok v w := by
  unfold partA at h
  split at h
  · rename_i hag
    split at h
    · rename_i n hn
      split at h
      · rename_i hb
        have hb := Nat.eq_of_beq_eq_true hb
        cases h
        refine ⟨.agg (cs.extract off (off + n)), ⟨_, rfl, ?_⟩, fun w => by simp [part, run_aggT hag, run_sizeT hn]⟩
        have hl : cs.size = l.length := by rw [← Array.length_toList, hr.length]
        refine R2.of_at ?_ fun i y hy => ?_
        · rw [hb]
          simp at hb ⊢
          omega
        · have hi : i < n := by
            have := (List.getElem?_eq_some_iff.1 hy).1
            rw [hb] at this
            exact this
          rw [List.getElem?_take, if_pos hi, List.getElem?_drop] at hy
          obtain ⟨v, k1, k2⟩ := hr.get _ _ hy
          refine ⟨v, ?_, k2⟩
          rw [Array.getElem?_toList, Array.getElem?_extract]
          have := (Array.getElem?_eq_some_iff.1 k1).1
          rw [if_pos (by omega)]
          exact k1
      · cases h
    · cases h
  · rename_i hag
    split at h
    · rename_i y hy
      cases h
      obtain ⟨v, k1, k2⟩ := hr.get _ _ hy
      exact ⟨v, ⟨_, rfl, k2⟩, fun w => by simp [part, run_aggT hag, k1]⟩
    · cases h
  · cases h
theorem res_field {t : TypeId} {x : Operand} {f : Nat} {l : List AC} {fd : Field} {y : A1} (ho : o.op = .field t x f) (hs : HR w0 ρ σ w) (hT : TR ρ T a) (hf : fieldA P t f = some fd) (hx : op1 T x = some ⟨true, l⟩) (h : partA P fd.type l fd.offset = some y) : Res P w0 ρ o a w (some (.one y)) σ := by
  obtain ⟨fs, hu, hfd⟩ := fieldA_und hf
  obtain ⟨cs, hv, hr⟩ := op1_rel hT hx
  obtain ⟨v, h1, h2⟩ := partA_run h hr
  refine res_still hs ?_ h1
  simp [execOp, ho, Instr.field, run_und hu, hfd, asAgg, hv, h2]
def indexA (P : Program) (t : TypeId) (x : Option A1) (i : Option AC) : Option A1 := match intOf i, P.underlying t, x with
  | some n, some (.array len e), some ⟨true, l⟩ => match sizeT P e, Nat.blt n len with
    | some s, true => partA P e l (n * s)
    | _, _ => none
  | _, _, _ => none
theorem res_index {t : TypeId} {x i : Operand} {y : A1} (ho : o.op = .index t x i) (hs : HR w0 ρ σ w) (hT : TR ρ T a) (h : indexA P t (op1 T x) (opc T i) = some y) : Res P w0 ρ o a w (some (.one y)) σ := by
  unfold indexA at h
  split at h
  · rename_i n len e l hn hu hx
    obtain ⟨kd, hi⟩ := intOf_rel (ρ := ρ) hn fun y hy => opc_rel hT hy
    obtain ⟨cs, hv, hr⟩ := op1_rel hT hx
    split at h
    · rename_i s hsz hlt
      have hlt : n < len := Nat.le_of_ble_eq_true hlt
      obtain ⟨v, h1, h2⟩ := partA_run h hr
      refine res_still hs ?_ h1
      have h3 : (0 : Int) ≤ (n : Int) ∧ (n : Int) < (len : Int) := by omega
      simp only [execOp, ho, Instr.index, hi, hv, asIntOf, Sem.run_bind, Sem.run_pure, Result.andThen_ok, run_und hu, h3, and_self, if_true, run_sizeT hsz, Int.toNat_natCast, h2]
    · cases h
  · cases h
theorem R1.get : ∀ {l : List A1} {vs : List Value}, R1 ρ l vs → ∀ {i : Nat} {x : A1}, l[i]? = some x → ∃ v, vs[i]? = some v ∧ x.rel ρ v
  | [], _, _, i, x, e => by simp at e
  | y :: t, _, ⟨v, u, h1, h2, h3⟩, 0, x, e => by simp at e; subst e; subst h1; exact ⟨v, rfl, h2⟩
  | y :: t, _, ⟨v, u, h1, h2, h3⟩, i + 1, x, e => by subst h1; simpa using R1.get h3 (by simpa using e)
theorem res_extract {x : Operand} {i : Nat} {l : List A1} {y : A1} (ho : o.op = .extract x i) (hs : HR w0 ρ σ w) (hT : TR ρ T a) (hx : opnd T x = some (.tup l)) (h : l[i]? = some y) : Res P w0 ρ o a w (some (.one y)) σ := by
  obtain ⟨vs, hv, hr⟩ := opnd_rel hT hx
  obtain ⟨v, h1, h2⟩ := hr.get h
  refine res_still hs ?_ h2
  rw [Array.getElem?_toList] at h1
  simp [execOp, ho, Instr.extract, hv, h1]
end
end Go.Ev
namespace Go.Ev
open Go Go.RowKit
section
variable {P : Program} {w0 w : World} {ρ : Ren} {σ σ' : Hp} {T : Tm} {a : Act} {o : Oper}
theorem res_len {x : Operand} {ts : Array TypeId} {t e : TypeId} {b off l : Nat} {c : Option Nat} (ho : o.op = .call { callee := .builtin .len, args := #[x], argTypes := ts }) (hs : HR w0 ρ σ w) (hT : TR ρ T a) (ht : ts[0]? = some t) (hu : P.underlying t = some (.slice e)) (hx : opc T x = some (.sl b off l c)) :
    Res P w0 ρ o a w (some (.one ⟨false, [.int .i64 l]⟩)) σ := by
  obtain ⟨k, cp, -, hv⟩ := opc_rel hT hx
  refine res_still (v := .int .i64 l) hs ?_ ⟨_, rfl, rfl⟩
  simp [execOp, ho, resolve, invoke, builtin, Builtin.len_, ht, run_und hu, hv, goInt]
theorem res_len_nil {x : Operand} {ts : Array TypeId} {t e : TypeId} (ho : o.op = .call { callee := .builtin .len, args := #[x], argTypes := ts }) (hs : HR w0 ρ σ w) (hT : TR ρ T a) (ht : ts[0]? = some t) (hu : P.underlying t = some (.slice e)) (hx : opc T x = some .nils) :
    Res P w0 ρ o a w (some (.one ⟨false, [.int .i64 0]⟩)) σ := by
  have hv : a.eval x = .slice none 0 0 := opc_rel hT hx
  refine res_still (v := .int .i64 0) hs ?_ ⟨_, rfl, rfl⟩
  simp [execOp, ho, resolve, invoke, builtin, Builtin.len_, ht, run_und hu, hv, goInt]
def cellsAt (σ : Hp) (b off n : Nat) : Option (List AC) := match look σ b with
  | some ob => match Nat.beq ((ob.c.drop off).take n).length n with
    | true => some ((ob.c.drop off).take n)
    | false => none
  | none => none
theorem cellsAt_rel {b off n k cp : Nat} {l : List AC} (hs : HR w0 ρ σ w) (h : cellsAt σ b off n = some l) (hk : ρ b = some (k, cp)) : ∃ vs, vs.length = n ∧ R2 ρ l vs ∧ ∀ j v, vs[j]? = some v → w.cell? ((⟨k, off, none⟩ : Addr).add j) = some v := by
  unfold cellsAt at h
  split at h
  · rename_i ob hob
    obtain ⟨k', cp', e', -, cur, hcur, hc, hz⟩ := hs.obj b ob hob
    rw [hk] at e'
    cases e'
    split at h
    · rename_i hb
      have hb := Nat.eq_of_beq_eq_true hb
      cases h
      have hcs : R2 ρ ((ob.c.drop off).take n) ((cur.toList.drop off).take n) := by
        refine R2.of_at ?_ fun i y hy => ?_
        · rw [hb]
          rcases Nat.eq_zero_or_pos n with h0 | h0
          · subst h0; rfl
          · have hl : off + (n - 1) < ob.c.length := by simp at hb; omega
            obtain ⟨v, k1, -⟩ := hc _ _ (List.getElem?_eq_getElem hl)
            have := (Array.getElem?_eq_some_iff.1 k1).1
            simp
            omega
        · have hi : i < n := by
            have := (List.getElem?_eq_some_iff.1 hy).1
            rw [hb] at this
            exact this
          rw [List.getElem?_take, if_pos hi, List.getElem?_drop] at hy
          obtain ⟨v, k1, k2⟩ := hc _ _ hy
          exact ⟨v, by rw [List.getElem?_take, if_pos hi, List.getElem?_drop, Array.getElem?_toList]; exact k1, k2⟩
      refine ⟨_, by rw [hcs.length, hb], hcs, fun j v hj => ?_⟩
      rw [add_at, cell_at hcur, ← Array.getElem?_toList]
      have hi : j < n := by
        have := (List.getElem?_eq_some_iff.1 hj).1
        rw [hcs.length, hb] at this
        exact this
      rwa [List.getElem?_take, if_pos hi, List.getElem?_drop] at hj
    · cases h
  · cases h
def bytesT (P : Program) (t : TypeId) : Option Nat := match P.info? t with
  | some i => some i.bytes
  | none => none
def appendA (P : Program) (σ : Hp) (e : TypeId) (s : Option AC) (x : Option AC) : Option (Nat × List AC) := match sizeT P e, bytesT P e, zeroT P e, x with
  | some sz, some by_, some z, some (.sl b2 off2 (n + 1) _) => match cellsAt σ b2 off2 ((n + 1) * sz) with
    | some news => match s with
      | some .nils => match Nat.ble ((n + 1) * by_) 100000000 && Nat.ble n 1000000 && Nat.beq z.l.length sz with
        | true => some (n + 1, news)
        | false => none
      | some (.sl b off l (some c)) => match Nat.ble c l && Nat.ble ((l + (n + 1)) * by_) 100000000 && Nat.ble (l + n) 1000000 && Nat.beq z.l.length sz, cellsAt σ b off (l * sz) with
        | true, some olds => some (l + (n + 1), olds ++ news)
        | _, _ => none
      | _ => none
    | none => none
  | _, _, _, _ => none
theorem zero_info {t : TypeId} {z : A1} (h : zeroT P t = some z) : ∃ i zv, P.info? t = some i ∧ i.zero = some zv := by
  unfold zeroT at h
  split at h
  · split at h
    · exact ⟨_, _, by assumption, by assumption⟩
    · cases h
  · cases h
theorem app_get {l : List AC} {cs : Array Value} {zs : Array Value} (h : R2 ρ l cs.toList) (i : Nat) (x : AC) (hx : l[i]? = some x) : ∃ v, (cs ++ zs)[i]? = some v ∧ x.rel ρ v := by
  obtain ⟨v, h1, h2⟩ := h.get i x hx
  refine ⟨v, ?_, h2⟩
  rw [Array.getElem?_append_left (Array.getElem?_eq_some_iff.1 h1).1]
  exact h1
theorem grown_size (w : World) (e : TypeId) (need old : Nat) (ie : TypeInfo) (zv : Value) {z : A1} {sz : Nat} (hz : zeroT P e = some z) (hie : P.info? e = some ie) (hzv : ie.zero = some zv) (hzl : z.l.length = sz) {xs : Array Value} (hx : xs.size = need * sz) (hn : need ≤ 100000000) :
    (xs ++ Builtin.zeroCells zv.cells (grownCap w need old e - need)).size = grownCap w need old e * sz ∧ grownCap w need old e ≤ maxLen := by
  have hzs : zv.cells.size = sz := by
    unfold zeroT at hz
    rw [hie] at hz
    simp only [hzv] at hz
    rw [← hzl, ← Array.length_toList]
    exact (ofV_rel (fun _ => none) hz).cells.length
  have hc : need ≤ grownCap w need old e ∧ grownCap w need old e ≤ maxLen := by
    unfold grownCap Question.cut maxLen
    have h := Nat.mod_lt (w.tape w.drawn (.appendCap need old e)) (show 0 < 2 ^ 63 - need by omega)
    simp only
    omega
  refine ⟨?_, hc.2⟩
  rw [Array.size_append, hx, Builtin.zeroCells, Array.size_map, Array.size_range, hzs, ← Nat.add_mul]
  congr 1
  omega
theorem run_appendA {e t ty : TypeId} {s x : Option AC} {m : Nat} {l : List AC} (hs : HR w0 ρ σ w) (h : appendA P σ e s x = some (m, l)) (hu : P.underlying t = some (.slice e)) {u v : Value} (hsu : ∀ y, s = some y → y.rel ρ u) (hxv : ∀ y, x = some y → y.rel ρ v) :
    ∃ cap cs, (∀ (i : Nat) (x : AC), l[i]? = some x → ∃ v, cs[i]? = some v ∧ x.rel ρ v) ∧ (∃ sz, sizeT P e = some sz ∧ cs.size = cap * sz ∧ cap ≤ maxLen) ∧ (Builtin.append_ #[t, t] ty #[u, v]).run P w = .ok (.slice (some ⟨w.heap.size, 0, none⟩) m cap) (w.drew.alloc (.cells cs e)) := by
  unfold appendA at h
  split at h
  · rename_i sz by_ z b2 off2 n c2 hsz hby hz
    obtain ⟨ie, zv, hie, hzv⟩ := zero_info hz
    have e1 : sz = ie.size := by unfold sizeT at hsz; rw [hie] at hsz; cases hsz; rfl
    have e2 : by_ = ie.bytes := by unfold bytesT at hby; rw [hie] at hby; cases hby; rfl
    subst e1; subst e2
    obtain ⟨k2, cp2, hk2, rfl⟩ := hxv _ rfl
    split at h
    · rename_i news hnews
      obtain ⟨vs, v1, v2, v3⟩ := cellsAt_rel hs hnews hk2
      split at h
      · split at h
        · rename_i hb
          cases h
          simp only [Bool.and_eq_true] at hb
          have b1 := Nat.le_of_ble_eq_true hb.1.1
          have b2 := Nat.le_of_ble_eq_true hb.1.2
          have b4 := Nat.eq_of_beq_eq_true hb.2
          have hu0 : u = .slice none 0 0 := hsu _ rfl
          subst hu0
          refine ⟨_, _, fun i x hx => app_get (cs := vs.toArray) v2 i x hx, ⟨_, hsz, ?_⟩, run_append_nil w t ty e ie zv hu hie hzv ⟨k2, off2, none⟩ (n + 1) _ vs v1 v3 (by omega) (by omega) (by omega)⟩
          exact grown_size w e (n + 1) 0 ie zv hz hie hzv b4 (by simpa using v1) (by omega)
        · cases h
      · rename_i b off l' c
        split at h
        · rename_i olds hb holds
          cases h
          simp only [Bool.and_eq_true] at hb
          have b1 := Nat.le_of_ble_eq_true hb.1.1.1
          have b2 := Nat.le_of_ble_eq_true hb.1.1.2
          have b3 := Nat.le_of_ble_eq_true hb.1.2
          have b4 := Nat.eq_of_beq_eq_true hb.2
          obtain ⟨k, cp, hk, rfl⟩ := hsu _ rfl
          obtain ⟨us, u1, u2, u3⟩ := cellsAt_rel hs holds hk
          refine ⟨_, _, fun i x hx => app_get (cs := us.toArray ++ vs.toArray) (by simpa using u2.append v2) i x hx, ⟨_, hsz, ?_⟩, run_append_grow w t ty e ie zv hu hie hzv ⟨k, off, none⟩ l' c us u1 u3 ⟨k2, off2, none⟩ (n + 1) _ vs v1 v3 (by omega) (by omega) ?_⟩
          · exact grown_size w e (l' + (n + 1)) c ie zv hz hie hzv b4 (by simp [u1, v1, Nat.add_mul]) (by omega)
          have := growslice_fits (need := l' + (n + 1)) (old := c) (bytes := ie.bytes) (by omega) (by omega)
          exact this
        · cases h
      · cases h
    · cases h
  · cases h
theorem res_append {s x : Operand} {t e : TypeId} {m nm : Nat} {l : List AC} (ho : o.op = .call { callee := .builtin .append, args := #[s, x], argTypes := #[t, t] }) (hs : HR w0 ρ σ w) (hT : TR ρ T a) (hu : P.underlying t = some (.slice e)) (h : appendA P σ e (opc T s) (opc T x) = some (m, l)) (hr : look σ nm = none) :
    Res P w0 ρ o a w (some (.one ⟨false, [.sl nm 0 m none]⟩)) ((nm, ⟨e, l, sizeT P e⟩) :: σ) := by
  obtain ⟨cap, cs, h1, ⟨sz, z1, z2, z3⟩, h2⟩ := run_appendA (ty := o.type) hs h hu (fun y hy => opc_rel hT hy) (fun y hy => opc_rel hT hy)
  obtain ⟨ρ', k1, k2, k3⟩ := row_new (ob := ⟨e, l, sizeT P e⟩) hs.drew hr cap h1 (by rw [z1]; exact ⟨z2, z3⟩)
  refine ⟨_, _, ρ', ?_, k1, k3, _, rfl, ⟨_, rfl, _, cap, k2, rfl⟩⟩
  simp only [execOp, ho, resolve, invoke, builtin, List.map_toArray, List.map_cons, List.map_nil, Sem.run_bind, Sem.run_pure, Result.andThen_ok, h2]
  rfl
def nothing (x : Option AC) : Bool := match x with
  | some .nils => true
  | some (.sl _ _ 0 _) => true
  | _ => false
def full (s : Option AC) : Option AC := match s with
  | some .nils => some .nils
  | some (.sl b o l (some c)) => match Nat.ble l c with
    | true => some (.sl b o l (some c))
    | false => none
  | _ => none
theorem res_append0 {s x : Operand} {t e : TypeId} {y : AC} (ho : o.op = .call { callee := .builtin .append, args := #[s, x], argTypes := #[t, t] }) (hs : HR w0 ρ σ w) (hT : TR ρ T a) (hu : P.underlying t = some (.slice e)) {n : Nat} (hn : sizeT P e = some n) (hx : nothing (opc T x) = true) (h : full (opc T s) = some y) :
    Res P w0 ρ o a w (some (.one ⟨false, [y]⟩)) σ := by
  have hxv : ∃ A c, a.eval x = .slice A 0 c := by
    unfold nothing at hx
    split at hx
    · rename_i e; exact ⟨_, _, opc_rel hT e⟩
    · rename_i e; obtain ⟨k, cp, -, hv⟩ := opc_rel hT e; exact ⟨_, _, hv⟩
    · cases hx
  obtain ⟨A, c, hxv⟩ := hxv
  have hsv : ∃ B l cp, a.eval s = .slice B l cp ∧ l ≤ cp ∧ y.rel ρ (a.eval s) := by
    unfold full at h
    split at h
    · rename_i e; cases h; have hv := opc_rel hT e; exact ⟨none, 0, 0, hv, Nat.le_refl _, hv⟩
    · rename_i b o l c e
      split at h
      · rename_i hb
        cases h
        have hv := opc_rel hT e
        obtain ⟨k, cp, -, hv'⟩ := opc_rel hT e
        exact ⟨_, _, _, hv', Nat.le_of_ble_eq_true hb, hv⟩
      · cases h
    · cases h
  obtain ⟨B, l, cp, hsv, hle, hr⟩ := hsv
  refine res_still hs ?_ ⟨_, rfl, hr⟩
  rw [hsv]
  have hf : ∀ w, (Builtin.firstCells n 0 (.slice A 0 c)).run P w = .ok #[] w := fun w => by cases A <;> simp [Builtin.firstCells, loadCells, loadCellsFrom]
  have hz : ∀ (b : Addr) w, (storeCells b ([] : List Value)).run P w = .ok () w := fun b w => rfl
  cases B <;> simp [execOp, ho, resolve, invoke, builtin, Builtin.append_, run_und hu, run_sizeT hn, hsv, hxv, Builtin.lenOf, hle, hf, hz]
theorem res_buildSlice0 {t e : TypeId} {nm : Nat} (ho : o.op = .buildSlice t 0 #[]) (hs : HR w0 ρ σ w) (hu : P.underlying t = some (.slice e)) {n : Nat} (hn : sizeT P e = some n) (hr : look σ nm = none) : Res P w0 ρ o a w (some (.one ⟨false, [.sl nm 0 0 (some 0)]⟩)) ((nm, ⟨e, [], none⟩) :: σ) := by
  refine res_new (cs := #[]) (v := .slice (some ⟨w.heap.size, 0, none⟩) 0 0) hs hr rfl ?_ fun ρ' h => ⟨_, rfl, _, _, h, rfl⟩
  simp [execOp, ho, Instr.buildSlice, run_und hu, run_sizeT hn, newRow, Instr.fill, Array.range_zero']
end
def evOp (P : Program) (T : Tm) (σ : Hp) (nm : Nat) (o : Oper) : Option (Option AV × Hp) := match o.op with
  | .move x => match opnd T x with
    | some v => some (some v, [])
    | none => none
  | .assign x => match opnd T x with
    | some v => some (some v, [])
    | none => none
  | .pick c x y => match opc T c with
    | some (.bool true) => match opnd T x with
      | some v => some (some v, [])
      | none => none
    | some (.bool false) => match opnd T y with
      | some v => some (some v, [])
      | none => none
    | _ => none
  | .alloc t => match zeroT P t, look σ nm with
    | some z, none => some (some (ptrV nm 0), [(nm, ⟨t, z.l, none⟩)])
    | _, _ => none
  | .box t x => match op1 T x, look σ nm with
    | some z, none => some (some (ptrV nm 0), [(nm, ⟨t, z.l, none⟩)])
    | _, _ => none
  | .build t ps => match ops1 T ps.toList with
    | some parts => match buildA P t parts with
      | some l => some (some (.one ⟨true, l⟩), [])
      | none => none
    | none => none
  | .buildSlice t len ps => match P.underlying t, look σ nm with
    | some (.slice e), none => match len, ps.toList with
      | 0, [] => match sizeT P e with
        | some _ => some (some (.one ⟨false, [.sl nm 0 0 (some 0)]⟩), [(nm, ⟨e, [], none⟩)])
        | none => none
      | len, l => match ops1 T l with
        | some parts => match buildSA P e len parts with
          | some c => some (some (.one ⟨false, [.sl nm 0 len (some len)]⟩), [(nm, ⟨e, c, none⟩)])
          | none => none
        | none => none
    | _, _ => none
  | .load t x => match opc T x with
    | some (.ptr b off) => match loadA P σ t b off with
      | some y => some (some (.one y), [])
      | none => none
    | _ => none
  | .store t x u => match opc T x, op1 T u, sizeT P t with
    | some (.ptr b off), some y, some n => match look σ b with
      | some ob => match Nat.beq n y.l.length && Nat.ble (off + y.l.length) ob.c.length with
        | true => some (none, [(b, ⟨ob.t, over ob.c off y.l, ob.s⟩)])
        | false => none
      | none => none
    | _, _, _ => none
  | .indexAddr t x i => match indexAddrA P t (opc T x) (opc T i) with
    | some (b, off) => some (some (ptrV b off), [])
    | none => none
  | .fieldAddr t x f => match fieldA P t f, opc T x with
    | some fd, some (.ptr b off) => match sizeT P fd.type with
      | some (_ + 1) => some (some (ptrV b (off + fd.offset)), [])
      | _ => none
    | _, _ => none
  | .field t x f => match fieldA P t f, op1 T x with
    | some fd, some ⟨true, l⟩ => match partA P fd.type l fd.offset with
      | some y => some (some (.one y), [])
      | none => none
    | _, _ => none
  | .index t x i => match indexA P t (op1 T x) (opc T i) with
    | some y => some (some (.one y), [])
    | none => match evPure P T o with
      | some v => some (some v, [])
      | none => none
  | .extract x i => match opnd T x with
    | some (.tup l) => match l[i]? with
      | some y => some (some (.one y), [])
      | none => none
    | _ => none
  | .call ⟨.builtin .len, args, ts⟩ => match args.toList, ts.toList with
    | [x], t :: _ => match P.underlying t with
      | some (.slice _) => match opc T x with
        | some (.sl _ _ l _) => some (some (.one ⟨false, [.int .i64 l]⟩), [])
        | some .nils => some (some (.one ⟨false, [.int .i64 0]⟩), [])
        | _ => none
      | _ => match evPure P T o with
        | some v => some (some v, [])
        | none => none
    | _, _ => none
  | .call ⟨.builtin .append, args, ts⟩ => match args.toList, ts.toList with
    | [s, x], [t, t'] => match Nat.beq t t', P.underlying t, look σ nm with
      | true, some (.slice e), none => match nothing (opc T x) with
        | true => match full (opc T s), sizeT P e with
          | some y, some _ => some (some (.one ⟨false, [y]⟩), [])
          | _, _ => none
        | false => match appendA P σ e (opc T s) (opc T x) with
          | some (m, l) => some (some (.one ⟨false, [.sl nm 0 m none]⟩), [(nm, ⟨e, l, sizeT P e⟩)])
          | none => none
      | _, _, _ => none
    | _, _ => none
  | _ => match evPure P T o with
    | some v => some (some v, [])
    | none => none
end Go.Ev
namespace Go.Ev
open Go Go.RowKit
section
variable {P : Program} {w0 w : World} {ρ : Ren} {σ : Hp} {T : Tm} {a : Act} {o : Oper}
theorem res_pure {v : AV} (hs : HR w0 ρ σ w) (hT : TR ρ T a) (h : evPure P T o = some v) : Res P w0 ρ o a w (some v) σ := res_of hs (evPure_run hT h)
theorem pure_move {x : Operand} {v : AV} (ho : o.op = .move x ∨ o.op = .assign x) (hT : TR ρ T a) (h : opnd T x = some v) : ∃ u, v.rel ρ u ∧ ∀ w, (execOp a.eval o).run P w = .ok (.value u) w :=
  ⟨_, opnd_rel hT h, fun w => by rcases ho with ho | ho <;> simp [execOp, ho]⟩
theorem pure_pick {c x y : Operand} {b : Bool} {v : AV} (ho : o.op = .pick c x y) (hT : TR ρ T a) (hc : opc T c = some (.bool b)) (h : opnd T (if b then x else y) = some v) : ∃ u, v.rel ρ u ∧ ∀ w, (execOp a.eval o).run P w = .ok (.value u) w := by
  have hb : a.eval c = .bool b := opc_rel hT hc
  refine ⟨_, opnd_rel hT h, fun w => ?_⟩
  cases b <;> simp [execOp, ho, hb, asBool]
def evP (P : Program) (T : Tm) (o : Oper) : Option AV := match o.op with
  | .move x => opnd T x
  | .assign x => opnd T x
  | .pick c x y => match opc T c with
    | some (.bool true) => opnd T x
    | some (.bool false) => opnd T y
    | _ => none
  | .build t ps => match ops1 T ps.toList with
    | some parts => match buildA P t parts with
      | some l => some (.one ⟨true, l⟩)
      | none => none
    | none => none
  | .indexAddr t x i => match indexAddrA P t (opc T x) (opc T i) with
    | some (b, off) => some (ptrV b off)
    | none => none
  | .fieldAddr t x f => match fieldA P t f, opc T x with
    | some fd, some (.ptr b off) => match sizeT P fd.type with
      | some (_ + 1) => some (ptrV b (off + fd.offset))
      | _ => none
    | _, _ => none
  | .alloc _ => none
  | .box _ _ => none
  | .load _ _ => none
  | .store _ _ _ => none
  | .buildSlice _ _ _ => none
  | .call _ => none
  | _ => evPure P T o
theorem evP_run {x : AV} (hT : TR ρ T a) (h : evP P T o = some x) : ∃ v, x.rel ρ v ∧ ∀ w, (execOp a.eval o).run P w = .ok (.value v) w := by
  unfold evP at h
  split at h
  · rename_i y ho; exact pure_move (.inl ho) hT h
  · rename_i y ho; exact pure_move (.inr ho) hT h
  · rename_i c y z ho
    split at h
    · rename_i hc; exact pure_pick ho hT hc h
    · rename_i hc; exact pure_pick ho hT hc h
    · cases h
  · rename_i t ps ho
    split at h
    · rename_i parts hp
      split at h
      · rename_i l hl; cases h; exact pure_build ho hT hp hl
      · cases h
    · cases h
  · rename_i t y i ho
    split at h
    · rename_i b off e; cases h; exact pure_indexAddr ho hT e
    · cases h
  · rename_i t y f ho
    split at h
    · rename_i fd b off hf hx
      split at h
      · rename_i n hn; cases h; exact pure_fieldAddr ho hT hf hx hn
      · cases h
    · cases h
  · cases h
  · cases h
  · cases h
  · cases h
  · cases h
  · cases h
  · exact evPure_run hT h
theorem evOp_res {nm : Nat} {x : Option AV} {δ : Hp} (hs : HR w0 ρ σ w) (hT : TR ρ T a) (h : evOp P T σ nm o = some (x, δ)) : Res P w0 ρ o a w x (δ ++ σ) := by
  have pur : (match evPure P T o with | some v => some (some v, []) | none => none) = some (x, δ) → Res P w0 ρ o a w x (δ ++ σ) := fun h => by
    split at h
    · rename_i v e; cases h; exact res_pure hs hT e
    · cases h
  unfold evOp at h
  split at h
  · rename_i y ho
    split at h
    · rename_i v e; cases h; exact res_of hs (pure_move (.inl ho) hT e)
    · cases h
  · rename_i y ho
    split at h
    · rename_i v e; cases h; exact res_of hs (pure_move (.inr ho) hT e)
    · cases h
  · rename_i c y z ho
    split at h
    · rename_i hc
      split at h
      · rename_i v e; cases h; exact res_of hs (pure_pick ho hT hc e)
      · cases h
    · rename_i hc
      split at h
      · rename_i v e; cases h; exact res_of hs (pure_pick ho hT hc e)
      · cases h
    · cases h
  · rename_i t ho
    split at h
    · rename_i z hz hl; cases h; exact res_alloc ho hs hz hl
    · cases h
  · rename_i t y ho
    split at h
    · rename_i z hz hl; cases h; exact res_box ho hs hT hz hl
    · cases h
  · rename_i t ps ho
    split at h
    · rename_i parts hp
      split at h
      · rename_i l hl; cases h; exact res_of hs (pure_build ho hT hp hl)
      · cases h
    · cases h
  · rename_i t len ps ho
    split at h
    · rename_i e hu hl
      split at h
      · rename_i hps
        have hps : ps = #[] := by
          cases ps
          simp only at hps
          subst hps
          rfl
        subst hps
        split at h
        · rename_i n hn; cases h; exact res_buildSlice0 ho hs hu hn hl
        · cases h
      · split at h
        · rename_i parts hp
          split at h
          · rename_i c hc; cases h; exact res_buildSlice ho hs hT hu hp hc hl
          · cases h
        · cases h
    · cases h
  · rename_i t y ho
    split at h
    · rename_i b off hx
      split at h
      · rename_i z hz; cases h; exact res_load ho hs hT hx hz
      · cases h
    · cases h
  · rename_i t y u ho
    split at h
    · rename_i b off z n hx hz hn
      split at h
      · rename_i ob hob
        split at h
        · rename_i hb
          simp only [Bool.and_eq_true] at hb
          have b1 := Nat.eq_of_beq_eq_true hb.1
          have b2 := Nat.le_of_ble_eq_true hb.2
          cases h
          exact res_store ho hs hT hx hz hob (by rw [hn, b1]) b2
        · cases h
      · cases h
    · cases h
  · rename_i t y i ho
    split at h
    · rename_i b off e; cases h; exact res_of hs (pure_indexAddr ho hT e)
    · cases h
  · rename_i t y f ho
    split at h
    · rename_i fd b off hf hx
      split at h
      · rename_i n hn; cases h; exact res_of hs (pure_fieldAddr ho hT hf hx hn)
      · cases h
    · cases h
  · rename_i t y f ho
    split at h
    · rename_i fd l hf hx
      split at h
      · rename_i z hz; cases h; exact res_field ho hs hT hf hx hz
      · cases h
    · cases h
  · rename_i t y i ho
    split at h
    · rename_i z hz; cases h; exact res_index ho hs hT hz
    · exact pur h
  · rename_i y i ho
    split at h
    · rename_i l hx
      split at h
      · rename_i z hz; cases h; exact res_extract ho hs hT hx hz
      · cases h
    · cases h
  · rename_i args ts ho
    split at h
    · rename_i y t r ha ht
      have ha : args = #[y] := by
        cases args
        simp only at ha
        subst ha
        rfl
      subst ha
      have ht : ts[0]? = some t := by
        cases ts
        simp only at ht
        subst ht
        rfl
      split at h
      · rename_i e hu
        split at h
        · rename_i b off l c hx; cases h; exact res_len ho hs hT ht hu hx
        · rename_i hx; cases h; exact res_len_nil ho hs hT ht hu hx
        · cases h
      · exact pur h
    · cases h
  · rename_i args ts ho
    split at h
    · rename_i s y t t' ha ht
      have ha : args = #[s, y] := by
        cases args
        simp only at ha
        subst ha
        rfl
      have ht : ts = #[t, t'] := by
        cases ts
        simp only at ht
        subst ht
        rfl
      subst ha; subst ht
      split at h
      · rename_i e hb hu hl
        have hb := Nat.eq_of_beq_eq_true hb
        subst hb
        split at h
        · rename_i hx0
          split at h
          · rename_i y n hy hn; cases h; exact res_append0 ho hs hT hu hn hx0 hy
          · cases h
        · split at h
          · rename_i m l hm; cases h; exact res_append ho hs hT hu hm hl
          · cases h
      · cases h
    · cases h
  · exact pur h
end
end Go.Ev
namespace Go.Ev
open Go Go.RowKit
theorem look_append {α : Type} : ∀ (d t : List (Nat × α)) (k : Nat), look (d ++ t) k = match look d k with | some x => some x | none => look t k
  | [], t, k => rfl
  | (j, x) :: d, t, k => by
    rw [List.cons_append, look_cons, look_cons]
    split
    · rfl
    · exact look_append d t k
structure SR (nt : Nat) (ρ : Ren) (T : Tm) (a : Act) : Prop where
  tr : TR ρ T a
  size : a.tmps.size = nt
  defers : a.defers = []
theorem SR.ext {nt : Nat} {ρ ρ' : Ren} {T : Tm} {a : Act} (h : SR nt ρ T a) (e : Ext ρ ρ') : SR nt ρ' T a := ⟨h.tr.ext e, h.size, h.defers⟩
theorem SR.put {nt : Nat} {ρ : Ren} {T : Tm} {a : Act} (h : SR nt ρ T a) {d : Nat} (hd : d < nt) {x : AV} {v : Value} (hx : x.rel ρ v) : SR nt ρ ((d, some x) :: T) (a.put (some d) v) := by
  refine ⟨fun t y hy => ?_, by simp [Act.put, h.size], h.defers⟩
  rw [look_cons] at hy
  have hs := h.size
  split at hy
  · rename_i e
    subst e
    cases hy
    have : (a.put (some d) v).tmps.getD d undef = v := by simp [Act.put, Array.getD_eq_getD_getElem?, hs, hd]
    rw [this]; exact hx
  · rename_i e
    have : (a.put (some d) v).tmps.getD t undef = a.tmps.getD t undef := by simp [Act.put, Array.getD_eq_getD_getElem?, Array.getElem?_setIfInBounds_ne e]
    rw [this]; exact h.tr t y hy
theorem SR.drop {nt : Nat} {ρ : Ren} {T : Tm} {a : Act} (h : SR nt ρ T a) (d : Nat) (v : Value) : SR nt ρ ((d, none) :: T) (a.put (some d) v) := by
  refine ⟨fun t y hy => ?_, by simp [Act.put, h.size], h.defers⟩
  rw [look_cons] at hy
  split at hy
  · cases hy
  · rename_i e
    have : (a.put (some d) v).tmps.getD t undef = a.tmps.getD t undef := by simp [Act.put, Array.getD_eq_getD_getElem?, Array.getElem?_setIfInBounds_ne e]
    rw [this]; exact h.tr t y hy
def wantA (ops : Array Oper) (T : Tm) (o : Oper) : Option Bool := match o.guard with
  | none => some true
  | some (j, want) => match ops[j]? with
    | some oj => match oj.dst with
      | some d => match opc T (.tmp d) with
        | some (.bool b) => some (b == want)
        | _ => none
      | none => none
    | none => none
theorem want_rel {ρ : Ren} {T : Tm} {a : Act} (hT : TR ρ T a) {ops : Array Oper} {o : Oper} {b : Bool} (h : wantA ops T o = some b) : Region.wanted o (yielded ops a.tmps) = b := by
  unfold wantA at h
  unfold Region.wanted
  split at h
  · rename_i hg; rw [hg]; cases h; rfl
  · rename_i j want hg
    rw [hg]
    split at h
    · rename_i oj hj
      split at h
      · rename_i d hd
        split at h
        · rename_i c hc
          cases h
          have hv : a.tmps.getD d undef = .bool c := opc_rel hT hc
          have hv' : a.tmps[d]? = some (.bool c) := by
            rw [Array.getD_eq_getD_getElem?] at hv
            cases e : a.tmps[d]? with
            | none => rw [e] at hv; cases hv
            | some u => rw [e] at hv; exact congrArg some hv
          have hy : yielded ops a.tmps j = some c := by simp [yielded, hj, hd, hv']
          simp only [hy]
          rfl
        · cases h
      · cases h
    · cases h
def callOf (o : Oper) : Option (FuncId × List Operand) := match o.op with
  | .call ⟨.value (.func f), args, _⟩ => some (f, args.toList)
  | _ => none
def argsA (T : Tm) : List Operand → Option (List A1)
  | [] => some []
  | x :: t => match op1 T x, argsA T t with
    | some v, some l => some (v :: l)
    | _, _ => none
theorem argsA_rel {ρ : Ren} {T : Tm} {a : Act} (h : TR ρ T a) : ∀ {l : List Operand} {vs : List A1}, argsA T l = some vs → R1 ρ vs (l.map a.eval)
  | [], vs, e => by cases e; rfl
  | x :: t, vs, e => by
    simp only [argsA] at e
    split at e
    · rename_i v l' h1 h2
      cases e
      exact ⟨_, _, rfl, op1_rel h h1, argsA_rel h h2⟩
    · cases e
def putA (nt : Nat) (dst : Option Tmp) (v : AV) : Option Tm := match dst with
  | none => some []
  | some d => match Nat.blt d nt with
    | true => some [(d, some v)]
    | false => none
theorem SR.putA {nt : Nat} {ρ : Ren} {T e : Tm} {a : Act} (h : SR nt ρ T a) {dst : Option Tmp} {x : AV} {v : Value} (he : putA nt dst x = some e) (hx : x.rel ρ v) : SR nt ρ (e ++ T) (a.put dst v) := by
  unfold Ev.putA at he
  split at he
  · cases he; exact h
  · split at he
    · rename_i d hd; cases he; exact h.put (Nat.le_of_ble_eq_true hd) hx
    · cases he
abbrev Caller := FuncId → List A1 → Hp → Nat → Option (AV × Hp)
def evStep (call : Caller) (P : Program) (nt : Nat) (ops : Array Oper) (T : Tm) (σ : Hp) (i nm : Nat) : Option (Tm × Hp) := match ops[i]? with
  | none => none
  | some o => match wantA ops T o with
    | none => none
    | some false => match o.dst with
      | some d => some ([(d, none)], [])
      | none => some ([], [])
    | some true => match callOf o with
      | some (f, args) => match argsA T args with
        | some vs => match call f vs σ nm with
          | some (v, δ) => match putA nt o.dst v with
            | some e => some (e, δ)
            | none => none
          | none => none
        | none => none
      | none => match evOp P T σ nm o with
        | some (some v, δ) => match putA nt o.dst v with
          | some e => some (e, δ)
          | none => none
        | some (none, δ) => match o.dst with
          | none => some ([], δ)
          | some _ => none
        | none => none
def CallOK (P : Program) (w0 : World) (call : Caller) : Prop := ∀ f vs σ nm v δ, call f vs σ nm = some (v, δ) → (∀ args w, (callFunc f args).run P w = .ok (.enter f args) w) ∧ ∀ ρ w us, HR w0 ρ σ w → R1 ρ vs us →
  Calls P f us.toArray w fun e w' => ∃ u ρ', e = .returned u ∧ Ext ρ ρ' ∧ v.rel ρ' u ∧ HR w0 ρ' (δ ++ σ) w'
section
variable {P : Program} {w0 : World} {call : Caller} {nt : Nat} {ops : Array Oper}
theorem evStep_wp (hC : CallOK P w0 call) {T e : Tm} {σ δ : Hp} {i nm : Nat} (h : evStep call P nt ops T σ i nm = some (e, δ)) {ρ : Ren} {a : Act} {w : World} (hS : SR nt ρ T a) (hs : HR w0 ρ σ w) {Q : Exit → Act → World → Prop} {K : Act → World → Prop}
    (hK : ∀ ρ' a' w', Ext ρ ρ' → SR nt ρ' (e ++ T) a' → HR w0 ρ' (δ ++ σ) w' → K a' w') : wpOp P ops Q i K a w := by
  unfold evStep at h
  split at h
  · cases h
  · rename_i o ho
    unfold wpOp
    rw [ho]
    simp only
    split at h
    · cases h
    · rename_i hw
      rw [want_rel hS.tr hw]
      simp only [Bool.false_eq_true, if_false]
      split at h
      · rename_i d hd
        cases h
        rw [hd]
        exact hK ρ _ _ (Ext.refl _) (hS.drop d undef) hs
      · rename_i hd
        cases h
        rw [hd]
        exact hK ρ _ _ (Ext.refl _) hS hs
    · rename_i hw
      rw [want_rel hS.tr hw]
      simp only [if_true]
      refine .inl ?_
      unfold Oper.wp
      split at h
      · rename_i f args hco
        split at h
        · rename_i vs hvs
          split at h
          · rename_i v δ' hcall
            split at h
            · rename_i e' hput
              cases h
              obtain ⟨hent, hcl⟩ := hC f vs σ nm v δ hcall
              unfold callOf at hco
              split at hco
              · rename_i f' args' ts hop
                cases hco
                have hrun : (execOp a.eval o).run P w = .ok (.enter f (args'.toList.map a.eval).toArray) w := by
                  simp only [execOp, hop, resolve, Deferred.ofValue, Act.eval, invoke, Sem.run_bind, Sem.run_pure, Result.andThen_ok, hent]
                  simp
                  exact Array.ext' (by simp)
                rw [hrun]
                refine (hcl ρ w _ hs (argsA_rel hS.tr hvs)).mono ?_
                rintro en w' ⟨u, ρ', rfl, k1, k2, k3⟩
                exact hK ρ' _ _ k1 ((hS.ext k1).putA hput k2) k3
              · cases hco
            · cases h
          · cases h
        · cases h
      · split at h
        · rename_i v δ' hev
          split at h
          · rename_i e' hput
            cases h
            obtain ⟨n, w', ρ', k1, k2, k3, u, rfl, k4⟩ := evOp_res hs hS.tr hev
            rw [k1]
            exact hK ρ' _ _ k2 ((hS.ext k2).putA hput k4) k3
          · cases h
        · rename_i δ' hev
          split at h
          · rename_i hd
            cases h
            obtain ⟨n, w', ρ', k1, k2, k3, k4⟩ := evOp_res hs hS.tr hev
            have k4 : n = .skip := k4
            subst k4
            rw [k1]
            show K (a.put o.dst undef) w'
            rw [hd]
            exact hK ρ' _ _ k2 (hS.ext k2) k3
          · cases h
        · cases h
def evSeq (call : Caller) (P : Program) (nt : Nat) (ops : Array Oper) (T : Tm) (σ : Hp) (nm : Nat) : List Nat → Tm → Hp → Option (Tm × Hp)
  | [], e, δ => some (e, δ)
  | i :: rest, e, δ => match evStep call P nt ops (e ++ T) (δ ++ σ) i (nm + i) with
    | some (e1, δ1) => evSeq call P nt ops T σ nm rest (e1 ++ e) (δ1 ++ δ)
    | none => none
theorem evSeq_wp (hC : CallOK P w0 call) {T : Tm} {σ : Hp} {nm : Nat} {ρ0 : Ren} {Q : Exit → Act → World → Prop} {e' : Tm} {δ' : Hp} (hQ : ∀ ρ' a' w', Ext ρ0 ρ' → SR nt ρ' (e' ++ T) a' → HR w0 ρ' (δ' ++ σ) w' → Q .normal a' w') :
    ∀ (l : List Nat) (e : Tm) (δ : Hp), evSeq call P nt ops T σ nm l e δ = some (e', δ') → ∀ (ρ : Ren) (a : Act) (w : World), Ext ρ0 ρ → SR nt ρ (e ++ T) a → HR w0 ρ (δ ++ σ) w → wpOps P ops Q l a w
  | [], e, δ, h, ρ, a, w, h0, hS, hs => by
    cases h
    exact hQ ρ a w h0 hS hs
  | i :: rest, e, δ, h, ρ, a, w, h0, hS, hs => by
    simp only [evSeq] at h
    split at h
    · rename_i e1 δ1 h1
      rw [wpOps_cons]
      refine evStep_wp hC h1 hS hs fun ρ' a' w' k1 k2 k3 => ?_
      exact evSeq_wp hC hQ rest _ _ h ρ' a' w' (h0.trans k1) (by rw [List.append_assoc]; exact k2) (by rw [List.append_assoc]; exact k3)
    · cases h
def maskArr (n m : Nat) : Array Bool := ((List.range n).map fun i => Nat.testBit m i).toArray
theorem maskArr_zero (n : Nat) : maskArr n 0 = Array.replicate n false := by
  unfold maskArr
  apply Array.ext'
  simp only [Nat.zero_testBit, Array.toList_replicate]
  rw [List.map_const', List.length_range]
theorem maskArr_set (n m i : Nat) : maskArr n (m ||| 2 ^ i) = (maskArr n m).setIfInBounds i true := by
  unfold maskArr
  apply Array.ext
  · simp
  · intro j h1 h2
    have hj : j < n := by simpa using h1
    simp only [List.getElem_toArray, List.getElem_map, List.getElem_range, Nat.testBit_or, Nat.testBit_two_pow, Array.getElem_setIfInBounds]
    by_cases e : i = j
    · simp [e]
    · simp [e]
def optB : Option AV → Option AV → Bool
  | some x, some y => x.eqb y
  | none, none => true
  | _, _ => false
theorem optB_eq {x y : Option AV} (h : optB x y = true) : x = y := by
  cases x <;> cases y <;> simp only [optB] at h
  · rfl
  · cases h
  · cases h
  · rw [AV.eqb_eq h]
def optN : Option Nat → Option Nat → Bool
  | some x, some y => Nat.beq x y
  | none, none => true
  | _, _ => false
def aoB (x y : AO) : Bool := Nat.beq x.t y.t && (cellsB x.c y.c && optN x.s y.s)
theorem aoB_eq {x y : AO} (h : aoB x y = true) : x = y := by
  obtain ⟨t, c, s⟩ := x
  obtain ⟨t', c', s'⟩ := y
  simp only [aoB, Bool.and_eq_true] at h
  have h1 : t = t' := Nat.eq_of_beq_eq_true h.1
  have h2 : s = s' := by
    have h3 := h.2.2
    cases s <;> cases s' <;> simp only [optN] at h3
    · rfl
    · cases h3
    · cases h3
    · rw [Nat.eq_of_beq_eq_true h3]
  rw [h1, cellsB_eq h.2.1, h2]
def sameAt {α : Type} (eq : α → α → Bool) (d1 d2 : List (Nat × α)) : List (Nat × α) → Bool
  | [] => true
  | (k, _) :: t => (match look d1 k, look d2 k with
    | some x, some y => eq x y
    | none, none => true
    | _, _ => false) && sameAt eq d1 d2 t
theorem sameAt_look {α : Type} {eq : α → α → Bool} (he : ∀ x y, eq x y = true → x = y) {d1 d2 : List (Nat × α)} : ∀ {l : List (Nat × α)}, sameAt eq d1 d2 l = true → ∀ k, (look l k).isSome = true → look d1 k = look d2 k
  | [], _, k, h => by cases h
  | (j, x) :: t, h, k, hk => by
    simp only [sameAt, Bool.and_eq_true] at h
    rw [look_cons] at hk
    split at hk
    · rename_i e
      subst e
      have h1 := h.1
      split at h1
      · rename_i u v e1 e2; rw [e1, e2, he u v h1]
      · rename_i e1 e2; rw [e1, e2]
      · cases h1
    · exact sameAt_look he h.2 k hk
def sameL {α : Type} (eq : α → α → Bool) (d1 d2 : List (Nat × α)) : Bool := sameAt eq d1 d2 d1 && sameAt eq d1 d2 d2
theorem sameL_look {α : Type} {eq : α → α → Bool} (he : ∀ x y, eq x y = true → x = y) {d1 d2 : List (Nat × α)} (h : sameL eq d1 d2 = true) (k : Nat) : look d1 k = look d2 k := by
  simp only [sameL, Bool.and_eq_true] at h
  cases e1 : look d1 k with
  | some x => rw [← e1]; exact sameAt_look he h.1 k (by rw [e1]; rfl)
  | none =>
    cases e2 : look d2 k with
    | some y => rw [← e1, ← e2]; exact sameAt_look he h.2 k (by rw [e2]; rfl)
    | none => rfl
theorem SR.same {ρ : Ren} {T T' : Tm} {a : Act} (h : SR nt ρ T a) (e : ∀ k, look T k = look T' k) : SR nt ρ T' a := ⟨fun t x hx => h.tr t x ((e t).trans hx), h.size, h.defers⟩
theorem HR.same {ρ : Ren} {σ σ' : Hp} {w : World} (h : HR w0 ρ σ w) (e : ∀ k, look σ k = look σ' k) : HR w0 ρ σ' w := ⟨h.below, fun b k hb => by rw [← e b]; exact h.dom b k hb, fun b o ho => h.obj b o ((e b).trans ho), h.inj⟩
theorem look_same {α : Type} {d d' t : List (Nat × α)} (e : ∀ k, look d k = look d' k) (k : Nat) : look (d ++ t) k = look (d' ++ t) k := by rw [look_append, look_append, e k]
abbrev Sts := List (Nat × Tm × Hp)
def insL : Sts → Nat → Tm → Hp → Option Sts
  | [], m, e, δ => some [(m, e, δ)]
  | (m', e', δ') :: t, m, e, δ => match Nat.beq m m' with
    | true => match sameL optB e' e && sameL aoB δ' δ with
      | true => some ((m', e', δ') :: t)
      | false => none
    | false => match insL t m e δ with
      | some t' => some ((m', e', δ') :: t')
      | none => none
def Cov (L : Sts) (m : Nat) (e : Tm) (δ : Hp) : Prop := ∃ e' δ', (m, e', δ') ∈ L ∧ (∀ k, look e k = look e' k) ∧ ∀ k, look δ k = look δ' k
theorem Cov.sub {L L' : Sts} (h : ∀ x ∈ L, x ∈ L') {m : Nat} {e : Tm} {δ : Hp} (k : Cov L m e δ) : Cov L' m e δ := by
  obtain ⟨e', δ', k1, k2⟩ := k
  exact ⟨e', δ', h _ k1, k2⟩
theorem insL_ok : ∀ {L L' : Sts} {m : Nat} {e : Tm} {δ : Hp}, insL L m e δ = some L' → Cov L' m e δ ∧ ∀ x ∈ L, x ∈ L'
  | [], L', m, e, δ, h => by
    cases h
    exact ⟨⟨e, δ, List.mem_singleton.2 rfl, fun _ => rfl, fun _ => rfl⟩, fun x hx => by cases hx⟩
  | (m', e', δ') :: t, L', m, e, δ, h => by
    simp only [insL] at h
    split at h
    · rename_i hm
      have hm := Nat.eq_of_beq_eq_true hm
      subst hm
      split at h
      · rename_i hsm
        simp only [Bool.and_eq_true] at hsm
        cases h
        exact ⟨⟨e', δ', List.mem_cons_self, fun k => (sameL_look (fun x y => optB_eq) hsm.1 k).symm, fun k => (sameL_look (fun x y => aoB_eq) hsm.2 k).symm⟩, fun x hx => hx⟩
      · cases h
    · split at h
      · rename_i t' ht
        cases h
        obtain ⟨k1, k2⟩ := insL_ok ht
        refine ⟨k1.sub fun x hx => List.mem_cons_of_mem _ hx, fun x hx => ?_⟩
        rcases List.mem_cons.1 hx with rfl | hx
        · exact List.mem_cons_self
        · exact List.mem_cons_of_mem _ (k2 x hx)
      · cases h
def evFrom (call : Caller) (P : Program) (nt : Nat) (ops : Array Oper) (T : Tm) (σ : Hp) (nm : Nat) (m : Nat) (e : Tm) (δ : Hp) : List Nat → Sts → Option Sts
  | [], L => some L
  | i :: rest, L => match evStep call P nt ops (e ++ T) (δ ++ σ) i (nm + i) with
    | some (e1, δ1) => match insL L (m ||| 2 ^ i) (e1 ++ e) (δ1 ++ δ) with
      | some L' => evFrom call P nt ops T σ nm m e δ rest L'
      | none => none
    | none => none
theorem evFrom_ok {T : Tm} {σ : Hp} {nm m : Nat} {e : Tm} {δ : Hp} : ∀ {l : List Nat} {L L' : Sts}, evFrom call P nt ops T σ nm m e δ l L = some L' → (∀ i ∈ l, ∃ e1 δ1, evStep call P nt ops (e ++ T) (δ ++ σ) i (nm + i) = some (e1, δ1) ∧ Cov L' (m ||| 2 ^ i) (e1 ++ e) (δ1 ++ δ)) ∧ ∀ x ∈ L, x ∈ L'
  | [], L, L', h => by
    cases h
    exact ⟨fun i hi => by (cases hi), fun x hx => hx⟩
  | i :: rest, L, L', h => by
    simp only [evFrom] at h
    split at h
    · rename_i e1 δ1 h1
      split at h
      · rename_i L1 h2
        obtain ⟨k1, k2⟩ := insL_ok h2
        obtain ⟨k3, k4⟩ := evFrom_ok h
        refine ⟨fun j hj => ?_, fun x hx => k4 x (k2 x hx)⟩
        rcases List.mem_cons.1 hj with rfl | hj
        · exact ⟨e1, δ1, h1, k1.sub k4⟩
        · exact k3 j hj
      · cases h
    · cases h
def freeS (ops : Array Oper) (i : Nat) : Bool := Region.noSelect ops && Region.free .any ops (Array.replicate ops.size false) i
theorem freeS_free {i : Nat} (h : freeS ops i = true) (listed : Array Bool) : Region.noSelect ops = true ∧ Region.free .any ops listed i = true := by
  unfold freeS at h
  rw [Bool.and_eq_true] at h
  refine ⟨h.1, ?_⟩
  have h2 := h.2
  unfold Region.free at h2 ⊢
  split at h2
  · cases h2
  · rename_i oi hi
    rw [List.all_eq_true] at h2 ⊢
    intro j hj
    have h3 := h2 j hj
    have hlt : j < ops.size := List.mem_range.1 hj
    have e : (Array.replicate ops.size false).getD j true = false := by simp [Array.getD_eq_getD_getElem?, hlt]
    rw [e] at h3
    simp only [Bool.or_false, Bool.or_eq_true] at h3 ⊢
    rcases h3 with h3 | h3
    · exact .inl (.inl h3)
    · exact .inr h3
def pureStep (P : Program) (nt : Nat) (ops : Array Oper) (T : Tm) (i : Nat) : Option Tm := match ops[i]? with
  | none => none
  | some o => match freeS ops i with
    | false => none
    | true => match wantA ops T o with
      | none => none
      | some false => match o.dst with
        | some d => some [(d, none)]
        | none => some []
      | some true => match evP P T o with
        | some v => putA nt o.dst v
        | none => none
theorem pureStep_ok {T e : Tm} {i : Nat} (h : pureStep P nt ops T i = some e) {ρ : Ren} {a : Act} (hS : SR nt ρ T a) : ∃ o v, ops[i]? = some o ∧ freeS ops i = true ∧ Yields P ops o v a ∧ SR nt ρ (e ++ T) (a.put o.dst v) := by
  unfold pureStep at h
  split at h
  · cases h
  · rename_i o ho
    split at h
    · cases h
    · rename_i hf
      split at h
      · cases h
      · rename_i hw
        have hw := want_rel hS.tr hw
        split at h
        · rename_i d hd
          cases h
          exact ⟨o, undef, ho, hf, .inr ⟨hw, rfl⟩, by rw [hd]; exact hS.drop d undef⟩
        · rename_i hd
          cases h
          exact ⟨o, undef, ho, hf, .inr ⟨hw, rfl⟩, by rw [hd]; exact hS⟩
      · rename_i hw
        have hw := want_rel hS.tr hw
        split at h
        · rename_i v hv
          obtain ⟨u, k1, k2⟩ := evP_run hS.tr hv
          exact ⟨o, u, ho, hf, .inl ⟨hw, k2⟩, hS.putA h k1⟩
        · cases h
def firstPure (P : Program) (nt : Nat) (ops : Array Oper) (T : Tm) : List Nat → Option (Nat × Tm)
  | [] => none
  | i :: r => match pureStep P nt ops T i with
    | some e => some (i, e)
    | none => firstPure P nt ops T r
theorem firstPure_ok {T : Tm} : ∀ {l : List Nat} {i : Nat} {e : Tm}, firstPure P nt ops T l = some (i, e) → i ∈ l ∧ pureStep P nt ops T i = some e
  | [], i, e, h => by cases h
  | j :: r, i, e, h => by
    simp only [firstPure] at h
    split at h
    · rename_i e' he
      cases h
      exact ⟨List.mem_cons_self, he⟩
    · obtain ⟨k1, k2⟩ := firstPure_ok h
      exact ⟨List.mem_cons_of_mem _ k1, k2⟩
def readyOf (ops : Array Oper) (m : Nat) : Nat → List Oper → List Nat
  | _, [] => []
  | i, o :: t => match Nat.testBit m i with
    | true => readyOf ops m (i + 1) t
    | false => match o.after.toList.all fun e => !Region.binds .any e || (Nat.blt e.on ops.size && Nat.testBit m e.on) with
      | true => i :: readyOf ops m (i + 1) t
      | false => readyOf ops m (i + 1) t
theorem mask_getD (n m i : Nat) (d : Bool) : (maskArr n m).getD i d = if i < n then Nat.testBit m i else d := by
  unfold maskArr
  rw [Array.getD_eq_getD_getElem?, List.getElem?_toArray, List.getElem?_map]
  split
  · rename_i h; rw [List.getElem?_range h]; rfl
  · rename_i h; rw [List.getElem?_eq_none (by simpa using h)]; rfl
theorem readyOf_mem {m : Nat} : ∀ (l : List Oper) (i : Nat), (∀ j, l[j]? = ops[i + j]?) → ∀ k, k ∈ readyOf ops m i l ↔ i ≤ k ∧ k ∈ Region.ready .any ops (maskArr ops.size m)
  | [], i, hl, k => by
    constructor
    · intro h; cases h
    · rintro ⟨h1, h2⟩
      obtain ⟨-, o, ho, -⟩ := mem_ready.1 h2
      have := hl (k - i)
      rw [show i + (k - i) = k by omega, ho] at this
      cases this
  | o :: t, i, hl, k => by
    have ih := readyOf_mem (m := m) t (i + 1) (fun j => by
      have := hl (j + 1)
      rw [List.getElem?_cons_succ] at this
      rw [this]
      congr 1
      omega) k
    have ho : ops[i]? = some o := (hl 0).symm
    have hlt : i < ops.size := (Array.getElem?_eq_some_iff.1 ho).1
    have hi : i ∈ Region.ready .any ops (maskArr ops.size m) ↔ Nat.testBit m i = false ∧ (o.after.toList.all fun e => !Region.binds .any e || (Nat.blt e.on ops.size && Nat.testBit m e.on)) = true := by
      rw [mem_ready, mask_getD, if_pos hlt]
      refine and_congr_right fun h0 => ?_
      rw [ho, List.all_eq_true]
      constructor
      · rintro ⟨o', e1, h⟩ e he
        cases e1
        cases hb : Region.binds .any e
        · rfl
        · have h1 := h e (Array.mem_toList_iff.1 he) hb
          rw [mask_getD] at h1
          split at h1
          · rename_i h2
            rw [h1]
            have : Nat.blt e.on ops.size = true := Nat.ble_eq_true_of_le h2
            rw [this]
            rfl
          · cases h1
      · intro h
        refine ⟨o, rfl, fun e he hb => ?_⟩
        have h1 := h e (Array.mem_toList_iff.2 he)
        rw [hb] at h1
        simp only [Bool.not_true, Bool.false_or, Bool.and_eq_true] at h1
        have hlt2 : e.on < ops.size := Nat.le_of_ble_eq_true h1.1
        rw [mask_getD, if_pos hlt2]
        exact h1.2
    have hne : ∀ k, i + 1 ≤ k → i ≠ k := fun k h e => by omega
    simp only [readyOf]
    split
    · rename_i hb
      rw [ih]
      constructor
      · rintro ⟨h1, h2⟩; exact ⟨by omega, h2⟩
      · rintro ⟨h1, h2⟩
        refine ⟨?_, h2⟩
        rcases Nat.lt_or_ge i k with h | h
        · exact h
        · obtain rfl : k = i := by omega
          rw [(hi.1 h2).1] at hb
          cases hb
    · rename_i hb
      split
      · rename_i hall
        rw [List.mem_cons, ih]
        constructor
        · rintro (rfl | ⟨h1, h2⟩)
          · exact ⟨Nat.le_refl _, hi.2 ⟨hb, hall⟩⟩
          · exact ⟨by omega, h2⟩
        · rintro ⟨h1, h2⟩
          rcases Nat.lt_or_ge i k with h | h
          · exact .inr ⟨h, h2⟩
          · exact .inl (by omega)
      · rename_i hall
        rw [ih]
        constructor
        · rintro ⟨h1, h2⟩; exact ⟨by omega, h2⟩
        · rintro ⟨h1, h2⟩
          refine ⟨?_, h2⟩
          rcases Nat.lt_or_ge i k with h | h
          · exact h
          · obtain rfl : k = i := by omega
            rw [(hi.1 h2).2] at hall
            cases hall
theorem ready_mem {m : Nat} (k : Nat) : k ∈ readyOf ops m 0 ops.toList ↔ k ∈ Region.ready .any ops (maskArr ops.size m) := by
  rw [readyOf_mem ops.toList 0 (fun j => by rw [Nat.zero_add, Array.getElem?_toList])]
  simp
def evUp (call : Caller) (P : Program) (nt : Nat) (ops : Array Oper) (T : Tm) (σ : Hp) (nm : Nat) : Sts → Sts → Option Sts
  | [], L => some L
  | (m, e, δ) :: t, L => match readyOf ops m 0 ops.toList with
    | [] => none
    | i :: r => match firstPure P nt ops (e ++ T) (i :: r) with
      | some (j, e1) => match insL L (m ||| 2 ^ j) (e1 ++ e) δ with
        | some L' => evUp call P nt ops T σ nm t L'
        | none => none
      | none => match evFrom call P nt ops T σ nm m e δ (i :: r) L with
        | some L' => evUp call P nt ops T σ nm t L'
        | none => none
def Up (call : Caller) (P : Program) (nt : Nat) (ops : Array Oper) (T : Tm) (σ : Hp) (nm : Nat) (L' : Sts) (m : Nat) (e : Tm) (δ : Hp) : Prop :=
  (∃ j e1, j ∈ Region.ready .any ops (maskArr ops.size m) ∧ pureStep P nt ops (e ++ T) j = some e1 ∧ Cov L' (m ||| 2 ^ j) (e1 ++ e) δ) ∨
  (Region.ready .any ops (maskArr ops.size m) ≠ [] ∧ ∀ i ∈ Region.ready .any ops (maskArr ops.size m), ∃ e1 δ1, evStep call P nt ops (e ++ T) (δ ++ σ) i (nm + i) = some (e1, δ1) ∧ Cov L' (m ||| 2 ^ i) (e1 ++ e) (δ1 ++ δ))
theorem Up.sub {T : Tm} {σ : Hp} {nm : Nat} {L L' : Sts} (h : ∀ x ∈ L, x ∈ L') {m : Nat} {e : Tm} {δ : Hp} (k : Up call P nt ops T σ nm L m e δ) : Up call P nt ops T σ nm L' m e δ := by
  rcases k with ⟨j, e1, h1, h2, h3⟩ | ⟨h1, h2⟩
  · exact .inl ⟨j, e1, h1, h2, h3.sub h⟩
  · refine .inr ⟨h1, fun i hi => ?_⟩
    obtain ⟨e1, δ1, q1, q2⟩ := h2 i hi
    exact ⟨e1, δ1, q1, q2.sub h⟩
theorem evUp_ok {T : Tm} {σ : Hp} {nm : Nat} : ∀ {S L L' : Sts}, evUp call P nt ops T σ nm S L = some L' → (∀ m e δ, (m, e, δ) ∈ S → Up call P nt ops T σ nm L' m e δ) ∧ ∀ x ∈ L, x ∈ L'
  | [], L, L', h => by
    cases h
    exact ⟨fun m e δ hi => by (cases hi), fun x hx => hx⟩
  | (m, e, δ) :: t, L, L', h => by
    simp only [evUp] at h
    split at h
    · cases h
    · rename_i i r hr
      have hmem : ∀ k, k ∈ i :: r ↔ k ∈ Region.ready .any ops (maskArr ops.size m) := fun k => by rw [← hr]; exact ready_mem k
      split at h
      · rename_i j e1 hp
        obtain ⟨p1, p2⟩ := firstPure_ok hp
        split at h
        · rename_i L1 h1
          obtain ⟨k1, k2⟩ := insL_ok h1
          obtain ⟨k3, k4⟩ := evUp_ok h
          refine ⟨fun m' e' δ' hm => ?_, fun x hx => k4 x (k2 x hx)⟩
          rcases List.mem_cons.1 hm with hm | hm
          · cases hm
            exact .inl ⟨j, e1, (hmem j).1 p1, p2, k1.sub k4⟩
          · exact k3 m' e' δ' hm
        · cases h
      · split at h
        · rename_i L1 h1
          obtain ⟨k1, k2⟩ := evFrom_ok h1
          obtain ⟨k3, k4⟩ := evUp_ok h
          refine ⟨fun m' e' δ' hm => ?_, fun x hx => k4 x (k2 x hx)⟩
          rcases List.mem_cons.1 hm with hm | hm
          · cases hm
            refine .inr ⟨fun e => ?_, fun j hj => ?_⟩
            · have := (hmem i).1 List.mem_cons_self
              rw [e] at this
              cases this
            · obtain ⟨e1, δ1, q1, q2⟩ := k1 j ((hmem j).2 hj)
              exact ⟨e1, δ1, q1, q2.sub k4⟩
          · exact k3 m' e' δ' hm
        · cases h
def evIter (call : Caller) (P : Program) (nt : Nat) (ops : Array Oper) (T : Tm) (σ : Hp) (nm : Nat) : Nat → Sts → Option (Tm × Hp)
  | 0, [(m, e, δ)] => match readyOf ops m 0 ops.toList with
    | [] => some (e, δ)
    | _ :: _ => none
  | 0, _ => none
  | k + 1, S => match evUp call P nt ops T σ nm S [] with
    | some S' => evIter call P nt ops T σ nm k S'
    | none => none
theorem evIter_wp (hC : CallOK P w0 call) {T : Tm} {σ : Hp} {nm : Nat} {ρ0 : Ren} {Q : Exit → Act → World → Prop} {e' : Tm} {δ' : Hp} (hP : ∀ c a w, ¬ Q (.panic c) a w) (hQ : ∀ ρ' a' w', Ext ρ0 ρ' → SR nt ρ' (e' ++ T) a' → HR w0 ρ' (δ' ++ σ) w' → Q .normal a' w') :
    ∀ (k : Nat) (S : Sts), evIter call P nt ops T σ nm k S = some (e', δ') → ∀ (m : Nat) (e : Tm) (δ : Hp), (m, e, δ) ∈ S → ∀ (ρ : Ren) (a : Act) (w : World), Ext ρ0 ρ → SR nt ρ (e ++ T) a → HR w0 ρ (δ ++ σ) w → wpAny P .any ops Q k (maskArr ops.size m) a w
  | 0, S, h, m, e, δ, hm, ρ, a, w, h0, hS, hs => by
    unfold evIter at h
    split at h
    · rename_i m' e1 δ1
      split at h
      · rename_i hr
        cases h
        cases List.mem_singleton.1 hm
        refine ⟨?_, hQ ρ a w h0 hS hs⟩
        cases hr2 : Region.ready .any ops (maskArr ops.size m) with
        | nil => rfl
        | cons x xs =>
          have : x ∈ readyOf ops m 0 ops.toList := (ready_mem x).2 (by rw [hr2]; exact List.mem_cons_self)
          rw [hr] at this
          cases this
      · cases h
    · cases h
    · rename_i hk; cases hk
  | k + 1, S, h, m, e, δ, hm, ρ, a, w, h0, hS, hs => by
    simp only [evIter] at h
    split at h
    · rename_i S' h1
      obtain ⟨k1, -⟩ := evUp_ok h1
      rcases k1 m e δ hm with ⟨j, e1, j1, j2, e2, δ2, q2, q3, q4⟩ | ⟨k2, k3⟩
      · obtain ⟨o, v, y1, y2, y3, y4⟩ := pureStep_ok j2 hS
        obtain ⟨f1, f2⟩ := freeS_free y2 (maskArr ops.size m)
        refine wpAny_take y1 f1 f2 (by simpa using j1) (fun c a w hc => absurd hc (hP c _ _)) y3 ?_
        rw [← maskArr_set]
        refine evIter_wp hC hP hQ k S' h _ e2 δ2 q2 ρ _ w h0 (SR.same y4 fun x => ?_) (HR.same hs fun x => ?_)
        · rw [← List.append_assoc]; exact look_same q3 x
        · exact look_same q4 x
      · refine ⟨fun hr => absurd hr k2, fun i hi => ?_⟩
        obtain ⟨e1, δ1, q1, e2, δ2, q2, q3, q4⟩ := k3 i hi
        refine evStep_wp hC q1 hS hs fun ρ' a' w' j1 j2 j3 => ?_
        rw [← maskArr_set]
        refine evIter_wp hC hP hQ k S' h _ e2 δ2 q2 ρ' a' w' (h0.trans j1) (SR.same j2 fun x => ?_) (HR.same j3 fun x => ?_)
        · rw [← List.append_assoc]; exact look_same q3 x
        · rw [← List.append_assoc]; exact look_same q4 x
    · cases h
end
end Go.Ev
