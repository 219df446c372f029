/-
  EvF, EvG, EvH, TbE, TbF.
-/
import Derived.Test.YtmnleknehjkmgaaGreatGAE
import Derived.Test.YtmnleknehjkmgaaGreatGAB
import Derived.Test.YtmnleknehjkmgaaGreatGAA
set_option linter.all false
set_option maxRecDepth 100000
set_option maxHeartbeats 4000000
namespace Go.Ev
open Go Go.RowKit
section
variable {P : Program} {w0 w : World} {ρ : Ren} {σ : Hp} {T : Tm} {a : Act} {o : Oper}
theorem res_pure {v : AV} (hs : HR w0 ρ σ w) (hT : TR ρ T a) (h : evPure P T o = some v) : Res P w0 ρ o a w (some v) σ := res_of hs (evPure_run hT h)
theorem pure_move {x : Operand} {v : AV} (ho : o.op = .move x ∨ o.op = .assign x) (hT : TR ρ T a) (h : opnd T x = some v) : ∃ u, v.rel ρ u ∧ ∀ w, (execOp a.eval o).run P w = .ok (.value u) w :=
  ⟨_, opnd_rel hT h, fun w => by rcases ho with ho | ho <;> simp [execOp, ho]⟩
theorem pure_pick {c x y : Operand} {b : Bool} {v : AV} (ho : o.op = .pick c x y) (hT : TR ρ T a) (hc : opc T c = some (.bool b)) (h : opnd T (if b then x else y) = some v) : ∃ u, v.rel ρ u ∧ ∀ w, (execOp a.eval o).run P w = .ok (.value u) w := by
  have hb : a.eval c = .bool b := opc_rel hT hc
  refine ⟨_, opnd_rel hT h, fun w => ?_⟩
  cases b <;> simp [execOp, ho, hb, asBool]
def evP (P : Program) (T : Tm) (o : Oper) : Option AV := match o.op with
  | .move x => opnd T x
  | .assign x => opnd T x
  | .pick c x y => match opc T c with
    | some (.bool true) => opnd T x
    | some (.bool false) => opnd T y
    | _ => none
  | .build t ps => match ops1 T ps.toList with
    | some parts => match buildA P t parts with
      | some l => some (.one ⟨true, l⟩)
      | none => none
    | none => none
  | .indexAddr t x i => match indexAddrA P t (opc T x) (opc T i) with
    | some (b, off) => some (ptrV b off)
    | none => none
  | .fieldAddr t x f => match fieldA P t f, opc T x with
    | some fd, some (.ptr b off) => match sizeT P fd.type with
      | some (_ + 1) => some (ptrV b (off + fd.offset))
      | _ => none
    | _, _ => none
  | .alloc _ => none
  | .box _ _ => none
  | .load _ _ => none
  | .store _ _ _ => none
  | .buildSlice _ _ _ => none
  | .call _ => none
  | _ => evPure P T o
theorem evP_run {x : AV} (hT : TR ρ T a) (h : evP P T o = some x) : ∃ v, x.rel ρ v ∧ ∀ w, (execOp a.eval o).run P w = .ok (.value v) w := by
  unfold evP at h
  split at h
  · rename_i y ho; exact pure_move (.inl ho) hT h
  · rename_i y ho; exact pure_move (.inr ho) hT h
  · rename_i c y z ho
    split at h
    · rename_i hc; exact pure_pick ho hT hc h
    · rename_i hc; exact pure_pick ho hT hc h
    · cases h
  · rename_i t ps ho
    split at h
    · rename_i parts hp
      split at h
      · rename_i l hl; cases h; exact pure_build ho hT hp hl
      · cases h
    · cases h
  · rename_i t y i ho
    split at h
    · rename_i b off e; cases h; exact pure_indexAddr ho hT e
    · cases h
  · rename_i t y f ho
    split at h
    · rename_i fd b off hf hx
      split at h
      · rename_i n hn; cases h; exact pure_fieldAddr ho hT hf hx hn
      · cases h
    · cases h
  · cases h
  · cases h
  · cases h
  · cases h
  · cases h
  · cases h
  · exact evPure_run hT h
theorem evOp_res {nm : Nat} {x : Option AV} {δ : Hp} (hs : HR w0 ρ σ w) (hT : TR ρ T a) (h : evOp P T σ nm o = some (x, δ)) : Res P w0 ρ o a w x (δ ++ σ) := by
  have pur : (match evPure P T o with | some v => some (some v, []) | none => none) = some (x, δ) → Res P w0 ρ o a w x (δ ++ σ) := fun h => by
    split at h
    · rename_i v e; cases h; exact res_pure hs hT e
    · cases h
  unfold evOp at h
  split at h
  · rename_i y ho
    split at h
    · rename_i v e; cases h; exact res_of hs (pure_move (.inl ho) hT e)
    · cases h
  · rename_i y ho
    split at h
    · rename_i v e; cases h; exact res_of hs (pure_move (.inr ho) hT e)
    · cases h
  · rename_i c y z ho
    split at h
    · rename_i hc
      split at h
      · rename_i v e; cases h; exact res_of hs (pure_pick ho hT hc e)
      · cases h
    · rename_i hc
      split at h
      · rename_i v e; cases h; exact res_of hs (pure_pick ho hT hc e)
      · cases h
    · cases h
  · rename_i t ho
    split at h
    · rename_i z hz hl; cases h; exact res_alloc ho hs hz hl
    · cases h
  · rename_i t y ho
    split at h
    · rename_i z hz hl; cases h; exact res_box ho hs hT hz hl
    · cases h
  · rename_i t ps ho
    split at h
    · rename_i parts hp
      split at h
      · rename_i l hl; cases h; exact res_of hs (pure_build ho hT hp hl)
      · cases h
    · cases h
  · rename_i t len ps ho
    split at h
    · rename_i e hu hl
      split at h
      · rename_i hps
        have hps : ps = #[] := by
          cases ps
          simp only at hps
          subst hps
          rfl
        subst hps
        split at h
        · rename_i n hn; cases h; exact res_buildSlice0 ho hs hu hn hl
        · cases h
      · split at h
        · rename_i parts hp
          split at h
          · rename_i c hc; cases h; exact res_buildSlice ho hs hT hu hp hc hl
          · cases h
        · cases h
    · cases h
  · rename_i t y ho
    split at h
    · rename_i b off hx
      split at h
      · rename_i z hz; cases h; exact res_load ho hs hT hx hz
      · cases h
    · cases h
  · rename_i t y u ho
    split at h
    · rename_i b off z n hx hz hn
      split at h
      · rename_i ob hob
        split at h
        · rename_i hb
          simp only [Bool.and_eq_true] at hb
          have b1 := Nat.eq_of_beq_eq_true hb.1
          have b2 := Nat.le_of_ble_eq_true hb.2
          cases h
          exact res_store ho hs hT hx hz hob (by rw [hn, b1]) b2
        · cases h
      · cases h
    · cases h
  · rename_i t y i ho
    split at h
    · rename_i b off e; cases h; exact res_of hs (pure_indexAddr ho hT e)
    · cases h
  · rename_i t y f ho
    split at h
    · rename_i fd b off hf hx
      split at h
      · rename_i n hn; cases h; exact res_of hs (pure_fieldAddr ho hT hf hx hn)
      · cases h
    · cases h
  · rename_i t y f ho
    split at h
    · rename_i fd l hf hx
      split at h
      · rename_i z hz; cases h; exact res_field ho hs hT hf hx hz
      · cases h
    · cases h
  · rename_i t y i ho
    split at h
    · rename_i z hz; cases h; exact res_index ho hs hT hz
    · exact pur h
  · rename_i y i ho
    split at h
    · rename_i l hx
      split at h
      · rename_i z hz; cases h; exact res_extract ho hs hT hx hz
      · cases h
    · cases h
  · rename_i args ts ho
    split at h
    · rename_i y t r ha ht
      have ha : args = #[y] := by
        cases args
        simp only at ha
        subst ha
        rfl
      subst ha
      have ht : ts[0]? = some t := by
        cases ts
        simp only at ht
        subst ht
        rfl
      split at h
      · rename_i e hu
        split at h
        · rename_i b off l c hx; cases h; exact res_len ho hs hT ht hu hx
        · rename_i hx; cases h; exact res_len_nil ho hs hT ht hu hx
        · cases h
      · exact pur h
    · cases h
  · rename_i args ts ho
    split at h
    · rename_i s y t t' ha ht
      have ha : args = #[s, y] := by
        cases args
        simp only at ha
        subst ha
        rfl
      have ht : ts = #[t, t'] := by
        cases ts
        simp only at ht
        subst ht
        rfl
      subst ha; subst ht
      split at h
      · rename_i e hb hu hl
        have hb := Nat.eq_of_beq_eq_true hb
        subst hb
        split at h
        · rename_i hx0
          split at h
          · rename_i y n hy hn; cases h; exact res_append0 ho hs hT hu hn hx0 hy
          · cases h
        · split at h
          · rename_i m l hm; cases h; exact res_append ho hs hT hu hm hl
          · cases h
      · cases h
    · cases h
  · exact pur h
end
end Go.Ev
namespace Go.Ev
open Go Go.RowKit
theorem look_append {α : Type} : ∀ (d t : List (Nat × α)) (k : Nat), look (d ++ t) k = match look d k with | some x => some x | none => look t k
  | [], t, k => rfl
  | (j, x) :: d, t, k => by
    rw [List.cons_append, look_cons, look_cons]
    split
    · rfl
    · exact look_append d t k
structure SR (nt : Nat) (ρ : Ren) (T : Tm) (a : Act) : Prop where
  tr : TR ρ T a
  size : a.tmps.size = nt
  defers : a.defers = []
theorem SR.ext {nt : Nat} {ρ ρ' : Ren} {T : Tm} {a : Act} (h : SR nt ρ T a) (e : Ext ρ ρ') : SR nt ρ' T a := ⟨h.tr.ext e, h.size, h.defers⟩
theorem SR.put {nt : Nat} {ρ : Ren} {T : Tm} {a : Act} (h : SR nt ρ T a) {d : Nat} (hd : d < nt) {x : AV} {v : Value} (hx : x.rel ρ v) : SR nt ρ ((d, some x) :: T) (a.put (some d) v) := by
  refine ⟨fun t y hy => ?_, by simp [Act.put, h.size], h.defers⟩
  rw [look_cons] at hy
  have hs := h.size
  split at hy
  · rename_i e
    subst e
    cases hy
    have : (a.put (some d) v).tmps.getD d undef = v := by simp [Act.put, Array.getD_eq_getD_getElem?, hs, hd]
    rw [this]; exact hx
  · rename_i e
    have : (a.put (some d) v).tmps.getD t undef = a.tmps.getD t undef := by simp [Act.put, Array.getD_eq_getD_getElem?, Array.getElem?_setIfInBounds_ne e]
    rw [this]; exact h.tr t y hy
theorem SR.drop {nt : Nat} {ρ : Ren} {T : Tm} {a : Act} (h : SR nt ρ T a) (d : Nat) (v : Value) : SR nt ρ ((d, none) :: T) (a.put (some d) v) := by
  refine ⟨fun t y hy => ?_, by simp [Act.put, h.size], h.defers⟩
  rw [look_cons] at hy
  split at hy
  · cases hy
  · rename_i e
    have : (a.put (some d) v).tmps.getD t undef = a.tmps.getD t undef := by simp [Act.put, Array.getD_eq_getD_getElem?, Array.getElem?_setIfInBounds_ne e]
    rw [this]; exact h.tr t y hy
def wantA (ops : Array Oper) (T : Tm) (o : Oper) : Option Bool := match o.guard with
  | none => some true
  | some (j, want) => match ops[j]? with
    | some oj => match oj.dst with
      | some d => match opc T (.tmp d) with
        | some (.bool b) => some (b == want)
        | _ => none
      | none => none
    | none => none
theorem want_rel {ρ : Ren} {T : Tm} {a : Act} (hT : TR ρ T a) {ops : Array Oper} {o : Oper} {b : Bool} (h : wantA ops T o = some b) : Region.wanted o (yielded ops a.tmps) = b := by
  unfold wantA at h
  unfold Region.wanted
  split at h
  · rename_i hg; rw [hg]; cases h; rfl
  · rename_i j want hg
    rw [hg]
    split at h
    · rename_i oj hj
      split at h
      · rename_i d hd
        split at h
        · rename_i c hc
          cases h
          have hv : a.tmps.getD d undef = .bool c := opc_rel hT hc
          have hv' : a.tmps[d]? = some (.bool c) := by
            rw [Array.getD_eq_getD_getElem?] at hv
            cases e : a.tmps[d]? with
            | none => rw [e] at hv; cases hv
            | some u => rw [e] at hv; exact congrArg some hv
          have hy : yielded ops a.tmps j = some c := by simp [yielded, hj, hd, hv']
          simp only [hy]
          rfl
        · cases h
      · cases h
    · cases h
def callOf (o : Oper) : Option (FuncId × List Operand) := match o.op with
  | .call ⟨.value (.func f), args, _⟩ => some (f, args.toList)
  | _ => none
def argsA (T : Tm) : List Operand → Option (List A1)
  | [] => some []
  | x :: t => match op1 T x, argsA T t with
    | some v, some l => some (v :: l)
    | _, _ => none
theorem argsA_rel {ρ : Ren} {T : Tm} {a : Act} (h : TR ρ T a) : ∀ {l : List Operand} {vs : List A1}, argsA T l = some vs → R1 ρ vs (l.map a.eval)
  | [], vs, e => by cases e; rfl
  | x :: t, vs, e => by
    simp only [argsA] at e
    split at e
    · rename_i v l' h1 h2
      cases e
      exact ⟨_, _, rfl, op1_rel h h1, argsA_rel h h2⟩
    · cases e
def putA (nt : Nat) (dst : Option Tmp) (v : AV) : Option Tm := match dst with
  | none => some []
  | some d => match Nat.blt d nt with
    | true => some [(d, some v)]
    | false => none
theorem SR.putA {nt : Nat} {ρ : Ren} {T e : Tm} {a : Act} (h : SR nt ρ T a) {dst : Option Tmp} {x : AV} {v : Value} (he : putA nt dst x = some e) (hx : x.rel ρ v) : SR nt ρ (e ++ T) (a.put dst v) := by
  unfold Ev.putA at he
  split at he
  · cases he; exact h
  · split at he
    · rename_i d hd; cases he; exact h.put (Nat.le_of_ble_eq_true hd) hx
    · cases he
abbrev Caller := FuncId → List A1 → Hp → Nat → Option (AV × Hp)
def evStep (call : Caller) (P : Program) (nt : Nat) (ops : Array Oper) (T : Tm) (σ : Hp) (i nm : Nat) : Option (Tm × Hp) := match ops[i]? with
  | none => none
  | some o => match wantA ops T o with
    | none => none
    | some false => match o.dst with
      | some d => some ([(d, none)], [])
      | none => some ([], [])
    | some true => match callOf o with
      | some (f, args) => match argsA T args with
        | some vs => match call f vs σ nm with
          | some (v, δ) => match putA nt o.dst v with
            | some e => some (e, δ)
            | none => none
          | none => none
        | none => none
      | none => match evOp P T σ nm o with
        | some (some v, δ) => match putA nt o.dst v with
          | some e => some (e, δ)
          | none => none
        | some (none, δ) => match o.dst with
          | none => some ([], δ)
          | some _ => none
        | none => none
def CallOK (P : Program) (w0 : World) (call : Caller) : Prop := ∀ f vs σ nm v δ, call f vs σ nm = some (v, δ) → (∀ args w, (callFunc f args).run P w = .ok (.enter f args) w) ∧ ∀ ρ w us, HR w0 ρ σ w → R1 ρ vs us →
  Calls P f us.toArray w fun e w' => ∃ u ρ', e = .returned u ∧ Ext ρ ρ' ∧ v.rel ρ' u ∧ HR w0 ρ' (δ ++ σ) w'
section
variable {P : Program} {w0 : World} {call : Caller} {nt : Nat} {ops : Array Oper}
theorem evStep_wp (hC : CallOK P w0 call) {T e : Tm} {σ δ : Hp} {i nm : Nat} (h : evStep call P nt ops T σ i nm = some (e, δ)) {ρ : Ren} {a : Act} {w : World} (hS : SR nt ρ T a) (hs : HR w0 ρ σ w) {Q : Exit → Act → World → Prop} {K : Act → World → Prop}
    (hK : ∀ ρ' a' w', Ext ρ ρ' → SR nt ρ' (e ++ T) a' → HR w0 ρ' (δ ++ σ) w' → K a' w') : wpOp P ops Q i K a w := by
  unfold evStep at h
  split at h
  · cases h
  · rename_i o ho
    unfold wpOp
    rw [ho]
    simp only
    split at h
    · cases h
    · rename_i hw
      rw [want_rel hS.tr hw]
      simp only [Bool.false_eq_true, if_false]
      split at h
      · rename_i d hd
        cases h
        rw [hd]
        exact hK ρ _ _ (Ext.refl _) (hS.drop d undef) hs
      · rename_i hd
        cases h
        rw [hd]
        exact hK ρ _ _ (Ext.refl _) hS hs
    · rename_i hw
      rw [want_rel hS.tr hw]
      simp only [if_true]
      refine .inl ?_
      unfold Oper.wp
      split at h
      · rename_i f args hco
        split at h
        · rename_i vs hvs
          split at h
          · rename_i v δ' hcall
            split at h
            · rename_i e' hput
              cases h
              obtain ⟨hent, hcl⟩ := hC f vs σ nm v δ hcall
              unfold callOf at hco
              split at hco
              · rename_i f' args' ts hop
                cases hco
                have hrun : (execOp a.eval o).run P w = .ok (.enter f (args'.toList.map a.eval).toArray) w := by
                  simp only [execOp, hop, resolve, Deferred.ofValue, Act.eval, invoke, Sem.run_bind, Sem.run_pure, Result.andThen_ok, hent]
                  simp
                  exact Array.ext' (by simp)
                rw [hrun]
                refine (hcl ρ w _ hs (argsA_rel hS.tr hvs)).mono ?_
                rintro en w' ⟨u, ρ', rfl, k1, k2, k3⟩
                exact hK ρ' _ _ k1 ((hS.ext k1).putA hput k2) k3
              · cases hco
            · cases h
          · cases h
        · cases h
      · split at h
        · rename_i v δ' hev
          split at h
          · rename_i e' hput
            cases h
            obtain ⟨n, w', ρ', k1, k2, k3, u, rfl, k4⟩ := evOp_res hs hS.tr hev
            rw [k1]
            exact hK ρ' _ _ k2 ((hS.ext k2).putA hput k4) k3
          · cases h
        · rename_i δ' hev
          split at h
          · rename_i hd
            cases h
            obtain ⟨n, w', ρ', k1, k2, k3, k4⟩ := evOp_res hs hS.tr hev
            have k4 : n = .skip := k4
            subst k4
            rw [k1]
            show K (a.put o.dst undef) w'
            rw [hd]
            exact hK ρ' _ _ k2 (hS.ext k2) k3
          · cases h
        · cases h
def evSeq (call : Caller) (P : Program) (nt : Nat) (ops : Array Oper) (T : Tm) (σ : Hp) (nm : Nat) : List Nat → Tm → Hp → Option (Tm × Hp)
  | [], e, δ => some (e, δ)
  | i :: rest, e, δ => match evStep call P nt ops (e ++ T) (δ ++ σ) i (nm + i) with
    | some (e1, δ1) => evSeq call P nt ops T σ nm rest (e1 ++ e) (δ1 ++ δ)
    | none => none
theorem evSeq_wp (hC : CallOK P w0 call) {T : Tm} {σ : Hp} {nm : Nat} {ρ0 : Ren} {Q : Exit → Act → World → Prop} {e' : Tm} {δ' : Hp} (hQ : ∀ ρ' a' w', Ext ρ0 ρ' → SR nt ρ' (e' ++ T) a' → HR w0 ρ' (δ' ++ σ) w' → Q .normal a' w') :
    ∀ (l : List Nat) (e : Tm) (δ : Hp), evSeq call P nt ops T σ nm l e δ = some (e', δ') → ∀ (ρ : Ren) (a : Act) (w : World), Ext ρ0 ρ → SR nt ρ (e ++ T) a → HR w0 ρ (δ ++ σ) w → wpOps P ops Q l a w
  | [], e, δ, h, ρ, a, w, h0, hS, hs => by
    cases h
    exact hQ ρ a w h0 hS hs
  | i :: rest, e, δ, h, ρ, a, w, h0, hS, hs => by
    simp only [evSeq] at h
    split at h
    · rename_i e1 δ1 h1
      rw [wpOps_cons]
      refine evStep_wp hC h1 hS hs fun ρ' a' w' k1 k2 k3 => ?_
      exact evSeq_wp hC hQ rest _ _ h ρ' a' w' (h0.trans k1) (by rw [List.append_assoc]; exact k2) (by rw [List.append_assoc]; exact k3)
    · cases h
def maskArr (n m : Nat) : Array Bool := ((List.range n).map fun i => Nat.testBit m i).toArray
theorem maskArr_zero (n : Nat) : maskArr n 0 = Array.replicate n false := by
  unfold maskArr
  apply Array.ext'
  simp only [Nat.zero_testBit, Array.toList_replicate]
  rw [List.map_const', List.length_range]
theorem maskArr_set (n m i : Nat) : maskArr n (m ||| 2 ^ i) = (maskArr n m).setIfInBounds i true := by
  unfold maskArr
  apply Array.ext
  · simp
  · intro j h1 h2
    have hj : j < n := by simpa using h1
    simp only [List.getElem_toArray, List.getElem_map, List.getElem_range, Nat.testBit_or, Nat.testBit_two_pow, Array.getElem_setIfInBounds]
    by_cases e : i = j
    · simp [e]
    · simp [e]
def optB : Option AV → Option AV → Bool
  | some x, some y => x.eqb y
  | none, none => true
  | _, _ => false
theorem optB_eq {x y : Option AV} (h : optB x y = true) : x = y := by
  cases x <;> cases y <;> simp only [optB] at h
  · rfl
  · cases h
  · cases h
  · rw [AV.eqb_eq h]
def optN : Option Nat → Option Nat → Bool
  | some x, some y => Nat.beq x y
  | none, none => true
  | _, _ => false
def aoB (x y : AO) : Bool := Nat.beq x.t y.t && (cellsB x.c y.c && optN x.s y.s)
theorem aoB_eq {x y : AO} (h : aoB x y = true) : x = y := by
  obtain ⟨t, c, s⟩ := x
  obtain ⟨t', c', s'⟩ := y
  simp only [aoB, Bool.and_eq_true] at h
  have h1 : t = t' := Nat.eq_of_beq_eq_true h.1
  have h2 : s = s' := by
    have h3 := h.2.2
    cases s <;> cases s' <;> simp only [optN] at h3
    · rfl
    · cases h3
    · cases h3
    · rw [Nat.eq_of_beq_eq_true h3]
  rw [h1, cellsB_eq h.2.1, h2]
def sameAt {α : Type} (eq : α → α → Bool) (d1 d2 : List (Nat × α)) : List (Nat × α) → Bool
  | [] => true
  | (k, _) :: t => (match look d1 k, look d2 k with
    | some x, some y => eq x y
    | none, none => true
    | _, _ => false) && sameAt eq d1 d2 t
theorem sameAt_look {α : Type} {eq : α → α → Bool} (he : ∀ x y, eq x y = true → x = y) {d1 d2 : List (Nat × α)} : ∀ {l : List (Nat × α)}, sameAt eq d1 d2 l = true → ∀ k, (look l k).isSome = true → look d1 k = look d2 k
  | [], _, k, h => by cases h
  | (j, x) :: t, h, k, hk => by
    simp only [sameAt, Bool.and_eq_true] at h
    rw [look_cons] at hk
    split at hk
    · rename_i e
      subst e
      have h1 := h.1
      split at h1
      · rename_i u v e1 e2; rw [e1, e2, he u v h1]
      · rename_i e1 e2; rw [e1, e2]
      · cases h1
    · exact sameAt_look he h.2 k hk
def sameL {α : Type} (eq : α → α → Bool) (d1 d2 : List (Nat × α)) : Bool := sameAt eq d1 d2 d1 && sameAt eq d1 d2 d2
theorem sameL_look {α : Type} {eq : α → α → Bool} (he : ∀ x y, eq x y = true → x = y) {d1 d2 : List (Nat × α)} (h : sameL eq d1 d2 = true) (k : Nat) : look d1 k = look d2 k := by
  simp only [sameL, Bool.and_eq_true] at h
  cases e1 : look d1 k with
  | some x => rw [← e1]; exact sameAt_look he h.1 k (by rw [e1]; rfl)
  | none =>
    cases e2 : look d2 k with
    | some y => rw [← e1, ← e2]; exact sameAt_look he h.2 k (by rw [e2]; rfl)
    | none => rfl
theorem SR.same {ρ : Ren} {T T' : Tm} {a : Act} (h : SR nt ρ T a) (e : ∀ k, look T k = look T' k) : SR nt ρ T' a := ⟨fun t x hx => h.tr t x ((e t).trans hx), h.size, h.defers⟩
theorem HR.same {ρ : Ren} {σ σ' : Hp} {w : World} (h : HR w0 ρ σ w) (e : ∀ k, look σ k = look σ' k) : HR w0 ρ σ' w := ⟨h.below, fun b k hb => by rw [← e b]; exact h.dom b k hb, fun b o ho => h.obj b o ((e b).trans ho), h.inj⟩
theorem look_same {α : Type} {d d' t : List (Nat × α)} (e : ∀ k, look d k = look d' k) (k : Nat) : look (d ++ t) k = look (d' ++ t) k := by rw [look_append, look_append, e k]
abbrev Sts := List (Nat × Tm × Hp)
def insL : Sts → Nat → Tm → Hp → Option Sts
  | [], m, e, δ => some [(m, e, δ)]
  | (m', e', δ') :: t, m, e, δ => match Nat.beq m m' with
    | true => match sameL optB e' e && sameL aoB δ' δ with
      | true => some ((m', e', δ') :: t)
      | false => none
    | false => match insL t m e δ with
      | some t' => some ((m', e', δ') :: t')
      | none => none
def Cov (L : Sts) (m : Nat) (e : Tm) (δ : Hp) : Prop := ∃ e' δ', (m, e', δ') ∈ L ∧ (∀ k, look e k = look e' k) ∧ ∀ k, look δ k = look δ' k
theorem Cov.sub {L L' : Sts} (h : ∀ x ∈ L, x ∈ L') {m : Nat} {e : Tm} {δ : Hp} (k : Cov L m e δ) : Cov L' m e δ := by
  obtain ⟨e', δ', k1, k2⟩ := k
  exact ⟨e', δ', h _ k1, k2⟩
theorem insL_ok : ∀ {L L' : Sts} {m : Nat} {e : Tm} {δ : Hp}, insL L m e δ = some L' → Cov L' m e δ ∧ ∀ x ∈ L, x ∈ L'
  | [], L', m, e, δ, h => by
    cases h
    exact ⟨⟨e, δ, List.mem_singleton.2 rfl, fun _ => rfl, fun _ => rfl⟩, fun x hx => by cases hx⟩
  | (m', e', δ') :: t, L', m, e, δ, h => by
    simp only [insL] at h
    split at h
    · rename_i hm
      have hm := Nat.eq_of_beq_eq_true hm
      subst hm
      split at h
      · rename_i hsm
        simp only [Bool.and_eq_true] at hsm
        cases h
        exact ⟨⟨e', δ', List.mem_cons_self, fun k => (sameL_look (fun x y => optB_eq) hsm.1 k).symm, fun k => (sameL_look (fun x y => aoB_eq) hsm.2 k).symm⟩, fun x hx => hx⟩
      · cases h
    · split at h
      · rename_i t' ht
        cases h
        obtain ⟨k1, k2⟩ := insL_ok ht
        refine ⟨k1.sub fun x hx => List.mem_cons_of_mem _ hx, fun x hx => ?_⟩
        rcases List.mem_cons.1 hx with rfl | hx
        · exact List.mem_cons_self
        · exact List.mem_cons_of_mem _ (k2 x hx)
      · cases h
def evFrom (call : Caller) (P : Program) (nt : Nat) (ops : Array Oper) (T : Tm) (σ : Hp) (nm : Nat) (m : Nat) (e : Tm) (δ : Hp) : List Nat → Sts → Option Sts
  | [], L => some L
  | i :: rest, L => match evStep call P nt ops (e ++ T) (δ ++ σ) i (nm + i) with
    | some (e1, δ1) => match insL L (m ||| 2 ^ i) (e1 ++ e) (δ1 ++ δ) with
      | some L' => evFrom call P nt ops T σ nm m e δ rest L'
      | none => none
    | none => none
theorem evFrom_ok {T : Tm} {σ : Hp} {nm m : Nat} {e : Tm} {δ : Hp} : ∀ {l : List Nat} {L L' : Sts}, evFrom call P nt ops T σ nm m e δ l L = some L' → (∀ i ∈ l, ∃ e1 δ1, evStep call P nt ops (e ++ T) (δ ++ σ) i (nm + i) = some (e1, δ1) ∧ Cov L' (m ||| 2 ^ i) (e1 ++ e) (δ1 ++ δ)) ∧ ∀ x ∈ L, x ∈ L'
  | [], L, L', h => by
    cases h
    exact ⟨fun i hi => by (cases hi), fun x hx => hx⟩
  | i :: rest, L, L', h => by
    simp only [evFrom] at h
    split at h
    · rename_i e1 δ1 h1
      split at h
      · rename_i L1 h2
        obtain ⟨k1, k2⟩ := insL_ok h2
        obtain ⟨k3, k4⟩ := evFrom_ok h
        refine ⟨fun j hj => ?_, fun x hx => k4 x (k2 x hx)⟩
        rcases List.mem_cons.1 hj with rfl | hj
        · exact ⟨e1, δ1, h1, k1.sub k4⟩
        · exact k3 j hj
      · cases h
    · cases h
def freeS (ops : Array Oper) (i : Nat) : Bool := Region.noSelect ops && Region.free .any ops (Array.replicate ops.size false) i
theorem freeS_free {i : Nat} (h : freeS ops i = true) (listed : Array Bool) : Region.noSelect ops = true ∧ Region.free .any ops listed i = true := by
  unfold freeS at h
  rw [Bool.and_eq_true] at h
  refine ⟨h.1, ?_⟩
  have h2 := h.2
  unfold Region.free at h2 ⊢
  split at h2
  · cases h2
  · rename_i oi hi
    rw [List.all_eq_true] at h2 ⊢
    intro j hj
    have h3 := h2 j hj
    have hlt : j < ops.size := List.mem_range.1 hj
    have e : (Array.replicate ops.size false).getD j true = false := by simp [Array.getD_eq_getD_getElem?, hlt]
    rw [e] at h3
    simp only [Bool.or_false, Bool.or_eq_true] at h3 ⊢
    rcases h3 with h3 | h3
    · exact .inl (.inl h3)
    · exact .inr h3
def pureStep (P : Program) (nt : Nat) (ops : Array Oper) (T : Tm) (i : Nat) : Option Tm := match ops[i]? with
  | none => none
  | some o => match freeS ops i with
    | false => none
    | true => match wantA ops T o with
      | none => none
      | some false => match o.dst with
        | some d => some [(d, none)]
        | none => some []
      | some true => match evP P T o with
        | some v => putA nt o.dst v
        | none => none
theorem pureStep_ok {T e : Tm} {i : Nat} (h : pureStep P nt ops T i = some e) {ρ : Ren} {a : Act} (hS : SR nt ρ T a) : ∃ o v, ops[i]? = some o ∧ freeS ops i = true ∧ Yields P ops o v a ∧ SR nt ρ (e ++ T) (a.put o.dst v) := by
  unfold pureStep at h
  split at h
  · cases h
  · rename_i o ho
    split at h
    · cases h
    · rename_i hf
      split at h
      · cases h
      · rename_i hw
        have hw := want_rel hS.tr hw
        split at h
        · rename_i d hd
          cases h
          exact ⟨o, undef, ho, hf, .inr ⟨hw, rfl⟩, by rw [hd]; exact hS.drop d undef⟩
        · rename_i hd
          cases h
          exact ⟨o, undef, ho, hf, .inr ⟨hw, rfl⟩, by rw [hd]; exact hS⟩
      · rename_i hw
        have hw := want_rel hS.tr hw
        split at h
        · rename_i v hv
          obtain ⟨u, k1, k2⟩ := evP_run hS.tr hv
          exact ⟨o, u, ho, hf, .inl ⟨hw, k2⟩, hS.putA h k1⟩
        · cases h
def firstPure (P : Program) (nt : Nat) (ops : Array Oper) (T : Tm) : List Nat → Option (Nat × Tm)
  | [] => none
  | i :: r => match pureStep P nt ops T i with
    | some e => some (i, e)
    | none => firstPure P nt ops T r
theorem firstPure_ok {T : Tm} : ∀ {l : List Nat} {i : Nat} {e : Tm}, firstPure P nt ops T l = some (i, e) → i ∈ l ∧ pureStep P nt ops T i = some e
  | [], i, e, h => by cases h
  | j :: r, i, e, h => by
    simp only [firstPure] at h
    split at h
    · rename_i e' he
      cases h
      exact ⟨List.mem_cons_self, he⟩
    · obtain ⟨k1, k2⟩ := firstPure_ok h
      exact ⟨List.mem_cons_of_mem _ k1, k2⟩
def readyOf (ops : Array Oper) (m : Nat) : Nat → List Oper → List Nat
  | _, [] => []
  | i, o :: t => match Nat.testBit m i with
    | true => readyOf ops m (i + 1) t
    | false => match o.after.toList.all fun e => !Region.binds .any e || (Nat.blt e.on ops.size && Nat.testBit m e.on) with
      | true => i :: readyOf ops m (i + 1) t
      | false => readyOf ops m (i + 1) t
theorem mask_getD (n m i : Nat) (d : Bool) : (maskArr n m).getD i d = if i < n then Nat.testBit m i else d := by
  unfold maskArr
  rw [Array.getD_eq_getD_getElem?, List.getElem?_toArray, List.getElem?_map]
  split
  · rename_i h; rw [List.getElem?_range h]; rfl
  · rename_i h; rw [List.getElem?_eq_none (by simpa using h)]; rfl
theorem readyOf_mem {m : Nat} : ∀ (l : List Oper) (i : Nat), (∀ j, l[j]? = ops[i + j]?) → ∀ k, k ∈ readyOf ops m i l ↔ i ≤ k ∧ k ∈ Region.ready .any ops (maskArr ops.size m)
  | [], i, hl, k => by
    constructor
    · intro h; cases h
    · rintro ⟨h1, h2⟩
      obtain ⟨-, o, ho, -⟩ := mem_ready.1 h2
      have := hl (k - i)
      rw [show i + (k - i) = k by omega, ho] at this
      cases this
  | o :: t, i, hl, k => by
    have ih := readyOf_mem (m := m) t (i + 1) (fun j => by
      have := hl (j + 1)
      rw [List.getElem?_cons_succ] at this
      rw [this]
      congr 1
      omega) k
    have ho : ops[i]? = some o := (hl 0).symm
    have hlt : i < ops.size := (Array.getElem?_eq_some_iff.1 ho).1
    have hi : i ∈ Region.ready .any ops (maskArr ops.size m) ↔ Nat.testBit m i = false ∧ (o.after.toList.all fun e => !Region.binds .any e || (Nat.blt e.on ops.size && Nat.testBit m e.on)) = true := by
      rw [mem_ready, mask_getD, if_pos hlt]
      refine and_congr_right fun h0 => ?_
      rw [ho, List.all_eq_true]
      constructor
      · rintro ⟨o', e1, h⟩ e he
        cases e1
        cases hb : Region.binds .any e
        · rfl
        · have h1 := h e (Array.mem_toList_iff.1 he) hb
          rw [mask_getD] at h1
          split at h1
          · rename_i h2
            rw [h1]
            have : Nat.blt e.on ops.size = true := Nat.ble_eq_true_of_le h2
            rw [this]
            rfl
          · cases h1
      · intro h
        refine ⟨o, rfl, fun e he hb => ?_⟩
        have h1 := h e (Array.mem_toList_iff.2 he)
        rw [hb] at h1
        simp only [Bool.not_true, Bool.false_or, Bool.and_eq_true] at h1
        have hlt2 : e.on < ops.size := Nat.le_of_ble_eq_true h1.1
        rw [mask_getD, if_pos hlt2]
        exact h1.2
    have hne : ∀ k, i + 1 ≤ k → i ≠ k := fun k h e => by omega
    simp only [readyOf]
    split
    · rename_i hb
      rw [ih]
      constructor
      · rintro ⟨h1, h2⟩; exact ⟨by omega, h2⟩
      · rintro ⟨h1, h2⟩
        refine ⟨?_, h2⟩
        rcases Nat.lt_or_ge i k with h | h
        · exact h
        · obtain rfl : k = i := by omega
          rw [(hi.1 h2).1] at hb
          cases hb
    · rename_i hb
      split
      · rename_i hall
        rw [List.mem_cons, ih]
        constructor
        · rintro (rfl | ⟨h1, h2⟩)
          · exact ⟨Nat.le_refl _, hi.2 ⟨hb, hall⟩⟩
          · exact ⟨by omega, h2⟩
        · rintro ⟨h1, h2⟩
          rcases Nat.lt_or_ge i k with h | h
          · exact .inr ⟨h, h2⟩
          · exact .inl (by omega)
      · rename_i hall
        rw [ih]
        constructor
        · rintro ⟨h1, h2⟩; exact ⟨by omega, h2⟩
        · rintro ⟨h1, h2⟩
          refine ⟨?_, h2⟩
          rcases Nat.lt_or_ge i k with h | h
          · exact h
          · obtain rfl : k = i := by omega
            rw [(hi.1 h2).2] at hall
            cases hall
theorem ready_mem {m : Nat} (k : Nat) : k ∈ readyOf ops m 0 ops.toList ↔ k ∈ Region.ready .any ops (maskArr ops.size m) := by
  rw [readyOf_mem ops.toList 0 (fun j => by rw [Nat.zero_add, Array.getElem?_toList])]
  simp
def evUp (call : Caller) (P : Program) (nt : Nat) (ops : Array Oper) (T : Tm) (σ : Hp) (nm : Nat) : Sts → Sts → Option Sts
  | [], L => some L
  | (m, e, δ) :: t, L => match readyOf ops m 0 ops.toList with
    | [] => none
    | i :: r => match firstPure P nt ops (e ++ T) (i :: r) with
      | some (j, e1) => match insL L (m ||| 2 ^ j) (e1 ++ e) δ with
        | some L' => evUp call P nt ops T σ nm t L'
        | none => none
      | none => match evFrom call P nt ops T σ nm m e δ (i :: r) L with
        | some L' => evUp call P nt ops T σ nm t L'
        | none => none
def Up (call : Caller) (P : Program) (nt : Nat) (ops : Array Oper) (T : Tm) (σ : Hp) (nm : Nat) (L' : Sts) (m : Nat) (e : Tm) (δ : Hp) : Prop :=
  (∃ j e1, j ∈ Region.ready .any ops (maskArr ops.size m) ∧ pureStep P nt ops (e ++ T) j = some e1 ∧ Cov L' (m ||| 2 ^ j) (e1 ++ e) δ) ∨
  (Region.ready .any ops (maskArr ops.size m) ≠ [] ∧ ∀ i ∈ Region.ready .any ops (maskArr ops.size m), ∃ e1 δ1, evStep call P nt ops (e ++ T) (δ ++ σ) i (nm + i) = some (e1, δ1) ∧ Cov L' (m ||| 2 ^ i) (e1 ++ e) (δ1 ++ δ))
theorem Up.sub {T : Tm} {σ : Hp} {nm : Nat} {L L' : Sts} (h : ∀ x ∈ L, x ∈ L') {m : Nat} {e : Tm} {δ : Hp} (k : Up call P nt ops T σ nm L m e δ) : Up call P nt ops T σ nm L' m e δ := by
  rcases k with ⟨j, e1, h1, h2, h3⟩ | ⟨h1, h2⟩
  · exact .inl ⟨j, e1, h1, h2, h3.sub h⟩
  · refine .inr ⟨h1, fun i hi => ?_⟩
    obtain ⟨e1, δ1, q1, q2⟩ := h2 i hi
    exact ⟨e1, δ1, q1, q2.sub h⟩
theorem evUp_ok {T : Tm} {σ : Hp} {nm : Nat} : ∀ {S L L' : Sts}, evUp call P nt ops T σ nm S L = some L' → (∀ m e δ, (m, e, δ) ∈ S → Up call P nt ops T σ nm L' m e δ) ∧ ∀ x ∈ L, x ∈ L'
  | [], L, L', h => by
    cases h
    exact ⟨fun m e δ hi => by (cases hi), fun x hx => hx⟩
  | (m, e, δ) :: t, L, L', h => by
    simp only [evUp] at h
    split at h
    · cases h
    · rename_i i r hr
      have hmem : ∀ k, k ∈ i :: r ↔ k ∈ Region.ready .any ops (maskArr ops.size m) := fun k => by rw [← hr]; exact ready_mem k
      split at h
      · rename_i j e1 hp
        obtain ⟨p1, p2⟩ := firstPure_ok hp
        split at h
        · rename_i L1 h1
          obtain ⟨k1, k2⟩ := insL_ok h1
          obtain ⟨k3, k4⟩ := evUp_ok h
          refine ⟨fun m' e' δ' hm => ?_, fun x hx => k4 x (k2 x hx)⟩
          rcases List.mem_cons.1 hm with hm | hm
          · cases hm
            exact .inl ⟨j, e1, (hmem j).1 p1, p2, k1.sub k4⟩
          · exact k3 m' e' δ' hm
        · cases h
      · split at h
        · rename_i L1 h1
          obtain ⟨k1, k2⟩ := evFrom_ok h1
          obtain ⟨k3, k4⟩ := evUp_ok h
          refine ⟨fun m' e' δ' hm => ?_, fun x hx => k4 x (k2 x hx)⟩
          rcases List.mem_cons.1 hm with hm | hm
          · cases hm
            refine .inr ⟨fun e => ?_, fun j hj => ?_⟩
            · have := (hmem i).1 List.mem_cons_self
              rw [e] at this
              cases this
            · obtain ⟨e1, δ1, q1, q2⟩ := k1 j ((hmem j).2 hj)
              exact ⟨e1, δ1, q1, q2.sub k4⟩
          · exact k3 m' e' δ' hm
        · cases h
def evIter (call : Caller) (P : Program) (nt : Nat) (ops : Array Oper) (T : Tm) (σ : Hp) (nm : Nat) : Nat → Sts → Option (Tm × Hp)
  | 0, [(m, e, δ)] => match readyOf ops m 0 ops.toList with
    | [] => some (e, δ)
    | _ :: _ => none
  | 0, _ => none
  | k + 1, S => match evUp call P nt ops T σ nm S [] with
    | some S' => evIter call P nt ops T σ nm k S'
    | none => none
theorem evIter_wp (hC : CallOK P w0 call) {T : Tm} {σ : Hp} {nm : Nat} {ρ0 : Ren} {Q : Exit → Act → World → Prop} {e' : Tm} {δ' : Hp} (hP : ∀ c a w, ¬ Q (.panic c) a w) (hQ : ∀ ρ' a' w', Ext ρ0 ρ' → SR nt ρ' (e' ++ T) a' → HR w0 ρ' (δ' ++ σ) w' → Q .normal a' w') :
    ∀ (k : Nat) (S : Sts), evIter call P nt ops T σ nm k S = some (e', δ') → ∀ (m : Nat) (e : Tm) (δ : Hp), (m, e, δ) ∈ S → ∀ (ρ : Ren) (a : Act) (w : World), Ext ρ0 ρ → SR nt ρ (e ++ T) a → HR w0 ρ (δ ++ σ) w → wpAny P .any ops Q k (maskArr ops.size m) a w
  | 0, S, h, m, e, δ, hm, ρ, a, w, h0, hS, hs => by
    unfold evIter at h
    split at h
    · rename_i m' e1 δ1
      split at h
      · rename_i hr
        cases h
        cases List.mem_singleton.1 hm
        refine ⟨?_, hQ ρ a w h0 hS hs⟩
        cases hr2 : Region.ready .any ops (maskArr ops.size m) with
        | nil => rfl
        | cons x xs =>
          have : x ∈ readyOf ops m 0 ops.toList := (ready_mem x).2 (by rw [hr2]; exact List.mem_cons_self)
          rw [hr] at this
          cases this
      · cases h
    · cases h
    · rename_i hk; cases hk
  | k + 1, S, h, m, e, δ, hm, ρ, a, w, h0, hS, hs => by
    simp only [evIter] at h
    split at h
    · rename_i S' h1
      obtain ⟨k1, -⟩ := evUp_ok h1
      rcases k1 m e δ hm with ⟨j, e1, j1, j2, e2, δ2, q2, q3, q4⟩ | ⟨k2, k3⟩
      · obtain ⟨o, v, y1, y2, y3, y4⟩ := pureStep_ok j2 hS
        obtain ⟨f1, f2⟩ := freeS_free y2 (maskArr ops.size m)
        refine wpAny_take y1 f1 f2 (by simpa using j1) (fun c a w hc => absurd hc (hP c _ _)) y3 ?_
        rw [← maskArr_set]
        refine evIter_wp hC hP hQ k S' h _ e2 δ2 q2 ρ _ w h0 (SR.same y4 fun x => ?_) (HR.same hs fun x => ?_)
        · rw [← List.append_assoc]; exact look_same q3 x
        · exact look_same q4 x
      · refine ⟨fun hr => absurd hr k2, fun i hi => ?_⟩
        obtain ⟨e1, δ1, q1, e2, δ2, q2, q3, q4⟩ := k3 i hi
        refine evStep_wp hC q1 hS hs fun ρ' a' w' j1 j2 j3 => ?_
        rw [← maskArr_set]
        refine evIter_wp hC hP hQ k S' h _ e2 δ2 q2 ρ' a' w' (h0.trans j1) (SR.same j2 fun x => ?_) (HR.same j3 fun x => ?_)
        · rw [← List.append_assoc]; exact look_same q3 x
        · rw [← List.append_assoc]; exact look_same q4 x
    · cases h
end
end Go.Ev
namespace Go.Ev
open Go Go.RowKit
inductive Ex where
  | normal
  | exit (id : Nat)
  | ret
def Ex.to : Ex → Exit
  | .normal => .normal
  | .exit id => .exit id
  | .ret => .ret
structure Fin where
  ex : Ex
  T : Tm
  d : Hp
  c : Nat
def evCode (call : Caller) (P : Program) (nt : Nat) (σ : Hp) (p : Nat) : Nat → Code → Tm → Hp → Nat → Option Fin
  | 0, _, _, _, _ => none
  | k + 1, .skip, T, d, c => some ⟨.normal, T, d, c⟩
  | k + 1, .label _, T, d, c => some ⟨.normal, T, d, c⟩
  | k + 1, .region _ ops false, T, d, c => match evSeq call P nt ops T (d ++ σ) ((p * 4096 + c) * 64) (List.range ops.size) [] [] with
    | some (e, δ) => some ⟨.normal, e ++ T, δ ++ d, c + 1⟩
    | none => none
  | k + 1, .region _ ops true, T, d, c => match P.follows .mixedOrders, evIter call P nt ops T (d ++ σ) ((p * 4096 + c) * 64) ops.size [(0, [], [])] with
    | true, some (e, δ) => some ⟨.normal, e ++ T, δ ++ d, c + 1⟩
    | _, _ => none
  | k + 1, .seq x y, T, d, c => match evCode call P nt σ p k x T d c with
    | some ⟨.normal, T', d', c'⟩ => evCode call P nt σ p k y T' d' c'
    | r => r
  | k + 1, .cond b x y, T, d, c => match opc T b with
    | some (.bool true) => evCode call P nt σ p k x T d c
    | some (.bool false) => evCode call P nt σ p k y T d c
    | _ => none
  | k + 1, .block id b, T, d, c => match evCode call P nt σ p k b T d c with
    | some ⟨.exit id', T', d', c'⟩ => match Nat.beq id' id with
      | true => some ⟨.normal, T', d', c'⟩
      | false => some ⟨.exit id', T', d', c'⟩
    | r => r
  | k + 1, .loop b, T, d, c => match evCode call P nt σ p k b T d c with
    | some ⟨.normal, T', d', c'⟩ => evCode call P nt σ p k (.loop b) T' d' c'
    | r => r
  | k + 1, .exit id, T, d, c => some ⟨.exit id, T, d, c⟩
  | k + 1, .ret, T, d, c => some ⟨.ret, T, d, c⟩
  | k + 1, _, _, _, _ => none
section
variable {P : Program} {w0 : World} {call : Caller} {nt : Nat} {σ : Hp} {p : Nat}
def Goal (P : Program) (w0 : World) (nt : Nat) (σ : Hp) (r : Fin) (ρ : Ren) (Q : Exit → Act → World → Prop) : Prop := ∀ ρ' a' w', Ext ρ ρ' → SR nt ρ' r.T a' → HR w0 ρ' (r.d ++ σ) w' → Q r.ex.to a' w'
theorem Goal.ext {r : Fin} {ρ ρ' : Ren} {Q : Exit → Act → World → Prop} (h : Goal P w0 nt σ r ρ Q) (e : Ext ρ ρ') : Goal P w0 nt σ r ρ' Q := fun ρ2 a w h1 h2 h3 => h ρ2 a w (e.trans h1) h2 h3
theorem evCode_wp (hC : CallOK P w0 call) : ∀ (k : Nat), (∀ (code : Code) (T : Tm) (d : Hp) (c : Nat) (r : Fin), evCode call P nt σ p k code T d c = some r → ∀ (ρ : Ren) (a : Act) (w : World) (Q : Exit → Act → World → Prop), SR nt ρ T a → HR w0 ρ (d ++ σ) w → Goal P w0 nt σ r ρ Q → code.wp P Q a w) ∧
    (∀ (b : Code) (T : Tm) (d : Hp) (c : Nat) (r : Fin), evCode call P nt σ p k (.loop b) T d c = some r → ∀ (ρ : Ren) (a : Act) (w : World) (Q : Exit → Act → World → Prop), SR nt ρ T a → HR w0 ρ (d ++ σ) w → Goal P w0 nt σ r ρ Q → Code.rounds P b Q k a w)
  | 0 => ⟨fun code T d c r h => by (simp only [evCode] at h; cases h), fun b T d c r h => by (simp only [evCode] at h; cases h)⟩
  | k + 1 => by
    obtain ⟨ih1, ih2⟩ := evCode_wp hC k
    have hloop : ∀ (b : Code) (T : Tm) (d : Hp) (c : Nat) (r : Fin), evCode call P nt σ p (k + 1) (.loop b) T d c = some r → ∀ (ρ : Ren) (a : Act) (w : World) (Q : Exit → Act → World → Prop), SR nt ρ T a → HR w0 ρ (d ++ σ) w → Goal P w0 nt σ r ρ Q → Code.rounds P b Q (k + 1) a w := by
      intro b T d c r h ρ a w Q hS hs hQ
      rw [rounds_succ]
      simp only [evCode] at h
      split at h
      · rename_i T' d' c' hb
        refine ih1 b T d c _ hb ρ a w _ hS hs fun ρ1 a1 w1 h1 h2 h3 => ?_
        exact ih2 b T' d' c' r h ρ1 a1 w1 Q h2 h3 (hQ.ext h1)
      · rename_i hne
        refine ih1 b T d c r h ρ a w _ hS hs fun ρ1 a1 w1 h1 h2 h3 => ?_
        have hq := hQ ρ1 a1 w1 h1 h2 h3
        obtain ⟨ex, T', d', c'⟩ := r
        cases ex
        · exact absurd h (hne T' d' c')
        · exact hq
        · exact hq
    refine ⟨fun code T d c r h ρ a w Q hS hs hQ => ?_, hloop⟩
    cases code with
    | skip =>
      simp only [evCode] at h
      cases h
      exact wp_skip (hQ ρ a w (Ext.refl _) hS hs)
    | label l =>
      simp only [evCode] at h
      cases h
      exact wp_label (hQ ρ a w (Ext.refl _) hS hs)
    | exit id =>
      simp only [evCode] at h
      cases h
      exact wp_exit (hQ ρ a w (Ext.refl _) hS hs)
    | ret =>
      simp only [evCode] at h
      cases h
      exact wp_ret (hQ ρ a w (Ext.refl _) hS hs)
    | region id ops draw =>
      cases draw with
      | false =>
        simp only [evCode] at h
        split at h
        · rename_i e δ h1
          cases h
          refine wp_region (evSeq_wp hC (fun ρ' a' w' k1 k2 k3 => ?_) _ _ _ h1 ρ a w (Ext.refl _) hS hs)
          exact hQ ρ' a' w' k1 k2 (by rw [List.append_assoc]; exact k3)
        · cases h
      | true =>
        simp only [evCode] at h
        split at h
        · rename_i e δ hm h1
          cases h
          refine wp_mono (Q := fun ex a' w' => ex = .normal ∧ Q .normal a' w') (wp_region_any hm ?_) fun ex a' w' hx => by obtain ⟨rfl, hx⟩ := hx; exact hx
          rw [← maskArr_zero]
          exact evIter_wp hC (fun c a w hc => by cases hc.1) (fun ρ' a' w' k1 k2 k3 => ⟨rfl, hQ ρ' a' w' k1 k2 (by rw [List.append_assoc]; exact k3)⟩) _ _ h1 0 [] [] (List.mem_singleton.2 rfl) ρ a _ (Ext.refl _) hS hs.drew
        · cases h
    | seq x y =>
      simp only [evCode] at h
      refine wp_seq ?_
      split at h
      · rename_i T' d' c' hx
        refine ih1 x T d c _ hx ρ a w _ hS hs fun ρ1 a1 w1 h1 h2 h3 => ?_
        exact ih1 y T' d' c' r h ρ1 a1 w1 Q h2 h3 (hQ.ext h1)
      · rename_i hne
        refine ih1 x T d c r h ρ a w _ hS hs fun ρ1 a1 w1 h1 h2 h3 => ?_
        have hq := hQ ρ1 a1 w1 h1 h2 h3
        obtain ⟨ex, T', d', c'⟩ := r
        cases ex
        · exact absurd h (hne T' d' c')
        · exact hq
        · exact hq
    | cond b x y =>
      simp only [evCode] at h
      split at h
      · rename_i hb
        have hv : a.eval b = .bool true := opc_rel hS.tr hb
        exact wp_cond_true hv (ih1 x T d c r h ρ a w Q hS hs hQ)
      · rename_i hb
        have hv : a.eval b = .bool false := opc_rel hS.tr hb
        exact wp_cond_false hv (ih1 y T d c r h ρ a w Q hS hs hQ)
      · cases h
    | block id b =>
      simp only [evCode] at h
      refine wp_block ?_
      split at h
      · rename_i id' T' d' c' hb
        refine ih1 b T d c _ hb ρ a w _ hS hs fun ρ1 a1 w1 h1 h2 h3 => ?_
        split at h
        · rename_i hid
          have hid := Nat.eq_of_beq_eq_true hid
          cases h
          show (if id' = id then _ else _)
          rw [if_pos hid]
          exact hQ ρ1 a1 w1 h1 h2 h3
        · rename_i hid
          cases h
          show (if id' = id then _ else _)
          rw [if_neg fun e => by rw [e] at hid; exact absurd hid (by simp)]
          exact hQ ρ1 a1 w1 h1 h2 h3
      · rename_i hne
        refine ih1 b T d c r h ρ a w _ hS hs fun ρ1 a1 w1 h1 h2 h3 => ?_
        have hq := hQ ρ1 a1 w1 h1 h2 h3
        obtain ⟨ex, T', d', c'⟩ := r
        cases ex with
        | normal => exact hq
        | exit id' => exact absurd h (hne id' T' d' c')
        | ret => exact hq
    | loop b => exact wp_loop_rounds (k + 1) (hloop b T d c r h ρ a w Q hS hs hQ)
    | rangeFunc f ps xs b => simp only [evCode] at h; cases h
    | scope b => simp only [evCode] at h; cases h
    | goto l => simp only [evCode] at h; cases h
    | refuse y => simp only [evCode] at h; cases h
end
def argT : Nat → List A1 → Tm
  | _, [] => []
  | i, v :: t => (i, some (.one v)) :: argT (i + 1) t
def resA (P : Program) (T : Tm) (σ : Hp) : List ResultVar → Option (List A1)
  | [] => some []
  | .tmp t :: r => match op1 T (.tmp t), resA P T σ r with
    | some v, some l => some (v :: l)
    | _, _ => none
  | .cell t ty :: r => match opc T (.tmp t) with
    | some (.ptr b off) => match loadA P σ ty b off, resA P T σ r with
      | some v, some l => some (v :: l)
      | _, _ => none
    | _ => none
def tupA : List A1 → AV
  | [x] => .one x
  | l => .tup l
def evCall (P : Program) (K : Nat) : Nat → Caller
  | 0, _, _, _, _ => none
  | n + 1, f, vs, σ, p => match P.funcs[f]? with
    | some fn => match fn.name == "runtime.NumGoroutine", fn.body with
      | false, some c => match evCode (evCall P K n) P (vs.length + (fn.ntmps - vs.length)) σ p K c (argT 0 vs) [] 0 with
        | some ⟨.exit _, _, _, _⟩ => none
        | some ⟨_, T, d, _⟩ => match resA P T (d ++ σ) fn.results.toList with
          | some l => some (tupA l, d)
          | none => none
        | none => none
      | _, _ => none
    | none => none
section
variable {P : Program} {w0 : World}
theorem argT_look : ∀ (vs : List A1) (i t : Nat) (x : AV), look (argT i vs) t = some (some x) → ∃ v, i ≤ t ∧ vs[t - i]? = some v ∧ x = .one v
  | [], i, t, x, h => by cases h
  | v :: r, i, t, x, h => by
    simp only [argT] at h
    rw [look_cons] at h
    split at h
    · rename_i e
      subst e
      cases h
      exact ⟨v, Nat.le_refl _, by simp, rfl⟩
    · obtain ⟨u, k1, k2, k3⟩ := argT_look r (i + 1) t x h
      exact ⟨u, by omega, by rw [show t - i = (t - (i + 1)) + 1 by omega]; simpa using k2, k3⟩
theorem R1.length {ρ : Ren} : ∀ {l : List A1} {vs : List Value}, R1 ρ l vs → vs.length = l.length
  | [], _, h => by rw [show _ = _ from h]; rfl
  | x :: t, _, ⟨v, u, h1, h2, h3⟩ => by rw [h1, List.length_cons, R1.length h3, List.length_cons]
theorem start_SR {ρ : Ren} {vs : List A1} {us : List Value} (h : R1 ρ vs us) (n : Nat) : SR (vs.length + (n - vs.length)) ρ (argT 0 vs) { tmps := us.toArray ++ Array.replicate (n - us.toArray.size) undef, defers := [] } := by
  have hl := h.length
  refine ⟨fun t x hx => ?_, by simp [hl], rfl⟩
  obtain ⟨v, -, k2, rfl⟩ := argT_look vs 0 t x hx
  rw [Nat.sub_zero] at k2
  obtain ⟨u, k3, k4⟩ := h.get k2
  have hlt := (List.getElem?_eq_some_iff.1 k3).1
  have e : (us.toArray ++ Array.replicate (n - us.toArray.size) undef).getD t undef = u := by
    rw [Array.getD_eq_getD_getElem?, Array.getElem?_append_left (by simpa using hlt), List.getElem?_toArray, k3]
    rfl
  exact (by rw [e]; exact k4 : A1.rel ρ v ((us.toArray ++ Array.replicate (n - us.toArray.size) undef).getD t undef))
def getRes (tmps : Array Value) (x : ResultVar) : Sem Value := match x with
  | .tmp t => pure (tmps.getD t undef)
  | .cell b t => do loadVar t (← asAddr (tmps.getD b undef))
theorem resA_run {ρ : Ren} {T : Tm} {σ : Hp} {a : Act} {w : World} (hT : TR ρ T a) (hs : HR w0 ρ σ w) : ∀ {rs : List ResultVar} {l : List A1}, resA P T σ rs = some l → ∃ vs, R1 ρ l vs ∧ (rs.mapM (getRes a.tmps)).run P w = .ok vs w
  | [], l, h => by cases h; exact ⟨[], rfl, by simp⟩
  | .tmp t :: r, l, h => by
    simp only [resA] at h
    split at h
    · rename_i v l' h1 h2
      cases h
      obtain ⟨vs, k1, k2⟩ := resA_run hT hs h2
      have h3 : v.rel ρ (a.tmps.getD t undef) := op1_rel hT h1
      exact ⟨_, ⟨_, vs, rfl, h3, k1⟩, by simp [List.mapM_cons, getRes, k2]⟩
    · cases h
  | .cell t ty :: r, l, h => by
    simp only [resA] at h
    split at h
    · rename_i b off hp
      split at h
      · rename_i v l' h1 h2
        cases h
        obtain ⟨vs, k1, k2⟩ := resA_run hT hs h2
        obtain ⟨k, cp, hk, hv⟩ := opc_rel hT hp
        have hv : a.tmps.getD t undef = .pointer (some ⟨k, off, none⟩) := hv
        obtain ⟨u, h3, h4⟩ := loadA_run hs h1 hk
        exact ⟨_, ⟨_, vs, rfl, h3, k1⟩, by simp [List.mapM_cons, getRes, hv, asAddr, h4, k2]⟩
      · cases h
    · cases h
theorem results_run {ρ : Ren} {T : Tm} {σ : Hp} {a : Act} {w : World} (hT : TR ρ T a) (hs : HR w0 ρ σ w) {fn : Func} {l : List A1} (h : resA P T σ fn.results.toList = some l) : ∃ v, (tupA l).rel ρ v ∧ (results fn a.tmps).run P w = .ok v w := by
  obtain ⟨vs, k1, k2⟩ := resA_run hT hs h
  have hl := k1.length
  refine ⟨if h : vs.toArray.size = 1 then vs.toArray[0] else .tuple vs.toArray, ?_, ?_⟩
  · cases l with
    | nil =>
      rw [show vs = [] from k1]
      exact ⟨_, rfl, rfl⟩
    | cons x t =>
      obtain ⟨v, u, rfl, k3, k4⟩ := k1
      cases t with
      | nil =>
        rw [show u = [] from k4]
        exact k3
      | cons y r =>
        have hne : ¬ (v :: u).toArray.size = 1 := by simp at hl ⊢; intro e; rw [e] at hl; simp at hl
        rw [dif_neg hne]
        exact ⟨_, rfl, v, u, rfl, k3, k4⟩
  · have e : results fn a.tmps = (fn.results.mapM (getRes a.tmps)) >>= fun vs => pure (if h : vs.size = 1 then vs[0] else .tuple vs) := by
      unfold results
      congr 2
    rw [e, Array.mapM_eq_mapM_toList]
    simp only [Sem.run_bind, Sem.run_map, k2, Result.andThen_ok]
    rfl
theorem evCall_ok (K : Nat) : ∀ n, CallOK P w0 (evCall P K n)
  | 0 => fun f vs σ nm v δ h => by (simp only [evCall] at h; cases h)
  | n + 1 => fun f vs σ nm v δ h => by
    have ih := evCall_ok K n
    simp only [evCall] at h
    split at h
    · rename_i fn hf
      split at h
      · rename_i c hname hbody
        have hent : ∀ args w, (callFunc f args).run P w = .ok (.enter f args) w := fun args w => by
          have h1 : fn.name ≠ "runtime.NumGoroutine" := by simpa using hname
          simp [callFunc, hf, h1, hbody]
        split at h
        · cases h
        · rename_i ex T d c' hne hc
          split at h
          · rename_i l hl
            cases h
            refine ⟨hent, fun ρ w us hs hus => calls_of_wp hf hbody ?_⟩
            refine (evCode_wp ih K).1 c _ [] 0 _ hc ρ _ w _ (start_SR hus _) hs fun ρ' a' w' k1 k2 k3 => ?_
            obtain ⟨v, j1, j2⟩ := results_run k2.tr k3 hl
            cases ex with
            | normal => exact ⟨k2.defers, v, j2, v, ρ', rfl, k1, j1, k3⟩
            | ret => exact ⟨k2.defers, v, j2, v, ρ', rfl, k1, j1, k3⟩
            | exit id => exact (hne id rfl).elim
          · cases h
        · cases h
      · cases h
    · cases h
theorem run_call {K n : Nat} {f : FuncId} {vs : List A1} {v : AV} {δ : Hp} (h : evCall P K n f vs [] 1 = some (v, δ)) {us : List Value} (hus : R1 (fun _ => none) vs us) (w : World) :
    Calls P f us.toArray w fun e w' => ∃ u ρ, e = .returned u ∧ v.rel ρ u ∧ HR w ρ δ w' := by
  refine ((evCall_ok K n f vs [] 1 v δ h).2 _ w us (HR.start w) hus).mono ?_
  rintro e w' ⟨u, ρ, rfl, -, h2, h3⟩
  exact ⟨u, ρ, rfl, h2, by simpa using h3⟩
end
end Go.Ev
namespace Go.Proofs.YtmnleknehjkmgaaGreat
open Go.RowKit Go.Shelf
theorem listOf_any (page : Int) (w : World) :
    Calls Tryz.prog 90 #[.int .i64 page] w fun e w' => e = .returned (.string (sB (listS page))) ∧ w' = w := by
  by_cases h0 : page = 0
  · subst h0
    go_enter Tryz.func90, Tryz.ntmps90
    go_wp2
    go_ret
    exact ⟨rfl, rfl⟩
  by_cases h1 : page = 1
  · subst h1
    go_enter Tryz.func90, Tryz.ntmps90
    go_wp2
    go_ret
    exact ⟨rfl, rfl⟩
  by_cases h2 : page = 2
  · subst h2
    go_enter Tryz.func90, Tryz.ntmps90
    go_wp2
    go_ret
    exact ⟨rfl, rfl⟩
  by_cases h3 : page = 3
  · subst h3
    go_enter Tryz.func90, Tryz.ntmps90
    go_wp2
    go_ret
    exact ⟨rfl, rfl⟩
  by_cases h4 : page = 4
  · subst h4
    go_enter Tryz.func90, Tryz.ntmps90
    go_wp2
    go_ret
    exact ⟨rfl, rfl⟩
  by_cases h5 : page = 5
  · subst h5
    go_enter Tryz.func90, Tryz.ntmps90
    go_wp2
    go_ret
    exact ⟨rfl, rfl⟩
  by_cases h6 : page = 6
  · subst h6
    go_enter Tryz.func90, Tryz.ntmps90
    go_wp2
    go_ret
    exact ⟨rfl, rfl⟩
  · have e : listS page = [] := by unfold listS; simp [h0, h1, h2, h3, h4, h5, h6]
    rw [e]
    go_enter Tryz.func90, Tryz.ntmps90
    go_wp2
    go_ret
    exact ⟨rfl, rfl⟩
theorem patsOf_main : patsOf mainS = mainP := by decide +kernel
theorem patsOf_cb : patsOf cbS = cbP := by decide +kernel
theorem patsOf_ed : patsOf edS = edP := by decide +kernel
def pagePats (page : Int) : List Pat := if page = 0 ∨ page = 3 ∨ page = 4 then mainP else if page = 1 ∨ page = 5 ∨ page = 6 then cbP else if page = 2 then edP else []
theorem patsOf_page (page : Int) : patsOf (listS page) = pagePats page := by
  unfold listS pagePats
  split
  · exact patsOf_main
  · split
    · exact patsOf_cb
    · split
      · exact patsOf_ed
      · rfl
theorem listS_len (page : Int) : (listS page).length ≤ 100000 := by
  have h0 : mainS.length ≤ 100000 := by decide +kernel
  have h1 : cbS.length ≤ 100000 := by decide +kernel
  have h2 : edS.length ≤ 100000 := by decide +kernel
  have h3 : ([] : Str).length ≤ 100000 := by decide +kernel
  unfold listS
  split
  · exact h0
  · split
    · exact h1
    · split
      · exact h2
      · exact h3
theorem all8 : ∀ p ∈ mainP ++ cbP ++ edP, p.1.length = 8 := by decide +kernel
theorem page_mem {page : Int} {p : Pat} (h : p ∈ pagePats page) : p ∈ mainP ++ cbP ++ edP := by
  unfold pagePats at h
  split at h
  · simp [h]
  · split at h
    · simp [h]
    · split at h
      · simp [h]
      · cases h
theorem page8 (page : Int) : ∀ p ∈ patsOf (listS page), p.1.length = 8 := fun p h => all8 p (page_mem (by rw [← patsOf_page]; exact h))
end Go.Proofs.YtmnleknehjkmgaaGreat
namespace Go.Proofs.YtmnleknehjkmgaaGreat
open Go.RowKit Go.Shelf
def trV (x : Tr) : Value := .agg #[.int .i64 x.1, .int .i64 x.2.1, .int .i64 x.2.2]
def RetTr (w : World) (x : Tr) (e : Ending) (w' : World) : Prop := e = .returned (trV x) ∧ Below w.heap.size w w'
def OpdAt (w : World) (n : Nat) : Prop := w.heap[n]? = some (.cells #[.int .i64 0, .int .i64 0, .int .i64 0] 67 (0, 0))
theorem OpdAt.below {w w' : World} {n : Nat} (h : OpdAt w n) (hb : Below w.heap.size w w') : OpdAt w' n := (hb.block n (Array.getElem?_eq_some_iff.1 h).1).trans h
theorem OpdAt.belowN {w w' : World} {n m : Nat} (h : OpdAt w n) (hb : Below m w w') (hn : n < m) : OpdAt w' n := (hb.block n hn).trans h
theorem OpdAt.cells {w : World} {n : Nat} (h : OpdAt w n) : w.cell? ⟨n, 0, none⟩ = some (.int .i64 0) ∧ w.cell? ⟨n, 1, none⟩ = some (.int .i64 0) ∧ w.cell? ⟨n, 2, none⟩ = some (.int .i64 0) ∧ ∀ j, w.frozen? ⟨n, j, none⟩ = false :=
  ⟨Lib.cell_of_heap h 0, Lib.cell_of_heap h 1, Lib.cell_of_heap h 2, Lib.frozen_of_heap h⟩
theorem opd_set {w : World} {n : Nat} (h : OpdAt w n) (a b c : Int) : ∃ w', ((w.setCell ⟨n, 0, none⟩ (.int .i64 a)).setCell ⟨n, 1, none⟩ (.int .i64 b)).setCell ⟨n, 2, none⟩ (.int .i64 c) = w' ∧
    w'.heap[n]? = some (.cells #[.int .i64 a, .int .i64 b, .int .i64 c] 67 (0, 0)) ∧ Below n w w' ∧ w'.heap.size = w.heap.size :=
  ⟨_, rfl, set3 h _ _ _, ((((Below.refl n w).setCell (p := ⟨n, 0, none⟩) (Nat.le_refl _) _).setCell (p := ⟨n, 1, none⟩) (Nat.le_refl _) _).setCell (p := ⟨n, 2, none⟩) (Nat.le_refl _) _), by simp⟩
theorem code_start (w : World) (p : Pat) (op : Int) : ∃ w0, (w.alloc (.cells #[.string (sB p.1), .string (sB p.2), .int .u8 op] 131)).alloc (.cells #[.int .i64 0, .int .i64 0, .int .i64 0] 67) = w0 ∧
    OpdAt w0 (w.heap.size + 1) ∧ Below w.heap.size w w0 ∧ w0.heap.size = w.heap.size + 2 ∧ w0.heap[w.heap.size]? = some (.cells #[.string (sB p.1), .string (sB p.2), .int .u8 op] 131 (0, 0)) := by
  refine ⟨_, rfl, ?_, ((Below.refl _ w).alloc (Nat.le_refl _) _).alloc (by simp) _, by simp, (Below.heap_alloc _ _ _ (by simp)).trans (World.alloc_heap_new w _)⟩
  have h := World.alloc_heap_new (w.alloc (.cells #[.string (sB p.1), .string (sB p.2), .int .u8 op] 131)) (.cells #[.int .i64 0, .int .i64 0, .int .i64 0] 67)
  rw [World.size_alloc] at h
  exact h
theorem register_any (r : Int) (w : World) : Calls Tryz.prog 121 #[.int .i64 r] w (RetTr w (1, r, 0)) := by
  go_enter Tryz.func121, Tryz.ntmps121
  go_wp2
  refine bodyPost_ret (v := trV (1, r, 0)) ?_ rfl ?_
  · simp [results, Tryz.results121, go_sem, trV]
  · exact ⟨rfl, (Below.refl _ _).alloc (Nat.le_refl _) _⟩
theorem half_any (r : Int) (w : World) : Calls Tryz.prog 144 #[.int .i64 r] w (RetTr w (2, r, 0)) := by
  go_enter Tryz.func144, Tryz.ntmps144
  go_wp2
  refine bodyPost_ret (v := trV (2, r, 0)) ?_ rfl ?_
  · simp [results, Tryz.results144, go_sem, trV]
  · exact ⟨rfl, (Below.refl _ _).alloc (Nat.le_refl _) _⟩
theorem pair_any (r : Int) (w : World) : Calls Tryz.prog 131 #[.int .i64 r] w (RetTr w (3, r, 0)) := by
  go_enter Tryz.func131, Tryz.ntmps131
  go_wp2
  refine bodyPost_ret (v := trV (3, r, 0)) ?_ rfl ?_
  · simp [results, Tryz.results131, go_sem, trV]
  · exact ⟨rfl, (Below.refl _ _).alloc (Nat.le_refl _) _⟩
theorem tpointer_any (r : Int) (w : World) : Calls Tryz.prog 129 #[.int .i64 r] w (RetTr w (4, r, 0)) := by
  go_enter Tryz.func129, Tryz.ntmps129
  go_wp2
  refine bodyPost_ret (v := trV (4, r, 0)) ?_ rfl ?_
  · simp [results, Tryz.results129, go_sem, trV]
  · exact ⟨rfl, (Below.refl _ _).alloc (Nat.le_refl _) _⟩
theorem value_any (r : Int) (w : World) : Calls Tryz.prog 134 #[.int .i64 r] w (RetTr w (6, 0, r)) := by
  go_enter Tryz.func134, Tryz.ntmps134
  go_wp2
  refine bodyPost_ret (v := trV (6, 0, r)) ?_ rfl ?_
  · simp [results, Tryz.results134, go_sem, trV]
  · exact ⟨rfl, (Below.refl _ _).alloc (Nat.le_refl _) _⟩
theorem cpair_any (p : Pat) (hl : p.1.length = 8) (op : Int) (h0 : 0 ≤ op) (h1 : op ≤ 255) (c : UInt8) (w : World) :
    Calls Tryz.prog 146 #[codeV p op, .int .u8 (c.toNat : Int)] w (RetTr w (3, numP p.1 op c, 0)) := by
  unfold codeV
  obtain ⟨w0, hw0, S0, B0, Z0, C0⟩ := code_start w p op
  obtain ⟨n, hn⟩ : ∃ n, w.heap.size = n := ⟨_, rfl⟩
  rw [hn] at S0 B0 Z0 C0
  have k0 := Lib.cell_of_heap C0 0
  have k1 := Lib.cell_of_heap C0 1
  have k2 := Lib.cell_of_heap C0 2
  have hnum := number_any p.1 p.2 hl op h0 h1 c w0
  have S0 := Lib.hid S0
  have B0 := Lib.hid B0
  have HN := Lib.hid hn
  clear C0
  go_enter Tryz.func146, Tryz.ntmps146
  go_wp2_with fail
  refine hnum.mono ?_
  rintro e w1 ⟨rfl, hb1⟩
  have S1 : Hid (OpdAt w1 (n + 1)) := S0.out.below hb1
  have B1 : Hid (Below n w w1) := B0.out.trans (hb1.mono (by omega))
  have Z1 : Hid (n + 2 ≤ w1.heap.size) := by have := hb1.size; show _ ≤ _; omega
  clear hb1 hnum hw0 S0 B0 Z0 hn k0 k1 k2
  go_wp2_with fail
  refine (pair_any _ w1).mono ?_
  rintro e w2 ⟨rfl, hb2⟩
  have S2 : Hid (OpdAt w2 (n + 1)) := S1.out.below hb2
  have B2 : Hid (Below n w w2) := B1.out.trans (hb2.mono (by have := Z1.out; omega))
  clear hb2 S1 B1 Z1
  simp only [trV]
  obtain ⟨c0, c1, c2, c3⟩ := S2.out.cells
  go_wp2
  obtain ⟨w3, hw3, hc3, hb3, -⟩ := opd_set S2.out 3 (numP p.1 op c) 0
  rw [hw3]
  have r0 := Lib.cell_of_heap hc3 0
  have r1 := Lib.cell_of_heap hc3 1
  have r2 := Lib.cell_of_heap hc3 2
  refine bodyPost_ret (v := trV (3, (numP p.1 op c), 0)) ?_ rfl ?_
  · simp [results, Tryz.results146, go_sem, r0, r1, r2, trV]
  · exact ⟨rfl, by rw [HN.out]; exact B2.out.trans (hb3.mono (by omega))⟩
theorem cbit_any (p : Pat) (hl : p.1.length = 8) (op : Int) (h0 : 0 ≤ op) (h1 : op ≤ 255) (c : UInt8) (w : World) :
    Calls Tryz.prog 149 #[codeV p op, .int .u8 (c.toNat : Int)] w (RetTr w (6, 0, numP p.1 op c)) := by
  unfold codeV
  obtain ⟨w0, hw0, S0, B0, Z0, C0⟩ := code_start w p op
  obtain ⟨n, hn⟩ : ∃ n, w.heap.size = n := ⟨_, rfl⟩
  rw [hn] at S0 B0 Z0 C0
  have k0 := Lib.cell_of_heap C0 0
  have k1 := Lib.cell_of_heap C0 1
  have k2 := Lib.cell_of_heap C0 2
  have hnum := number_any p.1 p.2 hl op h0 h1 c w0
  have S0 := Lib.hid S0
  have B0 := Lib.hid B0
  have HN := Lib.hid hn
  clear C0
  go_enter Tryz.func149, Tryz.ntmps149
  go_wp2_with fail
  refine hnum.mono ?_
  rintro e w1 ⟨rfl, hb1⟩
  have S1 : Hid (OpdAt w1 (n + 1)) := S0.out.below hb1
  have B1 : Hid (Below n w w1) := B0.out.trans (hb1.mono (by omega))
  have Z1 : Hid (n + 2 ≤ w1.heap.size) := by have := hb1.size; show _ ≤ _; omega
  clear hb1 hnum hw0 S0 B0 Z0 hn k0 k1 k2
  go_wp2_with fail
  refine (value_any _ w1).mono ?_
  rintro e w2 ⟨rfl, hb2⟩
  have S2 : Hid (OpdAt w2 (n + 1)) := S1.out.below hb2
  have B2 : Hid (Below n w w2) := B1.out.trans (hb2.mono (by have := Z1.out; omega))
  clear hb2 S1 B1 Z1
  simp only [trV]
  obtain ⟨c0, c1, c2, c3⟩ := S2.out.cells
  go_wp2
  obtain ⟨w3, hw3, hc3, hb3, -⟩ := opd_set S2.out 6 0 (numP p.1 op c)
  rw [hw3]
  have r0 := Lib.cell_of_heap hc3 0
  have r1 := Lib.cell_of_heap hc3 1
  have r2 := Lib.cell_of_heap hc3 2
  refine bodyPost_ret (v := trV (6, 0, (numP p.1 op c))) ?_ rfl ?_
  · simp [results, Tryz.results149, go_sem, r0, r1, r2, trV]
  · exact ⟨rfl, by rw [HN.out]; exact B2.out.trans (hb3.mono (by omega))⟩
theorem ccond_any (p : Pat) (hl : p.1.length = 8) (op : Int) (h0 : 0 ≤ op) (h1 : op ≤ 255) (c : UInt8) (w : World) :
    Calls Tryz.prog 148 #[codeV p op, .int .u8 (c.toNat : Int)] w (RetTr w (8, numP p.1 op c, 0)) := by
  unfold codeV
  obtain ⟨w0, hw0, S0, B0, Z0, C0⟩ := code_start w p op
  obtain ⟨n, hn⟩ : ∃ n, w.heap.size = n := ⟨_, rfl⟩
  rw [hn] at S0 B0 Z0 C0
  have k0 := Lib.cell_of_heap C0 0
  have k1 := Lib.cell_of_heap C0 1
  have k2 := Lib.cell_of_heap C0 2
  have hnum := number_any p.1 p.2 hl op h0 h1 c w0
  have S0 := Lib.hid S0
  have B0 := Lib.hid B0
  have HN := Lib.hid hn
  clear C0
  go_enter Tryz.func148, Tryz.ntmps148
  go_wp2_with fail
  refine hnum.mono ?_
  rintro e w1 ⟨rfl, hb1⟩
  have S1 : Hid (OpdAt w1 (n + 1)) := S0.out.below hb1
  have B1 : Hid (Below n w w1) := B0.out.trans (hb1.mono (by omega))
  have Z1 : Hid (n + 2 ≤ w1.heap.size) := by have := hb1.size; show _ ≤ _; omega
  clear hb1 hnum hw0 S0 B0 Z0 hn k0 k1 k2
  obtain ⟨c0, c1, c2, c3⟩ := S1.out.cells
  go_wp2
  obtain ⟨w3, hw3, hc3, hb3, -⟩ := opd_set S1.out 8 (numP p.1 op c) 0
  rw [hw3]
  have r0 := Lib.cell_of_heap hc3 0
  have r1 := Lib.cell_of_heap hc3 1
  have r2 := Lib.cell_of_heap hc3 2
  refine bodyPost_ret (v := trV (8, (numP p.1 op c), 0)) ?_ rfl ?_
  · simp [results, Tryz.results148, go_sem, r0, r1, r2, trV]
  · exact ⟨rfl, by rw [HN.out]; exact B1.out.trans (hb3.mono (by omega))⟩
theorem crestart_any (p : Pat) (hl : p.1.length = 8) (op : Int) (h0 : 0 ≤ op) (h1 : op ≤ 255) (c : UInt8) (hm : 0 ≤ numP p.1 op c) (hM : numP p.1 op c ≤ 255) (w : World) :
    Calls Tryz.prog 150 #[codeV p op, .int .u8 (c.toNat : Int)] w (RetTr w (6, 0, 8 * numP p.1 op c)) := by
  unfold codeV
  obtain ⟨w0, hw0, S0, B0, Z0, C0⟩ := code_start w p op
  obtain ⟨n, hn⟩ : ∃ n, w.heap.size = n := ⟨_, rfl⟩
  rw [hn] at S0 B0 Z0 C0
  have k0 := Lib.cell_of_heap C0 0
  have k1 := Lib.cell_of_heap C0 1
  have k2 := Lib.cell_of_heap C0 2
  have hnum := number_any p.1 p.2 hl op h0 h1 c w0
  have S0 := Lib.hid S0
  have B0 := Lib.hid B0
  have HN := Lib.hid hn
  clear C0
  go_enter Tryz.func150, Tryz.ntmps150
  go_wp2_with fail
  refine hnum.mono ?_
  rintro e w1 ⟨rfl, hb1⟩
  have S1 : Hid (OpdAt w1 (n + 1)) := S0.out.below hb1
  have B1 : Hid (Below n w w1) := B0.out.trans (hb1.mono (by omega))
  have Z1 : Hid (n + 2 ≤ w1.heap.size) := by have := hb1.size; show _ ≤ _; omega
  clear hb1 hnum hw0 S0 B0 Z0 hn k0 k1 k2
  go_wp2_with fail
  refine (value_any _ w1).mono ?_
  rintro e w2 ⟨rfl, hb2⟩
  have S2 : Hid (OpdAt w2 (n + 1)) := S1.out.below hb2
  have B2 : Hid (Below n w w2) := B1.out.trans (hb2.mono (by have := Z1.out; omega))
  clear hb2 S1 B1 Z1
  simp only [trV]
  obtain ⟨c0, c1, c2, c3⟩ := S2.out.cells
  go_wp2
  obtain ⟨w3, hw3, hc3, hb3, -⟩ := opd_set S2.out 6 0 (8 * (numP p.1 op c))
  rw [hw3]
  have r0 := Lib.cell_of_heap hc3 0
  have r1 := Lib.cell_of_heap hc3 1
  have r2 := Lib.cell_of_heap hc3 2
  refine bodyPost_ret (v := trV (6, 0, (8 * (numP p.1 op c)))) ?_ rfl ?_
  · simp [results, Tryz.results150, go_sem, r0, r1, r2, trV]
  · exact ⟨rfl, by rw [HN.out]; exact B2.out.trans (hb3.mono (by omega))⟩
def regT (n : Int) : Tr := if n = 6 then (4, 2, 0) else (1, n, 0)
def pushT (n : Int) : Tr := if n = 3 then (3, 4, 0) else (3, n, 0)
theorem cregister_any (p : Pat) (hl : p.1.length = 8) (op : Int) (h0 : 0 ≤ op) (h1 : op ≤ 255) (c : UInt8) (w : World) :
    Calls Tryz.prog 145 #[codeV p op, .int .u8 (c.toNat : Int)] w (RetTr w (regT (numP p.1 op c))) := by
  unfold codeV
  obtain ⟨w0, hw0, S0, B0, Z0, C0⟩ := code_start w p op
  obtain ⟨n, hn⟩ : ∃ n, w.heap.size = n := ⟨_, rfl⟩
  rw [hn] at S0 B0 Z0 C0
  have k0 := Lib.cell_of_heap C0 0
  have k1 := Lib.cell_of_heap C0 1
  have k2 := Lib.cell_of_heap C0 2
  have hnum := number_any p.1 p.2 hl op h0 h1 c w0
  have S0 := Lib.hid S0
  have B0 := Lib.hid B0
  have HN := Lib.hid hn
  clear C0
  go_enter Tryz.func145, Tryz.ntmps145
  go_wp2_with fail
  refine hnum.mono ?_
  rintro e w1 ⟨rfl, hb1⟩
  have S1 : Hid (OpdAt w1 (n + 1)) := S0.out.below hb1
  have B1 : Hid (Below n w w1) := B0.out.trans (hb1.mono (by omega))
  have Z1 : Hid (n + 2 ≤ w1.heap.size) := by have := hb1.size; show _ ≤ _; omega
  clear hb1 hnum hw0 S0 B0 Z0 hn k0 k1 k2
  by_cases hk : numP p.1 op c = 6
  · have E : Hid (regT (numP p.1 op c) = (4, 2, 0)) := by show regT _ = _; unfold regT; rw [if_pos hk]
    rw [hk]
    go_wp2_with fail
    refine (tpointer_any _ w1).mono ?_
    rintro e w2 ⟨rfl, hb2⟩
    have S2 : Hid (OpdAt w2 (n + 1)) := S1.out.below hb2
    have B2 : Hid (Below n w w2) := B1.out.trans (hb2.mono (by have := Z1.out; omega))
    clear hb2 S1 B1 Z1
    simp only [trV]
    obtain ⟨c0, c1, c2, c3⟩ := S2.out.cells
    go_wp2
    obtain ⟨w3, hw3, hc3, hb3, -⟩ := opd_set S2.out 4 2 0
    rw [hw3]
    have r0 := Lib.cell_of_heap hc3 0
    have r1 := Lib.cell_of_heap hc3 1
    have r2 := Lib.cell_of_heap hc3 2
    refine bodyPost_ret (v := trV (4, 2, 0)) ?_ rfl ?_
    · simp [results, Tryz.results145, go_sem, r0, r1, r2, trV]
    · exact ⟨by rw [E.out], by rw [HN.out]; exact B2.out.trans (hb3.mono (by omega))⟩
  · have E : Hid (regT (numP p.1 op c) = (1, (numP p.1 op c), 0)) := by show regT _ = _; unfold regT; rw [if_neg hk]
    obtain ⟨m, hm⟩ : ∃ m, numP p.1 op c = m := ⟨_, rfl⟩
    have E2 : Hid (regT (numP p.1 op c) = (1, m, 0)) := by have h := E.out; rw [hm] at h ⊢; exact h
    rw [hm] at hk ⊢
    clear hm
    go_wp2_with fail
    refine (register_any _ w1).mono ?_
    rintro e w2 ⟨rfl, hb2⟩
    have S2 : Hid (OpdAt w2 (n + 1)) := S1.out.below hb2
    have B2 : Hid (Below n w w2) := B1.out.trans (hb2.mono (by have := Z1.out; omega))
    clear hb2 S1 B1 Z1
    simp only [trV]
    obtain ⟨c0, c1, c2, c3⟩ := S2.out.cells
    go_wp2
    obtain ⟨w3, hw3, hc3, hb3, -⟩ := opd_set S2.out 1 m 0
    rw [hw3]
    have r0 := Lib.cell_of_heap hc3 0
    have r1 := Lib.cell_of_heap hc3 1
    have r2 := Lib.cell_of_heap hc3 2
    refine bodyPost_ret (v := trV (1, m, 0)) ?_ rfl ?_
    · simp [results, Tryz.results145, go_sem, r0, r1, r2, trV]
    · exact ⟨by rw [E2.out], by rw [HN.out]; exact B2.out.trans (hb3.mono (by omega))⟩
theorem cpushed_any (p : Pat) (hl : p.1.length = 8) (op : Int) (h0 : 0 ≤ op) (h1 : op ≤ 255) (c : UInt8) (w : World) :
    Calls Tryz.prog 147 #[codeV p op, .int .u8 (c.toNat : Int)] w (RetTr w (pushT (numP p.1 op c))) := by
  unfold codeV
  obtain ⟨w0, hw0, S0, B0, Z0, C0⟩ := code_start w p op
  obtain ⟨n, hn⟩ : ∃ n, w.heap.size = n := ⟨_, rfl⟩
  rw [hn] at S0 B0 Z0 C0
  have k0 := Lib.cell_of_heap C0 0
  have k1 := Lib.cell_of_heap C0 1
  have k2 := Lib.cell_of_heap C0 2
  have hnum := number_any p.1 p.2 hl op h0 h1 c w0
  have S0 := Lib.hid S0
  have B0 := Lib.hid B0
  have HN := Lib.hid hn
  clear C0
  go_enter Tryz.func147, Tryz.ntmps147
  go_wp2_with fail
  refine hnum.mono ?_
  rintro e w1 ⟨rfl, hb1⟩
  have S1 : Hid (OpdAt w1 (n + 1)) := S0.out.below hb1
  have B1 : Hid (Below n w w1) := B0.out.trans (hb1.mono (by omega))
  have Z1 : Hid (n + 2 ≤ w1.heap.size) := by have := hb1.size; show _ ≤ _; omega
  clear hb1 hnum hw0 S0 B0 Z0 hn k0 k1 k2
  by_cases hk : numP p.1 op c = 3
  · have E : Hid (pushT (numP p.1 op c) = (3, 4, 0)) := by show pushT _ = _; unfold pushT; rw [if_pos hk]
    rw [hk]
    go_wp2_with fail
    refine (pair_any _ w1).mono ?_
    rintro e w2 ⟨rfl, hb2⟩
    have S2 : Hid (OpdAt w2 (n + 1)) := S1.out.below hb2
    have B2 : Hid (Below n w w2) := B1.out.trans (hb2.mono (by have := Z1.out; omega))
    clear hb2 S1 B1 Z1
    simp only [trV]
    obtain ⟨c0, c1, c2, c3⟩ := S2.out.cells
    go_wp2
    obtain ⟨w3, hw3, hc3, hb3, -⟩ := opd_set S2.out 3 4 0
    rw [hw3]
    have r0 := Lib.cell_of_heap hc3 0
    have r1 := Lib.cell_of_heap hc3 1
    have r2 := Lib.cell_of_heap hc3 2
    refine bodyPost_ret (v := trV (3, 4, 0)) ?_ rfl ?_
    · simp [results, Tryz.results147, go_sem, r0, r1, r2, trV]
    · exact ⟨by rw [E.out], by rw [HN.out]; exact B2.out.trans (hb3.mono (by omega))⟩
  · have E : Hid (pushT (numP p.1 op c) = (3, (numP p.1 op c), 0)) := by show pushT _ = _; unfold pushT; rw [if_neg hk]
    obtain ⟨m, hm⟩ : ∃ m, numP p.1 op c = m := ⟨_, rfl⟩
    have E2 : Hid (pushT (numP p.1 op c) = (3, m, 0)) := by have h := E.out; rw [hm] at h ⊢; exact h
    rw [hm] at hk ⊢
    clear hm
    go_wp2_with fail
    refine (pair_any _ w1).mono ?_
    rintro e w2 ⟨rfl, hb2⟩
    have S2 : Hid (OpdAt w2 (n + 1)) := S1.out.below hb2
    have B2 : Hid (Below n w w2) := B1.out.trans (hb2.mono (by have := Z1.out; omega))
    clear hb2 S1 B1 Z1
    simp only [trV]
    obtain ⟨c0, c1, c2, c3⟩ := S2.out.cells
    go_wp2
    obtain ⟨w3, hw3, hc3, hb3, -⟩ := opd_set S2.out 3 m 0
    rw [hw3]
    have r0 := Lib.cell_of_heap hc3 0
    have r1 := Lib.cell_of_heap hc3 1
    have r2 := Lib.cell_of_heap hc3 2
    refine bodyPost_ret (v := trV (3, m, 0)) ?_ rfl ?_
    · simp [results, Tryz.results147, go_sem, r0, r1, r2, trV]
    · exact ⟨by rw [E2.out], by rw [HN.out]; exact B2.out.trans (hb3.mono (by omega))⟩
end Go.Proofs.YtmnleknehjkmgaaGreat
