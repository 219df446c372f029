/-
  A row over laid variables whose contract is told the world's shape too; MaxLen's cell by that shape; the signs of lex by what is laid.
-/
import Derived.Handed
import Derived.Shelf.Vars
import Derived.Test.YtcmcikcagpkocaaDoorLxK
import Derived.LaidLaws
import Derived.Lib.LaidTab
import Derived.MakeChecks
import Derived.ChangeArms
namespace Go.Proofs.YtcmcikcagpkocaaDoor
open Go.RowKit
set_option linter.unusedVariables false

variable {H : Type} {enc : TypeId × Value → H}
/-- The wrap of a row with laid variables; the contract is told W.ShapedOpen. -/
theorem wrap_shaped {a : Assume} {C : Checked} {os : Os} {f : FuncId} {fn : Func} {s : ChangeSpec} {conds : List PathCond} {apart fresh handsOn again : Bool} {X : World → Array Value → Prop}
    (hX : ∀ (w w' : World) (args : Array Value), w.heap = w'.heap → X w args → X w' args)
    (own : ownKnob C.prog.godebug = none) (started : os.Started) (noInit : C.prog.inits.idxOf? f = none) (hfn : C.prog.funcs[f]? = some fn)
    (witness : ∃ (w : World) (tape : Tape) (i : Input), w.os = os ∧ (w.forCall tape i).Shaped C.prog ∧ i.vars = [] ∧ Input.okWide C.prog (w.forCall tape i) .any w.heap.size f i ∧
      ((s.pre enc C.prog fn conds apart (w.forCall tape i).memory i.args ∧ X (w.forCall tape i).memory i.args) ∧ sizedMet enc C.prog fn (OpenSpec.ofChange s) apart (w.forCall tape i).memory i.args) ∧ a.holds C.prog (lone (Frame.enter C.prog f i.args .normal) [] (w.forCall tape i)))
    (body : ∀ (W : World) (base : Nat) (args : Array Value) (ds gs : List (DataW H)) (before : List MemPlace),
      (∀ (j : Nat) t v, fn.params[j]? = some t → args[j]? = some v → Value.okWide C.prog W .any base t v) →
      DataW.Whole enc C.prog fn.params.toList s.vars apart W args.toList ds gs before → X W args → W.ShapedOpen C.prog →
      Calls C.prog f args W fun e W' => ∃ v, e = .returned v ∧ s.post enc C.prog fn apart fresh handsOn again W args v W') :
    ReturnsInHanded a C os f .any (fun w args => (s.pre enc C.prog fn conds apart w args ∧ X w args) ∧ sizedMet enc C.prog fn (OpenSpec.ofChange s) apart w args) (s.post enc C.prog fn apart fresh handsOn again) := by
  refine returnsInHanded_of_calls own started noInit witness fun w tape i _ hsh _ hok hpre _ => ?_
  obtain ⟨_, _, _, g, hg, _, _, _, _, hval⟩ := hok
  cases Option.some.inj (hg.symm.trans hfn)
  obtain ⟨⟨⟨ds, gs, before, hw, _⟩, hx⟩, _⟩ := hpre
  refine (body _ w.heap.size i.args ds gs before hval (DataW.Whole.of_heap (w' := w.forCall tape i) (by rfl) hw) (hX _ _ _ (by rfl) hx) hsh).mono ?_
  rintro e W' ⟨v, rfl, hp⟩
  exact ChangeSpec.post_blind hp
/-- The wrap of a row without laid variables; the contract is told W.ShapedOpen. -/
theorem wrap_shaped0 {a : Assume} {C : Checked} {os : Os} {f : FuncId} {fn : Func} {s : ChangeSpec} {conds : List PathCond} {apart fresh handsOn again : Bool}
    (own : ownKnob C.prog.godebug = none) (started : os.Started) (noInit : C.prog.inits.idxOf? f = none) (hfn : C.prog.funcs[f]? = some fn)
    (witness : ∃ (w : World) (tape : Tape) (i : Input), w.os = os ∧ (w.forCall tape i).Shaped C.prog ∧ i.vars = [] ∧ Input.okWide C.prog (w.forCall tape i) .any w.heap.size f i ∧
      s.pre6 enc C.prog fn conds apart (w.forCall tape i).memory i.args ∧ a.holds C.prog (lone (Frame.enter C.prog f i.args .normal) [] (w.forCall tape i)))
    (body : ∀ (W : World) (base : Nat) (args : Array Value) (ds gs : List (DataW H)) (before : List MemPlace),
      (∀ (j : Nat) t v, fn.params[j]? = some t → args[j]? = some v → Value.okWide C.prog W .any base t v) →
      DataW.Whole enc C.prog fn.params.toList s.vars apart W args.toList ds gs before → W.ShapedOpen C.prog →
      Calls C.prog f args W fun e W' => ∃ v, e = .returned v ∧ s.post enc C.prog fn apart fresh handsOn again W args v W') :
    ReturnsInHanded a C os f .any (s.pre6 enc C.prog fn conds apart) (s.post enc C.prog fn apart fresh handsOn again) := by
  refine returnsInHanded_of_calls own started noInit witness fun w tape i _ hsh _ hok hpre _ => ?_
  obtain ⟨_, _, _, g, hg, _, _, _, _, hval⟩ := hok
  cases Option.some.inj (hg.symm.trans hfn)
  obtain ⟨⟨ds, gs, before, hw, _⟩, _⟩ := hpre
  refine (body _ w.heap.size i.args ds gs before hval (DataW.Whole.of_heap (w' := w.forCall tape i) (by rfl) hw) hsh).mono ?_
  rintro e W' ⟨v, rfl, hp⟩
  exact ChangeSpec.post_blind hp
/-- The variable MaxLen holds some number. -/
def MaxAt (w : World) : Prop := ∃ m, w.cell? ⟨1, 0, none⟩ = some (.int .i64 m)
theorem max_of_shape {W : World} (h : W.ShapedOpen Tryd.prog) : MaxAt W :=
  cell_of_shapedOpen_int (g := 1) (t := 3) (zero := #[.int .i64 0]) h (of_decide_eq_true (by kernel_rfl)) (by kernel_rfl) rfl (by kernel_rfl) (by kernel_rfl) Tryd.underlying3
/-- An array of strings that reads as these strings holds them, cell for cell. -/
theorem cells_of_strs {H : Type} {enc : TypeId × Value → H} {P : Program} {w : World} {base : Nat} {sp : Nat → Bool} {held : Bool} {fuel : Nat} {t e : TypeId} {n : Nat} {cs : List Value} {zs : List (List UInt8)} {p : List MemPlace}
    (ht : P.underlying t = some (.array n e)) (he : P.underlying e = some .string) (hce : P.cellsOf e = 1) (hct : P.cellsOf t = n)
    (h : DataW.trod enc P w base sp held fuel t cs = some (.agg (zs.map fun z => .lit (.string z)), p)) : cs = zs.map fun z => Value.string (sOf z) := by
  obtain _ | f := fuel
  · simp [DataW.trod] at h
  simp only [DataW.trod, ht, hce, hct, Nat.mul_one] at h
  split at h
  case isFalse => cases h
  case isTrue hl =>
    obtain ⟨xs, hm, hx⟩ := Option.map_eq_some_iff.1 h
    have hd : xs.map (·.1) = zs.map fun z => (DataW.lit (.string z) : DataW H) := by simpa using congrArg Prod.fst hx
    have n1 : xs.length = n := by simpa using Go.Lib.mapM_length hm
    have n2 : zs.length = n := by
      have := congrArg List.length hd
      rw [List.length_map, List.length_map] at this
      omega
    refine List.ext_getElem (by rw [List.length_map]; omega) fun i h1 h2 => ?_
    have hi : i < n := by omega
    obtain ⟨b, hb, hf⟩ := Go.Lib.mapM_at hm i i (by simp [hi])
    obtain ⟨s, e1, e2, -⟩ := DataW.trod_string he hf
    have c1 : cs[i]? = some (.string s) := by
      have := congrArg (fun l : List Value => l[0]?) e1
      simpa [List.getElem?_take, List.getElem?_drop] using this
    have c2 : (zs.map fun z => (DataW.lit (.string z) : DataW H))[i]? = some b.1 := by rw [← hd, List.getElem?_map, hb]; rfl
    rw [e2, List.getElem?_map, List.getElem?_eq_getElem (show i < zs.length by omega)] at c2
    simp only [Option.map_some, Option.some.injEq, DataW.lit.injEq, Lit.string.injEq] at c2
    have c3 := (List.getElem?_eq_some_iff.1 c1).2
    rw [c3, List.getElem_map, c2, sOf_of]
theorem sg_of_laid {l : List (String × DataW Unit)} {W : World} (h : laidMetH Tryd.prog l W) (hp : (l.all fun x => x.2.handleName?.isNone) = true) (hm : ("breadboard/lex.signs", (.agg (signsL.map fun z => .lit (.string z)) : DataW Unit)) ∈ l) : SgAt W := by
  rw [MakeChecks.laidMetH_plain _ _ _ hp] at h
  obtain ⟨ps, hv, -⟩ := h
  have go : ∀ (l : List (String × DataW Unit)) (ps : List MemPlace), DataW.LaidVars Tryd.prog W l ps → ("breadboard/lex.signs", (.agg (signsL.map fun z => .lit (.string z)) : DataW Unit)) ∈ l → SgAt W := by
    intro l
    induction l with
    | nil => intro _ _ h; cases h
    | cons x r ih =>
      intro ps hv hm
      obtain ⟨g, t, cs, fuel, p, q, h1, h2, h3, h4, h5, -⟩ := hv
      rcases List.mem_cons.1 hm with e | e
      · subst e
        have g0 : Tryd.prog.globalNamed "breadboard/lex.signs" = some 0 := by kernel_rfl
        obtain rfl : g = 0 := Option.some.inj (h1.symm.trans g0)
        have t0 : (Tryd.prog.globals[0]?).map (·.type) = some 100 := by kernel_rfl
        obtain rfl : t = 100 := Option.some.inj (h2.symm.trans t0)
        have hc := cells_of_strs (n := 16) (e := 9) Tryd.underlying100 Tryd.underlying9 (by kernel_rfl) (by kernel_rfl) h4
        unfold World.var? at h3
        rw [g0] at h3
        simp only [Option.bind_some] at h3
        cases hw : W.heap[0]? with
        | none => rw [hw] at h3; cases h3
        | some o =>
          rw [hw] at h3
          cases o with
          | cells cs' T fr =>
            simp only [Option.some.injEq] at h3
            subst h3
            refine ⟨T, fr, ?_⟩
            rw [hw]
            have : cs' = sgA := by
              apply Array.ext'
              rw [hc]
              unfold sgA
              rfl
            rw [this]
          | _ => simp at h3
      · exact ih q h5 e
  exact go l ps hv hm
end Go.Proofs.YtcmcikcagpkocaaDoor
