/-
  A loop over a function whose iterator writes one box of its own between two rounds (a string that gets shorter), which tells of each element what it is, and whose rounds go on or return.
  No program of its own: laws over any program.
-/
import Derived.Test.YtmeegpdjhcilkaaDoorLawAll
namespace Go.Stops
open Go Go.RowKit
set_option linter.unusedVariables false

/-- What holds at J is not touched by a change of block Bs. -/
def Apart {β : Type} (Bs : Nat) (J : β → World → Prop) : Prop := ∀ s X Y, J s X → X.grownBy Y (some Bs) → J s Y
/-- What an iterator promises that writes block Bs: element by element (E says of each what it is), till the end or till a round says that it is enough. -/
def Tells {α : Type} (F : Fence) (n : Nat) (P : Program) (g : Nat) (lb : Array Value) (encs : α → Array Value) (E : List α → α → Prop) (Bs : Nat) (Kp : World → World → Prop) (S : List α → Prop) (w : World) : Prop :=
  ∀ (l : Nat) (J Jx : List α → World → Prop) (W : World), Below w.heap.size w W → AbidesFrom W.heap.size J → Apart Bs J →
    (∀ pre x W1, J pre W1 → E pre x → YieldAt F (n - 1) P l (encs x) W1 fun e W' => (e = .returned (.bool true) ∧ J (pre ++ [x]) W' ∧ Kp W1 W') ∨ (e = .returned (.bool false) ∧ Jx (pre ++ [x]) W')) →
    AbidesFrom W.heap.size Jx → J [] W → CallsIn F n P g (#[.func (.yield l) #[] #[]] ++ lb) W fun e W' => (∃ v, e = .returned v) ∧ ((∃ xs, S xs ∧ J xs W') ∨ ∃ pre, Jx pre W')

/-- A round goes on, or it returns. -/
def endsSo {α : Type} (B : Nat) (Kp : World → World → Prop) (I Ix : List α → World → Prop) (xs : List α) (W : World) : Exit → Act → World → Prop
  | .normal, _, W' => KeepsFrom B W W' ∧ Kp W W' ∧ I xs W'
  | .ret, _, W' => KeepsFrom B W W' ∧ Ix xs W'
  | .exit _, _, _ => False
  | .goto _, _, _ => False
  | .panic _, _, _ => False
  | .outgrown, _, _ => False

variable {F : Fence} {n : Nat} {P : Program}

theorem wpIn_tells {α : Type} {g : Operand} {ps : Array Tmp} {assign body : Code} {Q : Exit → Act → World → Prop} {a : Act} {w : World} (hro : F.round = none) (h1 : 1 ≤ n)
    {gf : Nat} {lb : Array Value} (hg : a.eval g = .func (.func gf) #[] lb) (hFg : F.fn gf) (eg : ∀ args w, (callFunc gf args).run P w = .ok (.enter gf args) w)
    {encs : α → Array Value} {E : List α → α → Prop} {Bs : Nat} {Kp : World → World → Prop} {S : List α → Prop} (hseq : Tells F (n - 1) P gf lb encs E Bs Kp S w) (hBs : Bs < w.heap.size)
    (hKt : ∀ {A B C : World}, Kp A B → Kp B C → Kp A C) (hKb : ∀ (W : World) (l : Nat) (o o' : Obj), w.heap.size ≤ l → W.heap[l]? = some o → o.isCells = false → Kp W (W.putObj l o')) (hps : ∀ x, (encs x).size = ps.size)
    (I Ix : List α → World → Prop) (hI : OwnFrom w.heap.size I) (hIB : Apart Bs I) (hIx : OwnFrom w.heap.size Ix) (h0 : I [] w) (act : α → Act)
    (hassign : ∀ (l : Nat) (x : α) (W : World) (K : Act → World → Prop), K (act x) W →
      assign.wpIn (F.inRound l) (n - 1 - 1) P (Exit.then K (fun _ _ _ => False)) { tmps := (ps.zip (encs x)).foldl (fun t (p, v) => t.setIfInBounds p v) a.tmps, defers := [] } W)
    (hbody : ∀ (l : Nat) (pre : List α) (x : α) (W : World), I pre W → E pre x → body.wpIn (F.inRound l) (n - 1 - 1) P (endsSo w.heap.size Kp I Ix (pre ++ [x]) W) (act x) W)
    (hdone : ∀ (D : Nat) (xs : List α) (W : World), w.heap.size ≤ D → S xs → I xs W → W.heap[D]? = some (.deferred (some [])) → Q .normal { a with defers := { target := .collected D, args := #[] } :: a.defers } W)
    (hstop : ∀ (D : Nat) (pre : List α) (W : World), w.heap.size ≤ D → Ix pre W → W.heap[D]? = some (.deferred (some [])) → Code.ret.wpIn F n P Q { a with defers := { target := .collected D, args := #[] } :: a.defers } W) :
    (Code.rangeFunc g ps assign body).wpIn F n P Q a w := by
  refine wpIn_rangeFunc fun fn hfn => ?_
  rw [hro]
  let R : LoopState → Option Code → Loop := fun st j => { state := st, pending := j, fn := fn, tmps := a.tmps, params := ps, assign := assign, body := body, defers := w.heap.size }
  let B : World := (w.alloc (.deferred (some []))).alloc (.loop (R .ready none))
  have bD : B.heap[w.heap.size]? = some (.deferred (some [])) := (Below.heap_alloc _ _ _ (by simp)).trans (World.alloc_heap_new w _)
  have bL : B.heap[w.heap.size + 1]? = some (.loop (R .ready none)) := by
    have h := World.alloc_heap_new (w.alloc (.deferred (some []))) (.loop (R .ready none))
    rwa [World.size_alloc] at h
  have bI : I [] B := hI.alloc _ (hI.alloc _ h0)
  have bB : Below w.heap.size w B := ((Below.refl _ w).alloc (Nat.le_refl _) _).alloc (by simp) _
  have bz : B.heap.size = w.heap.size + 1 + 1 := by simp [B]
  -- what a turn of a walk of the iterator's own leaves of the two blocks
  have walk : ∀ {X Y : World} {row : Option Nat} {k : Nat} {o : Obj}, X.grownBy Y row → (∀ r, row = some r → B.heap.size ≤ r ∧ ∃ o : Obj, X.heap[r]? = some o ∧ o.isWalk = true) → X.heap[k]? = some o → k < w.heap.size + 2 → Y.heap[k]? = some o := fun hg' hr hk hlt =>
    (hg'.block _ (Array.getElem?_eq_some_iff.1 hk).1 fun e => by have := (hr _ e.symm).1; omega).trans hk
  have cells : ∀ {X Y : World} {row : Option Nat}, (∀ r, row = some r → B.heap.size ≤ r ∧ ∃ o : Obj, X.heap[r]? = some o ∧ o.isWalk = true) → (∀ r, row = some r → w.heap.size ≤ r ∧ ∃ o : Obj, X.heap[r]? = some o ∧ o.isCells = false) := fun hr r e => by
    obtain ⟨k1, o, k2, k3⟩ := hr r e
    exact ⟨by omega, o, k2, Obj.not_cells_of_walk k3⟩
  refine ⟨w.heap.size + 1, [{ target := .collected w.heap.size, args := #[] }], B, { target := .fn (.func gf) lb, args := #[.func (.yield (w.heap.size + 1)) #[] #[]] }, B, gf, #[.func (.yield (w.heap.size + 1)) #[] #[]] ++ lb, B,
    run_enterLoop_outer _ _ _ _ _, by simp only [resolve, hg]; simp [go_sem], fun f' hf' => by simp [Target.leads] at hf'; subst hf'; exact hFg, by simp [invoke, go_sem, eg], fun _ => h1, ?_⟩
  refine (hseq (w.heap.size + 1) (fun pre W => I pre W ∧ W.heap[w.heap.size + 1]? = some (.loop (R .ready none)) ∧ W.heap[w.heap.size]? = some (.deferred (some [])))
    (fun pre W => Ix pre W ∧ W.heap[w.heap.size + 1]? = some (.loop (R .done (some .ret))) ∧ W.heap[w.heap.size]? = some (.deferred (some []))) B bB ?_ ?_ ?_ ?_ ⟨bI, bL, bD⟩).mono ?_
  · rintro s X Y row ⟨s1, s2, s3⟩ hg' hr
    exact ⟨hI s X Y row s1 hg' (cells (Y := Y) hr), walk hg' hr s2 (by omega), walk hg' hr s3 (by omega)⟩
  · rintro s X Y ⟨s1, s2, s3⟩ hg'
    have q : ∀ {k : Nat} {o : Obj}, w.heap.size ≤ k → X.heap[k]? = some o → Y.heap[k]? = some o := fun hk ho => (hg'.block _ (Array.getElem?_eq_some_iff.1 ho).1 fun e => by have := Option.some.inj e; omega).trans ho
    exact ⟨hIB s X Y s1 hg', q (by omega) s2, q (Nat.le_refl _) s3⟩
  · rintro pre x W ⟨s1, s2, s3⟩ hx
    have hlt : w.heap.size + 1 < W.heap.size := (Array.getElem?_eq_some_iff.1 s2).1
    refine ⟨fn, _, assign, body, run_yield (P := P) (args := encs x) s2 (hps x), roundIn_of_wpIn hfn (hassign _ x W _ ⟨_, run_beginRound s2 rfl, ?_⟩)⟩
    obtain ⟨V, hV⟩ : ∃ V, W.putObj (w.heap.size + 1) (.loop { R .ready none with state := .busy }) = V := ⟨_, rfl⟩
    have v2 : V.heap[w.heap.size + 1]? = some (.loop { R .ready none with state := .busy }) := hV ▸ World.putObj_heap_same hlt
    have v3 : V.heap[w.heap.size]? = some (.deferred (some [])) := hV ▸ (World.putObj_heap_other (by omega)).trans s3
    have vI : I pre V := hV ▸ hI.putObj _ s1 (by omega) s2 rfl
    have vK : Kp W V := hV ▸ hKb _ _ _ _ (by omega) s2 rfl
    show body.wpIn _ _ _ _ _ (W.putObj (w.heap.size + 1) (.loop { R .ready none with state := .busy }))
    rw [hV]
    refine wpIn_mono (hbody _ pre x V vI hx) ?_
    rintro (_ | _ | _ | _ | _ | _) a3 Z hz
    case normal =>
      obtain ⟨z1, z2, z3⟩ := hz
      have l3 := z1.same _ _ (by omega) v2 rfl
      exact ⟨_, _, run_endRound (P := P) none l3, .inl ⟨rfl, ⟨hI.putObj _ z3 (by omega) l3 rfl, World.putObj_heap_same (Array.getElem?_eq_some_iff.1 l3).1, (World.putObj_heap_other (by omega)).trans (z1.same _ _ (Nat.le_refl _) v3 rfl)⟩, hKt (hKt vK z2) (hKb _ _ _ _ (by omega) l3 rfl)⟩⟩
    case ret =>
      obtain ⟨z1, z3⟩ := hz
      have l3 := z1.same _ _ (by omega) v2 rfl
      exact ⟨_, _, run_endRound (P := P) (some .ret) l3, .inr ⟨rfl, hIx.putObj _ z3 (by omega) l3 rfl, World.putObj_heap_same (Array.getElem?_eq_some_iff.1 l3).1, (World.putObj_heap_other (by omega)).trans (z1.same _ _ (Nat.le_refl _) v3 rfl)⟩⟩
    all_goals exact hz.elim
  · rintro s X Y row ⟨s1, s2, s3⟩ hg' hr
    exact ⟨hIx s X Y row s1 hg' (cells (Y := Y) hr), walk hg' hr s2 (by omega), walk hg' hr s3 (by omega)⟩
  · rintro e Z ⟨⟨v, rfl⟩, (⟨xs, hS, z1, z2, z3⟩ | ⟨pre, z1, z2, z3⟩)⟩
    · exact ⟨none, _, run_endLoop (P := P) z2 (by simp [R]), hdone _ xs _ (Nat.le_refl _) hS (hI.putObj _ z1 (by omega) z2 rfl) ((World.putObj_heap_other (by omega)).trans z3)⟩
    · exact ⟨some .ret, _, run_endLoop (P := P) z2 (by simp [R]), hstop _ pre _ (Nat.le_refl _) (hIx.putObj _ z1 (by omega) z2 rfl) ((World.putObj_heap_other (by omega)).trans z3)⟩
end Go.Stops
