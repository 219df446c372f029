/-
  A loop over a function in a plain loop: the iterator has loops over functions of its own (it takes its deferred calls at its end), the loop's frame may have deferred records already.
  No program of its own: laws over any program.
-/
import Derived.Test.YtipgecdfnbldnaaGreatDoorBaA
import Derived.RangeFuncNested
import Derived.RangeFuncKeeps
import Derived.RangeFuncLeaves
set_option linter.all false
set_option maxRecDepth 100000
set_option maxHeartbeats 4000000
namespace Go.Each
open Go Go.RowKit
def GivesO {α : Type} (F : Fence) (n : Nat) (P : Program) (g : Nat) (lb : Array Value) (encs : α → Array Value) (E : α → World → Prop) (Kp : World → World → Prop) (S : List α → Prop) (N : Nat) (w : World) : Prop :=
  ∀ (l : Nat) (J : List α → World → Prop) (W : World), Below w.heap.size w W → OwnFrom W.heap.size J →
    (∀ pre x W1, J pre W1 → E x W1 → pre.length < N → YieldAt F (n - 1) P l (encs x) W1 fun e W' => e = .returned (.bool true) ∧ J (pre ++ [x]) W' ∧ Kp W1 W') →
    J [] W → CallsIn F n P g (#[.func (.yield l) #[] #[]] ++ lb) W fun e W' => (∃ v, e = .returned v) ∧ ∃ xs, S xs ∧ J xs W'
variable {F : Fence} {n : Nat} {P : Program}
theorem wpIn_eachO {α : Type} {g : Operand} {ps : Array Tmp} {assign body : Code} {Q : Exit → Act → World → Prop} {a : Act} {w : World} (hro : F.round = none) (h1 : 1 ≤ n)
    {gf : Nat} {lb : Array Value} (hg : a.eval g = .func (.func gf) #[] lb) (hFg : F.fn gf) (eg : ∀ args w, (callFunc gf args).run P w = .ok (.enter gf args) w)
    {encs : α → Array Value} {E : α → World → Prop} {Kp : World → World → Prop} {S : List α → Prop} {N : Nat} (hseq : GivesO F (n - 1) P gf lb encs E Kp S N w)
    (hKt : ∀ {A B C : World}, Kp A B → Kp B C → Kp A C) (hKb : ∀ (W : World) (l : Nat) (r r' : Loop), w.heap.size ≤ l → W.heap[l]? = some (.loop r) → Kp W (W.putObj l (.loop r'))) (hps : ∀ x, (encs x).size = ps.size)
    (I : List α → World → Prop) (hI : OwnFrom w.heap.size I) (h0 : I [] w) (Ax : α → Act → World → Prop) (hAx : ∀ x, OwnFrom w.heap.size (Ax x))
    (hassign : ∀ (l : Nat) (pre : List α) (x : α) (W : World) (K : Act → World → Prop), I pre W → E x W → (∀ a' W', KeepsFrom w.heap.size W W' → Kp W W' → I pre W' → Ax x a' W' → K a' W') →
      assign.wpIn (F.inRound l) (n - 1 - 1) P (Exit.then K (fun _ _ _ => False)) { tmps := (ps.zip (encs x)).foldl (fun t (p, v) => t.setIfInBounds p v) a.tmps, defers := [] } W)
    (hbody : ∀ (l : Nat) (pre : List α) (x : α) (a' : Act) (W : World), I pre W → Ax x a' W → pre.length < N → body.wpIn (F.inRound l) (n - 1 - 1) P (goesOn fun W' => KeepsFrom w.heap.size W W' ∧ Kp W W' ∧ I (pre ++ [x]) W') a' W)
    (hdone : ∀ (D : Nat) (xs : List α) (W : World), w.heap.size ≤ D → S xs → I xs W → W.heap[D]? = some (.deferred (some [])) → Q .normal { a with defers := { target := .collected D, args := #[] } :: a.defers } W) :
    (Code.rangeFunc g ps assign body).wpIn F n P Q a w := by
  refine wpIn_rangeFunc fun fn hfn => ?_
  rw [hro]
  -- the loop's record, ready or busy; the block of the rounds' deferred calls lies in front of it
  let R : LoopState → Loop := fun st => { state := st, pending := none, fn := fn, tmps := a.tmps, params := ps, assign := assign, body := body, defers := w.heap.size }
  let B : World := (w.alloc (.deferred (some []))).alloc (.loop (R .ready))
  have bD : B.heap[w.heap.size]? = some (.deferred (some [])) := (Below.heap_alloc _ _ _ (by simp)).trans (World.alloc_heap_new w _)
  have bL : B.heap[w.heap.size + 1]? = some (.loop (R .ready)) := by
    have h := World.alloc_heap_new (w.alloc (.deferred (some []))) (.loop (R .ready))
    rwa [World.size_alloc] at h
  have bI : I [] B := hI.alloc _ (hI.alloc _ h0)
  have bB : Below w.heap.size w B := ((Below.refl _ w).alloc (Nat.le_refl _) _).alloc (by simp) _
  have bz : B.heap.size = w.heap.size + 1 + 1 := by simp [B]
  refine ⟨w.heap.size + 1, [{ target := .collected w.heap.size, args := #[] }], B, { target := .fn (.func gf) lb, args := #[.func (.yield (w.heap.size + 1)) #[] #[]] }, B, gf, #[.func (.yield (w.heap.size + 1)) #[] #[]] ++ lb, B,
    run_enterLoop_outer _ _ _ _ _, by simp only [resolve, hg]; simp [go_sem], fun f' hf' => by simp [Target.leads] at hf'; subst hf'; exact hFg, by simp [invoke, go_sem, eg], fun _ => h1, ?_⟩
  -- what the caller keeps, the record and the block beside it
  refine (hseq (w.heap.size + 1) (fun pre W => I pre W ∧ W.heap[w.heap.size + 1]? = some (.loop (R .ready)) ∧ W.heap[w.heap.size]? = some (.deferred (some []))) B bB ?_ ?_ ⟨bI, bL, bD⟩).mono ?_
  · rintro s X Y row ⟨s1, s2, s3⟩ hg' hr
    have hne : ∀ k, k < B.heap.size → some k ≠ row := fun k hk e => by have := (hr k e.symm).1; omega
    refine ⟨hI s X Y row s1 hg' fun r e => ?_, (hg'.block _ (Array.getElem?_eq_some_iff.1 s2).1 (hne _ (by omega))).trans s2, (hg'.block _ (Array.getElem?_eq_some_iff.1 s3).1 (hne _ (by omega))).trans s3⟩
    obtain ⟨k1, o, k2, k3⟩ := hr r e
    exact ⟨by omega, o, k2, k3⟩
  · rintro pre x W ⟨s1, s2, s3⟩ hx hlen
    have hlt : w.heap.size + 1 < W.heap.size := (Array.getElem?_eq_some_iff.1 s2).1
    refine ⟨fn, _, assign, body, run_yield (P := P) (args := encs x) s2 (hps x), roundIn_of_wpIn hfn (hassign _ pre x W _ s1 hx fun a' U u1 uK uI uA => ?_)⟩
    have u2 := u1.same _ _ (by omega) s2 rfl
    have u3 := u1.same _ _ (Nat.le_refl _) s3 rfl
    have hlu : w.heap.size + 1 < U.heap.size := (Array.getElem?_eq_some_iff.1 u2).1
    refine ⟨_, run_beginRound u2 rfl, ?_⟩
    obtain ⟨V, hV⟩ : ∃ V, U.putObj (w.heap.size + 1) (.loop { R .ready with state := .busy }) = V := ⟨_, rfl⟩
    have v2 : V.heap[w.heap.size + 1]? = some (.loop { R .ready with state := .busy }) := hV ▸ World.putObj_heap_same hlu
    have v3 : V.heap[w.heap.size]? = some (.deferred (some [])) := hV ▸ (World.putObj_heap_other (by omega)).trans u3
    have vI : I pre V := hV ▸ hI.putObj _ uI (by omega) u2 rfl
    have vE : Ax x a' V := hV ▸ (hAx x).putObj _ uA (by omega) u2 rfl
    have vK : Kp W V := hKt uK (hV ▸ hKb _ _ _ _ (by omega) u2)
    show body.wpIn _ _ _ _ _ (U.putObj (w.heap.size + 1) (.loop { R .ready with state := .busy }))
    rw [hV]
    refine wpIn_mono (hbody _ pre x a' V vI vE hlen) ?_
    rintro (_ | _ | _ | _ | _ | _) a3 Z hz
    case normal =>
      obtain ⟨z1, z2, z3⟩ := hz
      have l3 := z1.same _ _ (by omega) v2 rfl
      refine ⟨_, _, run_endRound (P := P) none l3, rfl, ⟨hI.putObj _ z3 (by omega) l3 rfl, World.putObj_heap_same (Array.getElem?_eq_some_iff.1 l3).1, (World.putObj_heap_other (by omega)).trans (z1.same _ _ (Nat.le_refl _) v3 rfl)⟩, hKt (hKt vK z2) (hKb _ _ _ _ (by omega) l3)⟩
    all_goals exact hz.elim
  · rintro e Z ⟨⟨v, rfl⟩, xs, hS, z1, z2, z3⟩
    exact ⟨none, _, run_endLoop (P := P) z2 (by simp [R]), hdone _ xs _ (Nat.le_refl _) hS (hI.putObj _ z1 (by omega) z2 rfl) ((World.putObj_heap_other (by omega)).trans z3)⟩
def marks (Ds : List Nat) : List Deferred := Ds.map fun D => { target := .collected D, args := #[] }
theorem leaves_all {fn : Func} {tmps : Array Value} {R : Ending → World → Prop} (I : World → Prop) (ok : Nat → Prop) (hI : ∀ w D, ok D → I w → w.heap[D]? = some (.deferred (some [])) → I (w.putObj D (.deferred none))) : ∀ (Ds : List Nat) (w : World), Ds.Nodup → (∀ D ∈ Ds, ok D ∧ w.heap[D]? = some (.deferred (some []))) → I w →
    (∀ w', I w' → LeavesInM F n P fn tmps R [] .returning w') → LeavesInM F n P fn tmps R (marks Ds) .returning w
  | [], w, _, _, h, k => k w h
  | D :: Ds, w, hnd, hD, h, k => by
    obtain ⟨h0, h1⟩ := hD D (by simp)
    refine ⟨by simp, .inl ⟨D, _, rfl, run_takeDeferred h1, ?_⟩⟩
    refine leaves_all I ok hI Ds _ (List.nodup_cons.1 hnd).2 (fun E hE => ⟨(hD E (List.mem_cons_of_mem _ hE)).1, ?_⟩) (hI w D h0 h h1) k
    have hne : E ≠ D := fun e => (List.nodup_cons.1 hnd).1 (e ▸ hE)
    exact (World.putObj_heap_other (by omega)).trans (hD E (List.mem_cons_of_mem _ hE)).2
end Go.Each
