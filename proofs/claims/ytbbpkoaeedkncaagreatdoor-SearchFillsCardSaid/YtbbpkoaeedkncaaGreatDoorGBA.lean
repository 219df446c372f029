/-
  MixT, SeG.
-/
import Derived.Test.YtbbpkoaeedkncaaGreatDoorGAA
import Derived.Test.YtbbpkoaeedkncaaGreatDoorGAW
import Derived.Test.YtbbpkoaeedkncaaGreatDoorGAG
set_option linter.all false
set_option maxRecDepth 100000
set_option maxHeartbeats 4000000
namespace Go.Mixed
open Go
inductive Ord where
  | done : Ord
  | pure : Nat → Ord → Ord
  | one : Nat → Ord → Ord
  | two : Nat → Ord → Nat → Ord → Ord
section
variable {P : Program} {ops : Array Oper} {md : Region.Mode}
def Ord.len : Ord → Nat
  | .done => 0
  | .pure _ t => t.len + 1
  | .one _ t => t.len + 1
  | .two _ t _ _ => t.len + 1
def ordT (md : Region.Mode) (ops : Array Oper) (n g : Nat) : Ord → Array Bool → Bool
  | .done, listed => Region.seqB md ops g n listed
  | .pure k r, listed => (Region.ready md ops listed).contains k && decide (k < n) && Region.free md ops listed k && ordT md ops n g r (listed.setIfInBounds k true)
  | .one k r, listed => decide (Region.ready md ops listed = [k]) && decide (k < n) && ordT md ops n g r (listed.setIfInBounds k true)
  | .two k r k2 r2, listed => decide (Region.ready md ops listed = [k, k2]) && decide (k < n) && decide (k2 < n) && decide (r2.len = r.len) && ordT md ops n g r (listed.setIfInBounds k true) && ordT md ops n g r2 (listed.setIfInBounds k2 true)
def mixedT (md : Region.Mode) (ops : Array Oper) (n : Nat) (ord : Ord) : Bool :=
  Region.noSelect ops && decide (n < ops.size) && decide (ord.len + (ops.size - n) = ops.size) && Region.sinkB md ops n && Region.chainB md ops n && ordT md ops n (ops.size - n) ord (Array.replicate ops.size false)
def wpMixT (P : Program) (ops : Array Oper) (C : World → Prop) (T : Act → World → Prop) : Ord → Act → World → Prop
  | .done, a, w => T a w
  | .pure k r, a, w => match ops[k]? with
    | none => False
    | some o => ∃ v, Pure P ops C o v a ∧ wpMixT P ops C T r (a.put o.dst v) w
  | .one k r, a, w => wpOp P ops QF k (fun a' w' => C w' ∧ wpMixT P ops C T r a' w') a w
  | .two k r k2 r2, a, w => wpOp P ops QF k (fun a' w' => C w' ∧ wpMixT P ops C T r a' w') a w ∧ wpOp P ops QF k2 (fun a' w' => C w' ∧ wpMixT P ops C T r2 a' w') a w
theorem wpAnyC_ordT {C : World → Prop} {n g : Nat} {T : Act → World → Prop} (hsel : Region.noSelect ops = true) (hs : Region.sinkB md ops n = true) (hc : Region.chainB md ops n = true) (hn : n < ops.size) :
    ∀ (ord : Ord) (listed : Array Bool) (a : Act) (w : World), HeadInv md ops n listed → ordT md ops n g ord listed = true → C w → wpMixT P ops C T ord a w →
    wpAnyC P md ops n C (fun listed' a' w' => Region.seqB md ops g n listed' = true ∧ T a' w') ord.len listed a w
  | .done, listed, a, w, _, hB, hC, h => ⟨hC, hB, h⟩
  | .pure k r, listed, a, w, inv, hB, hC, h => by
    simp only [ordT, Bool.and_eq_true, decide_eq_true_eq] at hB
    obtain ⟨⟨⟨hr, hk⟩, hf⟩, hB'⟩ := hB
    have hr' : k ∈ Region.ready md ops listed := by simpa using hr
    simp only [wpMixT] at h
    cases ho : ops[k]? with
    | none => rw [ho] at h; exact h.elim
    | some o =>
      rw [ho] at h
      obtain ⟨v, hv, hK⟩ := h
      exact wpAnyC_first ho (Region.noSelect_spec hsel) hs hc hn hk (fun listed' a' w' hL => seqB_ready hL.1) r.len listed a w inv (Region.free_spec ho hf) hr' hv hC
        (wpAnyC_ordT hsel hs hc hn r _ _ w (inv.set hr' hk) hB' hC hK)
  | .one k r, listed, a, w, inv, hB, hC, h => by
    simp only [ordT, Bool.and_eq_true, decide_eq_true_eq] at hB
    obtain ⟨⟨hr, hk⟩, hB'⟩ := hB
    simp only [wpMixT] at h
    have hne : Region.ready md ops listed ≠ [] := by rw [hr]; exact List.cons_ne_nil _ _
    refine ⟨hC, hne, fun i hi => ?_⟩
    rw [hr] at hi
    have hik : i = k := by simpa using hi
    subst hik
    refine ⟨hk, wpOp_QF (fun a' w' h' => ?_) h⟩
    exact wpAnyC_ordT hsel hs hc hn r _ a' w' (inv.set (by rw [hr]; exact List.mem_singleton.2 rfl) hk) hB' h'.1 h'.2
  | .two k r k2 r2, listed, a, w, inv, hB, hC, h => by
    simp only [ordT, Bool.and_eq_true, decide_eq_true_eq] at hB
    obtain ⟨⟨⟨⟨⟨hr, hk⟩, hk2⟩, hlen⟩, hB1⟩, hB2⟩ := hB
    simp only [wpMixT] at h
    have hne : Region.ready md ops listed ≠ [] := by rw [hr]; exact List.cons_ne_nil _ _
    refine ⟨hC, hne, fun i hi => ?_⟩
    have hi0 := hi
    rw [hr] at hi
    have hik : i = k ∨ i = k2 := by simpa using hi
    rcases hik with rfl | rfl
    · refine ⟨hk, wpOp_QF (fun a' w' h' => ?_) h.1⟩
      exact wpAnyC_ordT hsel hs hc hn r _ a' w' (inv.set hi0 hk) hB1 h'.1 h'.2
    · refine ⟨hk2, wpOp_QF (fun a' w' h' => ?_) h.2⟩
      have := wpAnyC_ordT hsel hs hc hn r2 _ a' w' (inv.set hi0 hk2) hB2 h'.1 h'.2
      rwa [hlen] at this
theorem wp_region_mixedT {id : Nat} {Q : Exit → Act → World → Prop} {a : Act} {w : World} {l : List Oper} (C : World → Prop) (n : Nat) (ord : Ord) (hm : P.follows .mixedOrders = true) (hB : mixedT .any l.toArray n ord = true)
    (hC : C w.drew) (h : wpMixT P l.toArray C (fun a' w' => wpList P l.toArray Q (l.drop n) a' w') ord a w.drew) : (Code.region id l.toArray true).wp P Q a w := by
  simp only [mixedT, Bool.and_eq_true, decide_eq_true_eq] at hB
  obtain ⟨⟨⟨⟨⟨hsel, hn⟩, hlen⟩, hs⟩, hc⟩, hord⟩ := hB
  have hdl : (l.drop n).length = l.toArray.size - n := by simp
  have inv0 : HeadInv .any l.toArray n (Array.replicate l.toArray.size false) :=
    ⟨by simp, fun j oj _ hl => (by rw [getD_replicate_false] at hl; cases hl), fun t _ ht => getD_in (by simpa using ht) (getD_replicate_false _ _)⟩
  have H := wpAnyC_ordT hsel hs hc hn ord _ a w.drew inv0 hord hC h
  refine wp_region_any hm ?_
  have := wpAny_of_headC (Q' := Q) (g := l.toArray.size - n) (fun listed a' w' hL => by
    have := wpAny_of_seq (md := .any) (Q' := Q) (l.drop n) n listed a' w' (fun j => by simp [List.getElem?_drop]) (by rw [hdl]; exact hL.1) hL.2
    rwa [hdl] at this) _ _ _ _ H
  rw [hlen] at this
  exact this
theorem wpMixT_pure {C : World → Prop} {T : Act → World → Prop} {k : Nat} {r : Ord} {a : Act} {w : World} {o : Oper} (ho : ops[k]? = some o) (hw : Region.wanted o (yielded ops a.tmps) = true) (v : Value)
    (hv : ∀ w, C w → (execOp a.eval o).run P w = .ok (.value v) w) (h : wpMixT P ops C T r (a.put o.dst v) w) : wpMixT P ops C T (.pure k r) a w := by
  simp only [wpMixT, ho]
  exact ⟨v, .inl ⟨hw, hv⟩, h⟩
theorem wpOp_loudT {K : Act → World → Prop} {k : Nat} {a : Act} {w : World} {o : Oper} (ho : ops[k]? = some o) (hw : Region.wanted o (yielded ops a.tmps) = true) (h : wpList P ops (QK K) [{ o with guard := none }] a w) : wpOp P ops QF k K a w := by
  unfold wpOp
  simp only [ho, hw, if_true]
  have hw2 : Region.wanted { o with guard := none } (yielded ops a.tmps) = true := rfl
  simp only [wpList, hw2, if_true] at h
  rcases h with h | h
  · exact .inl (upon_QK h)
  · exact absurd h.2 (not_letsOut_QK _)
theorem wpMixT_loud {C : World → Prop} {T : Act → World → Prop} {k : Nat} {r : Ord} {a : Act} {w : World} {o : Oper} (ho : ops[k]? = some o) (hw : Region.wanted o (yielded ops a.tmps) = true) (h : wpList P ops (QK fun a' w' => C w' ∧ wpMixT P ops C T r a' w') [{ o with guard := none }] a w) :
    wpMixT P ops C T (.one k r) a w := by
  simp only [wpMixT]
  exact wpOp_loudT ho hw h
theorem wpMixT_both {C : World → Prop} {T : Act → World → Prop} {k k2 : Nat} {r r2 : Ord} {a : Act} {w : World} {o o2 : Oper} (ho : ops[k]? = some o) (hw : Region.wanted o (yielded ops a.tmps) = true) (ho2 : ops[k2]? = some o2) (hw2 : Region.wanted o2 (yielded ops a.tmps) = true)
    (h : wpList P ops (QK fun a' w' => C w' ∧ wpMixT P ops C T r a' w') [{ o with guard := none }] a w) (h2 : wpList P ops (QK fun a' w' => C w' ∧ wpMixT P ops C T r2 a' w') [{ o2 with guard := none }] a w) :
    wpMixT P ops C T (.two k r k2 r2) a w := by
  simp only [wpMixT]
  exact ⟨wpOp_loudT ho hw h, wpOp_loudT ho2 hw2 h2⟩
end
end Go.Mixed
namespace Go.Proofs.YtbbpkoaeedkncaaGreatDoor
open Go.RowKit Go.Shelf
attribute [local go_sem] Oper.semAt_some
attribute [local irreducible] Go.Mixed.wpMixT
attribute [local irreducible] Go.Mixed.wpMix
theorem isame2_any (s1 s2 : ByteArray) (A1 A2 : Option Addr) (c1 c2 n1 n2 : Nat) (L1 L2 : List Tr) (hn1 : L1.length = n1) (hn2 : L2.length = n2) (h1 : n1 ≤ 1000) (h2 : n2 ≤ 1000) (w : World) (H1 : OpsP w A1 L1) (H2 : OpsP w A2 L2) :
    Calls Tryz.prog 69 #[.agg #[.string s1, .slice A1 n1 c1], .agg #[.string s2, .slice A2 n2 c2]] w fun e w' => e = .returned (.bool (decide (s1 = s2) && decide (L1 = L2))) ∧ Below w.heap.size w w' := by
  have hal : Below w.heap.size w ((w.alloc (.cells #[.string s1, .slice A1 n1 c1] 24)).alloc (.cells #[.string s2, .slice A2 n2 c2] 24)) := ((Below.refl _ _).alloc (Nat.le_refl _) _).alloc (by simp) _
  have eq := equalO_any A1 A2 c1 c2 L1 L2 (by unfold maxLen; omega) (by unfold maxLen; omega) _ (H1.below hal) (H2.below hal)
  rw [hn1, hn2] at eq
  have EQ := Lib.hid eq
  have B0 := Lib.hid hal
  obtain ⟨b, hb⟩ : ∃ b, decide (L1 = L2) = b := ⟨_, rfl⟩
  rw [hb] at EQ
  rw [hb]
  clear H1 H2 hal hn1 hn2 hb eq
  by_cases hs : s1 = s2
  · subst hs
    have hq := strB_eq s1
    rw [decide_eq_true rfl, Bool.true_and]
    go_enter Tryz.func69, Tryz.ntmps69
    go_wp2_with fail
    refine EQ.out.mono ?_
    rintro e w1 ⟨rfl, hb⟩
    have B1 := Lib.hid (B0.out.trans (hb.mono B0.out.size))
    clear hb
    go_wp2
    go_ret
    exact ⟨rfl, B1.out⟩
  · have hq := strB_ne hs
    rw [decide_eq_false hs, Bool.false_and]
    clear hs EQ
    go_enter Tryz.func69, Tryz.ntmps69
    go_wp2
    go_ret
    exact ⟨rfl, B0.out⟩
theorem OpsP.put_ins {w : World} {A : Option Addr} {L : List Tr} (h : OpsP w A L) {c : Nat} {s : ByteArray} {Ai : Option Addr} {n cap : Nat} (hc : w.heap[c]? = some (.cells #[.string s, .slice Ai n cap] 24 (0, 0))) (j : Nat) (u : Value) : OpsP (w.setCell ⟨c, j, none⟩ u) A L := by
  rcases h with rfl | ⟨g, off, rfl, hh⟩
  · exact .inl rfl
  · refine .inr ⟨g, off, rfl, fun k hk => ?_⟩
    obtain ⟨h1, h2, h3⟩ := hh k hk
    have hne : g ≠ c := by
      rintro rfl
      rw [Lib.cell_of_heap hc] at h1
      have h9 := (Array.getElem?_eq_some_iff.1 h1).1
      have : off + k * 3 = 0 ∨ off + k * 3 = 1 := by simp at h9; omega
      rcases this with e | e
      · rw [e] at h1; cases h1
      · rw [e] at h1; cases h1
    have e : ∀ (p : Nat) (v : Value), w.cell? ⟨g, p, none⟩ = some v → (w.setCell ⟨c, j, none⟩ u).cell? ⟨g, p, none⟩ = some v := fun p v hp => (World.cell?_of_block (a := ⟨g, p, none⟩) (heap_setCell_other w ⟨c, j, none⟩ g u hne)).trans hp
    exact ⟨e _ _ h1, e _ _ h2, e _ _ h3⟩
end Go.Proofs.YtbbpkoaeedkncaaGreatDoor
