/-
  TablePage: the walk over the law.
-/
import Derived.Test.YtipgecdfnbldnaaGreatDoorMCoH
import Derived.Test.YtipgecdfnbldnaaGreatDoorTaX
set_option linter.all false
set_option maxRecDepth 100000
set_option maxHeartbeats 4000000
namespace Go.Proofs.YtipgecdfnbldnaaGreatDoor
open Go.RowKit Go.Shelf
attribute [local go_sem] Oper.semAt_some
theorem entsR_len (page : Int) : ∀ K, (entsR page K).length ≤ K
  | 0 => Nat.le_refl _
  | K + 1 => by
    have ih := entsR_len page K
    unfold entsR
    cases ratT page K with
    | none => exact Nat.le_succ_of_le ih
    | some y => simp; exact ih
def smallR (page : Int) (n : Nat) : Bool := match ratT page n with
  | some x => decide (x.2.1.length ≤ 3)
  | none => true
theorem small_k : ∀ g : Fin 7, ∀ n : Fin 256, smallR (g.val : Int) n.val = true := by decide +kernel
theorem small_all (page : Int) (n : Nat) (hn : n < 256) : smallR page n = true := by
  by_cases hp : 0 ≤ page ∧ page ≤ 6
  · obtain ⟨g, rfl⟩ : ∃ g : Nat, page = (g : Int) := ⟨page.toNat, by omega⟩
    exact small_k ⟨g, by omega⟩ ⟨n, hn⟩
  · unfold smallR
    rw [ratT_no hp]
theorem entsR_small (page : Int) : ∀ K, K ≤ 256 → ∀ y ∈ entsR page K, y.2.2.2.1.length ≤ 3
  | 0, _, y, hy => by cases hy
  | K + 1, hK, y, hy => by
    have ih := entsR_small page K (by omega)
    have hs := small_all page K (by omega)
    unfold smallR at hs
    unfold entsR at hy
    cases hx : ratT page K with
    | none => rw [hx] at hy; exact ih y hy
    | some x =>
      rw [hx] at hy hs
      rcases List.mem_append.1 hy with h | h
      · exact ih y h
      · obtain rfl := List.mem_singleton.1 h
        exact of_decide_eq_true hs
theorem info_intP : (Tryz.prog.info? 3).map (fun i => (i.zero, i.size, i.bytes)) = some (some (.int .i64 0), 1, 8) := by kernel_rfl
def RowN (w : World) (n : Nat) (v : Value) (L : List Int) : Prop := w.ownsRow n 3 1 v L.length (L.map fun z => Value.int .i64 z)
theorem grown_of {w w' : World} (k : Below w.heap.size w w') : w.grownBy w' none := ⟨k.os, k.tape, k.output, k.size, fun i hi _ => k.block i hi⟩
theorem RowN.below {w w' : World} {n : Nat} {v : Value} {L : List Int} (h : RowN w n v L) (k : Below w.heap.size w w') : RowN w' n v L :=
  World.ownsRow.kept h (grown_of k) (by
    cases e : v.ownBlock with
    | none => exact .inl rfl
    | some g => exact .inr (by simp))
theorem RowN.type {w : World} {n : Nat} {v : Value} {L : List Int} (h : RowN w n v L) {g : Nat} (hg : v.ownBlock = some g) : ∃ cur, w.heap[g]? = some (.cells cur 3 (0, 0)) := by
  rcases h.2 with ⟨rfl, _⟩ | ⟨g', cap, cur, rfl, _, h2, _⟩
  · cases hg
  · cases hg
    exact ⟨cur, h2⟩
theorem xr_type {w : World} {n : Nat} {v : Value} {R : List Ee} (h : OwnXR w n v R) {g : Nat} (hg : v.ownBlock = some g) : ∃ cur, w.heap[g]? = some (.cells cur 30 (0, 0)) := by
  rcases h.1.2 with ⟨rfl, _⟩ | ⟨g', cap, cur, rfl, _, h2, _⟩
  · cases hg
  · cases hg
    exact ⟨cur, h2⟩
theorem RowN.other {w w' : World} {n m : Nat} {v u : Value} {L : List Int} {R : List Ee} (h : RowN w n v L) (hu : OwnXR w m u R) (k : w.grownBy w' u.ownBlock) : RowN w' n v L :=
  World.ownsRow.kept h k (by
    cases e : v.ownBlock with
    | none => exact .inl rfl
    | some g =>
      refine .inr fun e' => ?_
      obtain ⟨c1, h1⟩ := h.type e
      obtain ⟨c2, h2⟩ := xr_type hu e'.symm
      rw [h1] at h2
      simp at h2)
theorem xr_other {w w' : World} {n m : Nat} {v u : Value} {L : List Int} {R : List Ee} (h : OwnXR w m u R) (hv : RowN w n v L) (k : w.grownBy w' v.ownBlock) : OwnXR w' m u R :=
  ⟨World.ownsRow.kept h.1 k (by
    cases e : u.ownBlock with
    | none => exact .inl rfl
    | some g =>
      refine .inr fun e' => ?_
      obtain ⟨c1, h1⟩ := xr_type h e
      obtain ⟨c2, h2⟩ := hv.type e'.symm
      rw [h1] at h2
      simp at h2), fun r hr => World.ownsRow.kept (h.2 r hr) k (by
    cases e : r.v.ownBlock with
    | none => exact .inl rfl
    | some g =>
      refine .inr fun e' => ?_
      obtain ⟨c1, h1⟩ := own_types (h.2 r hr) e
      obtain ⟨c2, h2⟩ := hv.type e'.symm
      rw [h1] at h2
      simp at h2)⟩
theorem RowN.ints {w : World} {n : Nat} {v : Value} {L : List Int} (h : RowN w n v L) : ∃ A cap, v = .slice A L.length cap ∧ IntsP w A L := by
  rcases h.2 with ⟨rfl, h0⟩ | ⟨g, cap, cur, rfl, _, _, hle, _⟩
  · have : L = [] := List.eq_nil_of_length_eq_zero h0
    subst this
    exact ⟨none, 0, rfl, .inl rfl⟩
  · refine ⟨_, cap, rfl, .inr ⟨g, 0, rfl, fun j hj => ?_⟩⟩
    rw [Nat.zero_add, World.ownsRow.cellAt h j (by omega)]
    simp [List.getElem?_eq_getElem hj]
theorem run_appN (w : World) (B : Nat) (v : Value) (L : List Int) (h : RowN w B v L) (q : Nat) (y : Int) (hc : w.cell? ⟨q, 0, none⟩ = some (.int .i64 y)) (hB : B ≤ w.heap.size) (hs : L.length ≤ 1000) :
    ∃ A' c' w', (Builtin.append_ #[43, 43] 43 #[v, .slice (some ⟨q, 0, none⟩) 1 1]).run Tryz.prog w = .ok (.slice A' (L.length + 1) c') w' ∧ RowN w' B (.slice A' (L.length + 1) c') (L ++ [y]) ∧ Below B w w' ∧ w.grownBy w' v.ownBlock := by
  obtain ⟨i0, hi, hz0, hz1, hz2⟩ := info_parts info_intP
  obtain ⟨v', w', k1, k2, k3⟩ := run_append_src w B 43 43 3 i0 _ 1 8 Tryz.underlying43 hi hz0 hz1 hz2 rfl (by decide) v L.length _ h (some ⟨q, 0, none⟩) 1 1 [.int .i64 y]
    rfl (.inr ⟨_, rfl, fun j u hj => by
      match j, hj with
      | 0, hj => simp at hj; subst hj; exact hc⟩) (fun u hu => by simp at hu; subst hu; rfl) (by unfold maxLen; omega) (by omega) hB
  have k2' : RowN w' B v' (L ++ [y]) := by
    show w'.ownsRow _ _ _ _ _ _
    rw [List.length_append, List.map_append]
    exact k2
  obtain ⟨A', c', rfl, -⟩ := k2'.ints
  rw [List.length_append] at k1 k2'
  exact ⟨A', c', w', k1, k2', (Below.refl B w).grown k3 hB fun k hk => (World.ownsRow.lt h k hk).1, k3⟩
def pgL (xs : Str) (k : Nat) : List Int := (xs.take k).map fun b => ((b.toNat : Int) % 8)
theorem pgL_succ {xs : Str} {k : Nat} (h : k < xs.length) : pgL xs (k + 1) = pgL xs k ++ [((xs[k].toNat : Int) % 8)] := by
  unfold pgL
  rw [List.take_succ_eq_append_getElem h, List.map_append]
  rfl
theorem pgL_len {xs : Str} {k : Nat} (h : k ≤ xs.length) : (pgL xs k).length = k := by
  unfold pgL
  rw [List.length_map, List.length_take]
  omega
def eAll (L : List Int) : List Ke := L.flatMap fun p => entsR p 256
theorem eAll_snoc (L : List Int) (p : Int) : eAll (L ++ [p]) = eAll L ++ entsR p 256 := by
  unfold eAll
  rw [List.flatMap_append, List.flatMap_cons, List.flatMap_nil, List.append_nil]
theorem eAll_len : ∀ L : List Int, (eAll L).length ≤ 256 * L.length
  | [] => Nat.le_refl _
  | p :: t => by
    have h1 := eAll_len t
    have h2 := entsR_len p 256
    show (entsR p 256 ++ eAll t).length ≤ 256 * (t.length + 1)
    rw [List.length_append]
    omega
theorem eAll_small (L : List Int) : ∀ y ∈ eAll L, y.2.2.2.1.length ≤ 3 := fun y hy => by
  obtain ⟨p, -, hp⟩ := List.mem_flatMap.1 hy
  exact entsR_small p 256 (Nat.le_refl _) y hp
theorem len_keys {R : List Ee} {K : List Ke} (h : R.map Ee.k = K) : R.length = K.length := by rw [← h, List.length_map]
def St (w : World) (B : Nat) (L : List Int) (Al : Option Addr) (cl : Nat) (Aw : Option Addr) (cw : Nat) (R : List Ee) (wr : World) : Prop :=
  RowN wr B (.slice Al L.length cl) L ∧ OwnXR wr B (.slice Aw R.length cw) R ∧ R.map Ee.k = eAll L ∧ Below B w wr
def St2 (w : World) (B : Nat) (L : List Int) (Aw : Option Addr) (cw : Nat) (R : List Ee) (wr : World) : Prop :=
  OwnXR wr B (.slice Aw R.length cw) R ∧ R.map Ee.k = eAll L ∧ Below B w wr
def upL (k : Nat) : List Int := (List.range k).map fun (i : Nat) => (i : Int)
theorem upL_succ (k : Nat) : upL (k + 1) = upL k ++ [(k : Int)] := by
  unfold upL
  rw [List.range_succ, List.map_append]
  rfl
theorem upL_len (k : Nat) : (upL k).length = k := by unfold upL; rw [List.length_map, List.length_range]
theorem upL_7 : upL 7 = pagesL [] := by decide
theorem fin_eq {w7 : World} {B n : Nat} {A1 Aw : Option Addr} {c1 cw : Nat} {R1 R : List Ee} {K : List Ke} (hO1 : OwnXT w7 n (.slice A1 R1.length c1) R1) (hK1 : R1.map Ee.k = K) (X : OwnXR w7 B (.slice Aw R.length cw) R) (hK : R.map Ee.k = K) (hs : ∀ y ∈ K, y.2.2.2.1.length ≤ 3) (hl : K.length ≤ 10000) :
    R1.length = R.length ∧ Calls Tryz.prog 17 #[.slice A1 R1.length c1, .slice Aw R.length cw, .func (.func 19) #[] #[]] w7 fun e w' => e = .returned (.bool true) ∧ Below w7.heap.size w7 w' := by
  obtain ⟨A', c', hv, hE1, -⟩ := hO1.es
  cases hv
  obtain ⟨A', c', hv, hE, -⟩ := X.es
  cases hv
  refine ⟨by rw [len_keys hK1, len_keys hK], equalF_any _ (enters_of Tryz.func19 (by kernel_rfl) rfl) same_page _ _ _ _ R1 R (hK1.trans hK.symm) (fun r hr => ?_) (by rw [len_keys hK1]; omega) w7 hE1 hE⟩
  have h1 : r.k ∈ K := hK1 ▸ List.mem_map_of_mem hr
  exact Nat.le_trans (hs _ h1) (by decide)
end Go.Proofs.YtipgecdfnbldnaaGreatDoor
