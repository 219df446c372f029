/-
  The walk over canon.All: the canonical forms in a new row, each with operands of its own.
-/
import Derived.Test.YtbmgfkbgfgknbaaLsA
import Derived.Test.YtbmgfkbgfgknbaaCnO
import Derived.Laws.MakeOwn
namespace Go.Proofs.Ytbmgfkbgfgknbaa
open Go.RowKit
set_option linter.unusedVariables false

theorem blk_at (R : List Ie) (k : Nat) (h : k < R.length) : R[k]! = R[k] := getElem!_pos R k h
def upV (vs : Nat → Value) (k : Nat) (v : Value) : Nat → Value := fun j => if j = k then v else vs j
theorem upV_same (vs : Nat → Value) (k : Nat) (v : Value) : upV vs k v k = v := if_pos rfl
theorem upV_other (vs : Nat → Value) (k : Nat) (v : Value) (j : Nat) (h : ¬ j = k) : upV vs k v j = vs j := if_neg h
def canE (r : Ie) : List Tr := canL (opc r.s) r.L
def RowE (w : World) (rb n : Nat) (R : List Ie) (vs : Nat → Value) (k : Nat) : Prop :=
  ∃ cur, w.heap[rb]? = some (.cells cur 24 (0, 0)) ∧ cur.size = n * 2 ∧ ∀ j, j < k → ∀ h : j < R.length, cur[j * 2]? = some (.string R[j].s) ∧ cur[j * 2 + 1]? = some (vs j)
def OwnV (w : World) (B : Nat) (R : List Ie) (vs : Nat → Value) (k : Nat) : Prop := ∀ j, j < k → ∀ h : j < R.length, OwnS w B (vs j) (canE R[j])
def DisV (vs : Nat → Value) (k : Nat) : Prop := ∀ j j' g, j < j' → j' < k → (vs j).ownBlock = some g → (vs j').ownBlock ≠ some g
theorem OwnS.blk {w : World} {n : Nat} {v : Value} {L : List Tr} (h : OwnS w n v L) (g : Nat) (hg : v.ownBlock = some g) : n ≤ g ∧ g < w.heap.size := by
  rcases h with ⟨rfl, _⟩ | ⟨g', off, cap, rfl, h2, h3, h4⟩
  · simp [Value.ownBlock] at hg
  · simp only [Value.ownBlock, Option.some.injEq] at hg
    subst hg
    exact ⟨h4.1, h4.lt⟩
theorem RowE.below {w w' : World} {rb n k : Nat} {R : List Ie} {vs : Nat → Value} (h : RowE w rb n R vs k) (hb : Below w.heap.size w w') : RowE w' rb n R vs k := by
  obtain ⟨cur, hc, h1, h2⟩ := h
  exact ⟨cur, (hb.block _ (Array.getElem?_eq_some_iff.1 hc).1).trans hc, h1, h2⟩
theorem OwnV.below {w w' : World} {B k : Nat} {R : List Ie} {vs : Nat → Value} (h : OwnV w B R vs k) (hb : Below w.heap.size w w') : OwnV w' B R vs k := fun j hj hl => (h j hj hl).below hb
theorem RowE.lt {w : World} {rb n k : Nat} {R : List Ie} {vs : Nat → Value} (h : RowE w rb n R vs k) : rb < w.heap.size := by
  obtain ⟨cur, hc, -, -⟩ := h
  exact (Array.getElem?_eq_some_iff.1 hc).1
theorem RowE.cells {w : World} {rb n k : Nat} {R : List Ie} {vs : Nat → Value} (h : RowE w rb n R vs k) (j : Nat) (hj : j < n) : (∃ x, w.cell? ⟨rb, j * 2, none⟩ = some x) ∧ (∃ x, w.cell? ⟨rb, j * 2 + 1, none⟩ = some x) ∧ w.frozen? ⟨rb, j * 2, none⟩ = false ∧ w.frozen? ⟨rb, j * 2 + 1, none⟩ = false := by
  obtain ⟨cur, hc, h1, -⟩ := h
  refine ⟨⟨cur[j * 2]'(by omega), ?_⟩, ⟨cur[j * 2 + 1]'(by omega), ?_⟩, Lib.frozen_of_heap hc _, Lib.frozen_of_heap hc _⟩
  · rw [Lib.cell_of_heap hc]; exact Array.getElem?_eq_getElem _
  · rw [Lib.cell_of_heap hc]; exact Array.getElem?_eq_getElem _
theorem RowE.put {w : World} {rb n k : Nat} {R : List Ie} {vs : Nat → Value} (h : RowE w rb n R vs k) (hk : k < R.length) (hn : k < n) (v : Value) :
    RowE ((w.setCell ⟨rb, k * 2, none⟩ (.string R[k].s)).setCell ⟨rb, k * 2 + 1, none⟩ v) rb n R (upV vs k v) (k + 1) := by
  obtain ⟨cur, hc, h1, h2⟩ := h
  have e1 := heap_setCell_same w rb (k * 2) _ _ (.string R[k].s) hc
  have e2 := heap_setCell_same _ rb (k * 2 + 1) _ _ v e1
  refine ⟨_, e2, by simp [h1], fun j hj hl => ?_⟩
  by_cases e : j = k
  · subst e
    rw [upV_same]
    constructor
    · rw [Array.getElem?_setIfInBounds, if_neg (by omega), Array.getElem?_setIfInBounds, if_pos rfl, if_pos (by omega)]
    · rw [Array.getElem?_setIfInBounds, if_pos rfl, if_pos (by simp; omega)]
  · rw [upV_other _ _ _ _ e]
    obtain ⟨h3, h4⟩ := h2 j (by omega) hl
    constructor
    · rw [Array.getElem?_setIfInBounds, if_neg (by omega), Array.getElem?_setIfInBounds, if_neg (by omega)]; exact h3
    · rw [Array.getElem?_setIfInBounds, if_neg (by omega), Array.getElem?_setIfInBounds, if_neg (by omega)]; exact h4
theorem OwnV.put {w : World} {B k rb : Nat} {R : List Ie} {vs : Nat → Value} (h : OwnV w B R vs k) (hk : k < R.length) (hrb : rb < B) (x y : Value) (i i' : Nat) (v : Value) (hv : OwnS w B v (canE R[k])) :
    OwnV ((w.setCell ⟨rb, i, none⟩ x).setCell ⟨rb, i', none⟩ y) B R (upV vs k v) (k + 1) := fun j hj hl => by
  by_cases e : j = k
  · subst e
    rw [upV_same]
    exact (hv.low ⟨rb, i, none⟩ hrb _).low ⟨rb, i', none⟩ hrb _
  · rw [upV_other _ _ _ _ e]
    exact ((h j (by omega) hl).low ⟨rb, i, none⟩ hrb _).low ⟨rb, i', none⟩ hrb _
theorem DisV.put {w : World} {B k m : Nat} {R : List Ie} {vs : Nat → Value} {v : Value} {L : List Tr} (h : DisV vs k) (hl : k ≤ R.length) (ho : OwnV w B R vs k) (hs : w.heap.size ≤ m) (w2 : World) (hv : OwnS w2 m v L) : DisV (upV vs k v) (k + 1) := fun j j' g hj hj' hg hg' => by
  have hjk : ¬ j = k := by omega
  rw [upV_other _ _ _ _ hjk] at hg
  by_cases e : j' = k
  · subst e
    rw [upV_same] at hg'
    have h1 := (ho j hj (by omega)).blk g hg
    have h2 := hv.blk g hg'
    omega
  · rw [upV_other _ _ _ _ e] at hg'
    exact h j j' g hj (by omega) hg hg'
set_option maxRecDepth 100000 in
set_option maxHeartbeats 4000000 in
theorem all_any (A : Option Addr) (cap : Nat) (R : List Ie) (hR : R.length ≤ 1000) (hL : ∀ r ∈ R, r.L.length ≤ 900) (w : World) (H : InsP w A R) :
    Calls Try.prog 12 #[.slice A R.length cap] w fun e w' => e = .returned (.slice (some ⟨w.heap.size, 0, none⟩) R.length R.length) ∧
      ∃ vs, RowE w' w.heap.size R.length R vs R.length ∧ OwnV w' (w.heap.size + 1) R vs R.length ∧ DisV vs R.length ∧ Below w.heap.size w w' := by
  have X := Lib.hid H
  have HL := Lib.hid hL
  obtain ⟨i0, hi, hz0, hz1, hz2⟩ := info_parts info_ins
  have hmk : ∀ w, (Instr.makeSlice 30 (.int .i64 (R.length : Int)) (.int .i64 (R.length : Int))).run Try.prog w = .ok (.slice (some ⟨w.heap.size, 0, none⟩) R.length R.length) (w.alloc (.cells (madeCells (Value.agg #[.string ⟨#[]⟩, .slice none 0 0]).cells (R.length * 2)) 24)) := fun w => by
    have h := run_make (P := Try.prog) w 30 24 i0 _ Try.underlying30 hi hz0 .i64 .i64 R.length R.length (by omega) (Int.le_refl _) (by rw [hz2]; omega) (by omega)
    rw [hz1] at h
    simpa using h
  obtain ⟨CUR, hCUR⟩ : ∃ CUR, madeCells (Value.agg #[.string ⟨#[]⟩, .slice none 0 0]).cells (R.length * 2) = CUR := ⟨_, rfl⟩
  have hcs : CUR.size = R.length * 2 := by rw [← hCUR]; exact size_madeCells _ _
  rw [hCUR] at hmk
  have R0 : Hid (RowE (w.alloc (.cells CUR 24)) w.heap.size R.length R (fun _ => undef) 0) := ⟨CUR, heap_alloc_new w _, hcs, fun j hj => by omega⟩
  have B0 : Hid (Below w.heap.size w (w.alloc (.cells CUR 24))) := (Below.refl _ _).alloc (Nat.le_refl _) _
  obtain ⟨n, hn⟩ : ∃ n, R.length = n := ⟨_, rfl⟩
  have HN := Lib.hid hn
  rw [hn] at hmk R0 hR ⊢
  clear H hn hi hz0 hz1 hz2 hCUR hcs hL
  go_enter Try.func12, Try.ntmps12
  go_wp2
  go_loopw [11] (fun i wr => ∃ (k : Nat) (vs : Nat → Value), k ≤ n ∧ i = .int .i64 k ∧ Hid (RowE wr w.heap.size n R vs k) ∧ Hid (OwnV wr (w.heap.size + 1) R vs k) ∧ Hid (DisV vs k) ∧ Hid (Below w.heap.size w wr)) (fun i _ => n - (intOf i).toNat)
  case atStart => exact ⟨0, fun _ => undef, Nat.zero_le _, rfl, R0.out, (fun j hj => by omega), (fun j j' g h1 h2 => by omega), B0.out⟩
  case round =>
    clear R0 B0 hmk
    obtain ⟨k, vs, hk, rfl, RE, OV, DV, B⟩ := hrel
    by_cases hlt : k < n
    · have hkR : k < R.length := by rw [HN.out]; exact hlt
      obtain ⟨b1, o1, hA1, p0, p1, hP⟩ := (X.out.below B.out).at_ hkR
      subst hA1
      have hL9 := HL.out _ (List.getElem_mem hkR)
      have PUT0 := fun (w' : World) (h : RowE w' w.heap.size n R vs k) v => RowE.put h hkR hlt v
      have PV0 := fun (w' : World) (h : OwnV w' (w.heap.size + 1) R vs k) x y i i' v hv => OwnV.put (rb := w.heap.size) h hkR (Nat.lt_succ_self _) x y i i' v hv
      have PD0 := fun m w2 v L hs (hv : OwnS w2 m v L) => DisV.put (R := R) DV.out (by rw [HN.out]; exact hk) OV.out hs w2 hv
      have PUT := Lib.hid PUT0
      have PV := Lib.hid PV0
      have PD := Lib.hid PD0
      clear PUT0 PV0 PD0
      obtain ⟨⟨s, A1, c1, L1⟩, hr⟩ : ∃ r, R[k] = r := ⟨_, rfl⟩
      rw [hr] at p0 p1 hP hL9 PUT PV
      simp only [Ie.v] at p0 p1 hP hL9 PUT
      have hal : ∀ o, Below wr.heap.size wr (wr.alloc o) := fun o => (Below.refl _ _).alloc (Nat.le_refl _) o
      have OF := fun o => Lib.hid (of_any s A1 c1 L1 hL9 (wr.alloc o) (hP.below (hal o)))
      have RE2 := fun o => Lib.hid (RE.out.below (hal o))
      have OV2 := fun o => Lib.hid (OV.out.below (hal o))
      have B2 := fun o => Lib.hid (B.out.alloc B.out.size o)
      have S2 : ∀ o, Hid (wr.heap.size ≤ (wr.alloc o).heap.size) := fun o => by simp [Hid]
      have SW : Hid (w.heap.size + 1 ≤ wr.heap.size) := RE.out.lt
      obtain ⟨n1, hn1⟩ : ∃ n1, L1.length = n1 := ⟨_, rfl⟩
      rw [hn1] at p1 OF
      clear hkR hr hP hL9 hal RE OV DV B hn1
      go_wp2_with fail
      refine (OF _).out.mono ?_
      rintro e w3 ⟨v, rfl, hO, hb⟩
      obtain ⟨A9, c9, rfl, -, -, -⟩ := hO.ops
      have RE3 := Lib.hid ((RE2 _).out.below hb)
      have OV3 := Lib.hid ((OV2 _).out.below hb)
      have B3 := Lib.hid ((B2 _).out.trans (hb.mono (B2 _).out.size))
      have D3 := Lib.hid (PD.out _ w3 _ _ (S2 _).out hO)
      have hO2 := Lib.hid (hO.lift (m := w.heap.size + 1) (Nat.le_trans SW.out (S2 _).out))
      obtain ⟨n9, hn9⟩ : ∃ n9, (canL (opc s) L1).length = n9 := ⟨_, rfl⟩
      rw [hn9] at D3 hO2 ⊢
      obtain ⟨⟨x0, q0⟩, ⟨x1, q1⟩, f0, f1⟩ := RE3.out.cells k hlt
      have RE4 := Lib.hid (PUT.out w3 RE3.out (.slice A9 n9 c9))
      have OV4 := Lib.hid (PV.out w3 OV3.out (.string s) (.slice A9 n9 c9) (k * 2) (k * 2 + 1) (.slice A9 n9 c9) hO2.out)
      have B4 : Hid (Below w.heap.size w ((w3.setCell ⟨w.heap.size, k * 2, none⟩ (.string s)).setCell ⟨w.heap.size, k * 2 + 1, none⟩ (.slice A9 n9 c9))) := (B3.out.setCell (p := ⟨w.heap.size, k * 2, none⟩) (Nat.le_refl _) _).setCell (p := ⟨w.heap.size, k * 2 + 1, none⟩) (Nat.le_refl _) _
      clear hb hO hn9 RE2 OV2 B2 S2 OF PUT PV PD RE3 OV3 B3 hO2
      go_wp2
      go_roundw
      case rel => exact ⟨k + 1, _, by omega, by go_num, RE4.out, OV4.out, D3.out, B4.out⟩
      case measure => simp [intOf]; omega
    · have hkn : k = n := by omega
      subst hkn
      go_wp2
      go_ret
      exact ⟨rfl, vs, RE.out, OV.out, DV.out, B.out⟩
end Go.Proofs.Ytbmgfkbgfgknbaa
