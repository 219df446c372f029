/-
  RkA, EsA.
-/
import Derived.Test.YtmnleknehjkmgaaGreatGAF
import Derived.Test.YtmnleknehjkmgaaGreatGAI
import Derived.Test.YtmnleknehjkmgaaGreatGAE
import Derived.Deep.DeepCutAuto
import Derived.Deep.Cut
import Derived.StillTail
import Derived.StillTailTactics
import Derived.Deep.RegionHeld3
import Derived.RegionTactic
set_option linter.all false
set_option maxRecDepth 100000
set_option maxHeartbeats 4000000
namespace Go.Proofs.YtmnleknehjkmgaaGreat
open Go.RowKit Go.Shelf
attribute [local irreducible] Go.Mixed.wpMix
theorem up {a b c : World} (h : Below a.heap.size a b) (k : Below b.heap.size b c) : Below a.heap.size a c := h.trans (k.mono h.size)
theorem up_alloc (w : World) (o : Obj) : Below w.heap.size w (w.alloc o) := (Below.refl _ _).alloc (Nat.le_refl _) _
def OpV (w : World) (b : Nat) (x : Tr) : Prop := w.heap[b]? = some (.cells #[.int .i64 x.1, .int .i64 x.2.1, .int .i64 x.2.2] 67 (0, 0))
theorem OpV.all {w w' : World} {b : Nat} {x : Tr} (h : OpV w b x) (hb : Below w.heap.size w w') : OpV w' b x := (hb.block b (Array.getElem?_eq_some_iff.1 h).1).trans h
theorem OpV.cells {w : World} {b : Nat} {x : Tr} (h : OpV w b x) : w.cell? ⟨b, 0, none⟩ = some (.int .i64 x.1) ∧ w.cell? ⟨b, 1, none⟩ = some (.int .i64 x.2.1) ∧ w.cell? ⟨b, 2, none⟩ = some (.int .i64 x.2.2) ∧ ∀ j, w.frozen? ⟨b, j, none⟩ = false :=
  ⟨Lib.cell_of_heap h 0, Lib.cell_of_heap h 1, Lib.cell_of_heap h 2, Lib.frozen_of_heap h⟩
section
variable {P : Program} {ops : Array Oper}
theorem wpMix_skip {C : World → Prop} {T : Act → World → Prop} {k : Nat} {r : List (Nat × Bool)} {a : Act} {w : World} {o : Oper} (ho : ops[k]? = some o) (hw : Region.wanted o (yielded ops a.tmps) = false)
    (h : Mixed.wpMix P ops C T r (a.put o.dst undef) w) : Mixed.wpMix P ops C T ((k, true) :: r) a w := by
  unfold Mixed.wpMix
  simp only [ho]
  exact ⟨undef, .inr ⟨hw, rfl⟩, h⟩
theorem wpMix_skipL {C : World → Prop} {T : Act → World → Prop} {k : Nat} {r : List (Nat × Bool)} {a : Act} {w : World} {o : Oper} (ho : ops[k]? = some o) (hw : Region.wanted o (yielded ops a.tmps) = false)
    (hC : C w) (h : Mixed.wpMix P ops C T r (a.put o.dst undef) w) : Mixed.wpMix P ops C T ((k, false) :: r) a w := by
  unfold Mixed.wpMix
  unfold wpOp
  simp only [ho, hw, Bool.false_eq_true, if_false]
  exact ⟨hC, h⟩
end
def RnAt (w : World) (b : Nat) (page op : Int) (m : Str) (v : Value) (ex : Str) (al : Bool) : Prop := w.heap[b]? = some (.cells #[.int .i64 page, .int .u8 op, .string (sB m), v, .string (sB ex), .bool al] 80 (0, 0))
section
variable {w w' : World} {b : Nat} {page op : Int} {m ex : Str} {v : Value} {al : Bool}
theorem RnAt.lt (h : RnAt w b page op m v ex al) : b < w.heap.size := (Array.getElem?_eq_some_iff.1 h).1
theorem RnAt.below {B : Nat} (h : RnAt w b page op m v ex al) (hb : Below B w w') (hB : b < B) : RnAt w' b page op m v ex al := (hb.block b hB).trans h
theorem RnAt.all (h : RnAt w b page op m v ex al) (hb : Below w.heap.size w w') : RnAt w' b page op m v ex al := h.below hb h.lt
theorem RnAt.cells (h : RnAt w b page op m v ex al) : w.cell? ⟨b, 0, none⟩ = some (.int .i64 page) ∧ w.cell? ⟨b, 1, none⟩ = some (.int .u8 op) ∧ w.cell? ⟨b, 2, none⟩ = some (.string (sB m)) ∧ w.cell? ⟨b, 3, none⟩ = some v ∧ w.cell? ⟨b, 4, none⟩ = some (.string (sB ex)) ∧ w.cell? ⟨b, 5, none⟩ = some (.bool al) ∧ ∀ j, w.frozen? ⟨b, j, none⟩ = false :=
  ⟨Lib.cell_of_heap h 0, Lib.cell_of_heap h 1, Lib.cell_of_heap h 2, Lib.cell_of_heap h 3, Lib.cell_of_heap h 4, Lib.cell_of_heap h 5, Lib.frozen_of_heap h⟩
theorem RnAt.set_args (h : RnAt w b page op m v ex al) (v' : Value) : RnAt (w.setCell ⟨b, 3, none⟩ v') b page op m v' ex al := heap_setCell_same w b 3 _ _ v' h
theorem RnAt.set_extra (h : RnAt w b page op m v ex al) (ex' : Str) : RnAt (w.setCell ⟨b, 4, none⟩ (.string (sB ex'))) b page op m v ex' al := heap_setCell_same w b 4 _ _ _ h
theorem RnAt.set_alias (h : RnAt w b page op m v ex al) (al' : Bool) : RnAt (w.setCell ⟨b, 5, none⟩ (.bool al')) b page op m v ex al' := heap_setCell_same w b 5 _ _ _ h
theorem RnAt.set_code (h : RnAt w b page op m v ex al) (op' : Int) : RnAt (w.setCell ⟨b, 1, none⟩ (.int .u8 op')) b page op' m v ex al := heap_setCell_same w b 1 _ _ _ h
theorem RnAt.set_page (h : RnAt w b page op m v ex al) (page' : Int) : RnAt (w.setCell ⟨b, 0, none⟩ (.int .i64 page')) b page' op m v ex al := heap_setCell_same w b 0 _ _ _ h
theorem RnAt.set_mn (h : RnAt w b page op m v ex al) (m' : Str) : RnAt (w.setCell ⟨b, 2, none⟩ (.string (sB m'))) b page op m' v ex al := heap_setCell_same w b 2 _ _ _ h
theorem RnAt.put (h : RnAt w b page op m v ex al) (page' op' : Int) (m' : Str) (v' : Value) (ex' : Str) (al' : Bool) :
    ∃ w', (((((w.setCell ⟨b, 0, none⟩ (.int .i64 page')).setCell ⟨b, 1, none⟩ (.int .u8 op')).setCell ⟨b, 2, none⟩ (.string (sB m'))).setCell ⟨b, 3, none⟩ v').setCell ⟨b, 4, none⟩ (.string (sB ex'))).setCell ⟨b, 5, none⟩ (.bool al') = w' ∧
      RnAt w' b page' op' m' v' ex' al' ∧ Below b w w' ∧ w'.heap.size = w.heap.size ∧ (∀ B u L, b < B → OwnT w B u L → OwnT w' B u L) ∧ ∀ k, k ≠ b → w'.heap[k]? = w.heap[k]? := by
  refine ⟨_, rfl, (((((h.set_page page').set_code op').set_mn m').set_args v').set_extra ex').set_alias al', ?_, by simp, fun B u L hB hO => ?_, fun k hk => ?_⟩
  · exact ((((((Below.refl b w).setCell (p := ⟨b, 0, none⟩) (Nat.le_refl _) _).setCell (p := ⟨b, 1, none⟩) (Nat.le_refl _) _).setCell (p := ⟨b, 2, none⟩) (Nat.le_refl _) _).setCell (p := ⟨b, 3, none⟩) (Nat.le_refl _) _).setCell (p := ⟨b, 4, none⟩) (Nat.le_refl _) _).setCell (p := ⟨b, 5, none⟩) (Nat.le_refl _) _
  · exact row_set (row_set (row_set (row_set (row_set (row_set hO (p := ⟨b, 0, none⟩) hB _) (p := ⟨b, 1, none⟩) hB _) (p := ⟨b, 2, none⟩) hB _) (p := ⟨b, 3, none⟩) hB _) (p := ⟨b, 4, none⟩) hB _) (p := ⟨b, 5, none⟩) hB _
  · exact (heap_setCell_other _ ⟨b, 5, none⟩ k _ hk).trans ((heap_setCell_other _ ⟨b, 4, none⟩ k _ hk).trans ((heap_setCell_other _ ⟨b, 3, none⟩ k _ hk).trans ((heap_setCell_other _ ⟨b, 2, none⟩ k _ hk).trans ((heap_setCell_other _ ⟨b, 1, none⟩ k _ hk).trans (heap_setCell_other _ ⟨b, 0, none⟩ k _ hk)))))
theorem RnAt.set_other (h : RnAt w b page op m v ex al) {g j : Nat} (hg : b ≠ g) (u : Value) : RnAt (w.setCell ⟨g, j, none⟩ u) b page op m v ex al := (heap_setCell_other w ⟨g, j, none⟩ b u hg).trans h
end
def ratT (page : Int) (op : Nat) : Option En := if 0 ≤ page ∧ page ≤ 6 then atN page.toNat op else none
def rkindT (page : Int) (op : Nat) : Int := if page = 0 then 2 else if page = 2 then 3 else if (page = 3 ∨ page = 4) ∧ op = 203 then 2 else 0
def RetRAt (w : World) (page op : Int) (kd : Int) (x : Option En) (e : Ending) (w' : World) : Prop :=
  (match x with
    | some x => ∃ v, e = .returned (.tuple #[enV page op x.1 v x.2.2.1 x.2.2.2, .int .i64 1]) ∧ OwnT w' w.heap.size v x.2.1
    | none => e = .returned (.tuple #[enV 0 0 [] (.slice none 0 0) [] false, .int .i64 kd])) ∧ Below w.heap.size w w'
theorem listS_no {page : Int} (h : ¬ (0 ≤ page ∧ page ≤ 6)) : listS page = [] := by
  unfold listS
  rw [if_neg (by omega), if_neg (by omega), if_neg (by omega)]
theorem ratT_no {page : Int} (h : ¬ (0 ≤ page ∧ page ≤ 6)) (op : Nat) : ratT page op = none := by
  unfold ratT
  rw [if_neg h]
theorem at_same (page : Int) (n : Nat) (hn : n < 256) : atT page (n : Int) = ratT page n := by
  by_cases hp : 0 ≤ page ∧ page ≤ 6
  · obtain ⟨g, rfl⟩ : ∃ g : Nat, page = (g : Int) := ⟨page.toNat, by omega⟩
    unfold ratT
    rw [if_pos hp, atN_eq g n hn]
    rfl
  · rw [ratT_no hp]
    unfold atT findP
    rw [listS_no hp]
    rfl
open Go.Ev in
def flatT : List Tr → List AC
  | [] => []
  | x :: t => .int .i64 x.1 :: .int .i64 x.2.1 :: .int .i64 x.2.2 :: flatT t
open Go.Ev in
theorem flatT_length : ∀ L : List Tr, (flatT L).length = L.length * 3
  | [] => rfl
  | x :: t => by
    have h := flatT_length t
    show (flatT t).length + 1 + 1 + 1 = (t.length + 1) * 3
    omega
open Go.Ev in
theorem flatT_rel (ρ : Ev.Ren) : ∀ {L : List Tr} {vs : List Value}, R2 ρ (flatT L) vs → vs = cellsT L
  | [], vs, h => h
  | x :: t, vs, ⟨v1, u1, h1, r1, v2, u2, h2, r2, v3, u3, h3, r3, h4⟩ => by
    rw [h1, h2, h3, flatT_rel ρ h4, show v1 = _ from r1, show v2 = _ from r2, show v3 = _ from r3]
    rfl
open Go.Ev in
def okArgs (δ : Hp) (a : AC) (L : List Tr) : Bool := match a with
  | .nils => L.isEmpty
  | .sl b 0 l c => Nat.beq l L.length && match Ev.look δ b with
    | some ob => Nat.beq ob.t 67 && Ev.cellsB (ob.c.take (l * 3)) (flatT L) && match c, ob.s with
      | some cc, none => Nat.beq ob.c.length (cc * 3) && Nat.ble l cc && Nat.ble cc 1000
      | none, some 3 => true
      | _, _ => false
    | none => false
  | _ => false
open Go.Ev in
theorem okArgs_own {δ : Hp} {a : AC} {L : List Tr} (h : okArgs δ a L = true) {w w' : World} {ρ : Ev.Ren} (hs : HR w ρ δ w') {v : Value} (hv : a.rel ρ v) : OwnT w' w.heap.size v L := by
  unfold okArgs at h
  split at h
  · have hL : L = [] := by simpa using h
    subst hL
    rw [show v = _ from hv]
    exact World.ownsRow_nil _ _ _ _
  · rename_i b l c
    rw [Bool.and_eq_true] at h
    obtain ⟨h1, h⟩ := h
    have h1 := Nat.eq_of_beq_eq_true h1
    split at h
    · rename_i ob hob
      rw [Bool.and_eq_true, Bool.and_eq_true] at h
      obtain ⟨⟨h2, h3⟩, h4⟩ := h
      have h2 := Nat.eq_of_beq_eq_true h2
      have h3 := Ev.cellsB_eq h3
      obtain ⟨k, cp, hk, rfl⟩ := hv
      obtain ⟨k', cp', e', hk2, cur, hcur, hc, hz⟩ := hs.obj b ob hob
      rw [hk] at e'
      cases e'
      have hlen : (ob.c.take (l * 3)).length = l * 3 := by rw [h3, flatT_length, h1]
      have hoc : l * 3 ≤ ob.c.length := by rw [List.length_take] at hlen; omega
      have hcs : l * 3 ≤ cur.size := by
        rcases Nat.eq_zero_or_pos (l * 3) with h0 | h0
        · omega
        · obtain ⟨v, k1, -⟩ := hc (l * 3 - 1) _ (List.getElem?_eq_getElem (by omega))
          have := (Array.getElem?_eq_some_iff.1 k1).1
          omega
      have htk : cur.toList.take (l * 3) = cellsT L := by
        refine flatT_rel ρ ?_
        rw [← h3]
        refine R2.of_at (by rw [hlen, List.length_take, Array.length_toList]; omega) fun i x hx => ?_
        have hi : i < l * 3 := by
          have := (List.getElem?_eq_some_iff.1 hx).1
          rw [hlen] at this
          exact this
        rw [List.getElem?_take, if_pos hi] at hx
        obtain ⟨v, k1, k2⟩ := hc _ _ hx
        exact ⟨v, by rw [List.getElem?_take, if_pos hi, Array.getElem?_toList]; exact k1, k2⟩
      rw [h2] at hcur
      have fin : l ≤ c.getD cp ∧ c.getD cp ≤ maxLen ∧ cur.size = c.getD cp * 3 := by
        split at h4
        · rename_i cc e1
          rw [Bool.and_eq_true, Bool.and_eq_true] at h4
          have q1 := Nat.eq_of_beq_eq_true h4.1.1
          have q2 := Nat.le_of_ble_eq_true h4.1.2
          have q3 := Nat.le_of_ble_eq_true h4.2
          rw [e1] at hz
          have hz : cur.size = ob.c.length := hz
          refine ⟨q2, ?_, by rw [hz, q1]; rfl⟩
          show cc ≤ maxLen
          unfold maxLen
          omega
        · rename_i e1
          rw [e1] at hz
          obtain ⟨z1, z2⟩ := hz
          exact ⟨by show l ≤ cp; omega, z2, z1⟩
        · cases h4
      rw [h1] at *
      exact ⟨cellsT_length L, .inr ⟨k, c.getD cp, cur, rfl, hk2, hcur, fin.1, fin.2.1, fin.2.2, htk⟩⟩
    · cases h
  · cases h
def boolB : Bool → Bool → Bool
  | true, true => true
  | false, false => true
  | _, _ => false
theorem boolB_eq {a b : Bool} (h : boolB a b = true) : a = b := by cases a <;> cases b <;> first | rfl | cases h
open Go.Ev in
def okEnt (δ : Hp) (g n : Nat) (a b : Int) (m : List UInt8) (s : AC) (ex : List UInt8) (al : Bool) (kd : Int) : Option En → Bool
  | some x => Ev.intB a g && (Ev.intB b n && (Ev.strB m x.1 && (okArgs δ s x.2.1 && (Ev.strB ex x.2.2.1 && (boolB al x.2.2.2 && Ev.intB kd 1)))))
  | none => Ev.intB a 0 && (Ev.intB b 0 && (Ev.strB m [] && (okArgs δ s [] && (match s with | .nils => true | _ => false) && (Ev.strB ex [] && (boolB al false && Ev.intB kd (rkindT g n))))))
open Go.Ev in
def okAt (P : Program) (g n : Nat) : Bool := match evCall P 200 8 45 [⟨false, [.int .i64 (g : Int)]⟩, ⟨false, [.int .u8 (n : Int)]⟩] [] 1 with
  | some (.tup [⟨true, [.int .i64 a, .int .u8 b, .str m, s, .str ex, .bool al]⟩, ⟨false, [.int .i64 kd]⟩], δ) => okEnt δ g n a b m s ex al kd (atN g n)
  | _ => false
def okAll (P : Program) (g lo cnt : Nat) : Bool := (List.range cnt).all fun i => okAt P g (lo + i)
theorem okAll_at {P : Program} {g lo cnt : Nat} (h : okAll P g lo cnt = true) (n : Nat) (h1 : lo ≤ n) (h2 : n < lo + cnt) : okAt P g n = true := by
  have := List.all_eq_true.1 h (n - lo) (List.mem_range.2 (by omega))
  rwa [show lo + (n - lo) = n by omega] at this
open Go.Ev in
theorem okAt_calls {g n : Nat} (hg : g ≤ 6) (h : okAt Tryz.prog g n = true) (w : World) : Calls Tryz.prog 45 #[.int .i64 (g : Int), .int .u8 (n : Int)] w (RetRAt w g n (rkindT g n) (ratT g n)) := by
  unfold okAt at h
  split at h
  · rename_i a b m s ex al kd δ he
    refine (run_call he (us := [.int .i64 (g : Int), .int .u8 (n : Int)]) ⟨_, _, rfl, ⟨_, rfl, rfl⟩, _, _, rfl, ⟨_, rfl, rfl⟩, rfl⟩ w).mono ?_
    rintro e w' ⟨u, ρ, rfl, ⟨vs, rfl, v1, u1, hvs, ⟨cs, rfl, c1, r1, hcs, q1, c2, r2, rfl, q2, c3, r3, rfl, q3, c4, r4, rfl, q4, c5, r5, rfl, q5, c6, r6, rfl, q6, rfl⟩, v2, u2, rfl, ⟨c7, e7, q7⟩, rfl⟩, hs⟩
    cases e7
    have hr : ratT g n = atN g n := by unfold ratT; rw [if_pos (by omega)]; rfl
    have hcs : cs = #[c1, c2, c3, c4, c5, c6] := Array.ext' hcs
    have hvs : vs = #[.agg cs, v2] := Array.ext' hvs
    rw [hr]
    subst hcs; subst hvs
    rw [show c1 = _ from q1, show c2 = _ from q2, show c3 = _ from q3, show c5 = _ from q5, show c6 = _ from q6, show v2 = _ from q7]
    refine ⟨?_, hs.below⟩
    cases hx : atN g n with
    | some x =>
      rw [hx] at h
      simp only [okEnt, Bool.and_eq_true] at h
      obtain ⟨h1, h2, h3, h4, h5, h6, h7⟩ := h
      rw [Ev.intB_eq h1, Ev.intB_eq h2, Ev.strB_eq h3, Ev.strB_eq h5, boolB_eq h6, Ev.intB_eq h7]
      exact ⟨c4, rfl, okArgs_own h4 hs q4⟩
    | none =>
      rw [hx] at h
      simp only [okEnt, Bool.and_eq_true] at h
      obtain ⟨h1, h2, h3, ⟨h4, h8⟩, h5, h6, h7⟩ := h
      rw [Ev.intB_eq h1, Ev.intB_eq h2, Ev.strB_eq h3, Ev.strB_eq h5, boolB_eq h6, Ev.intB_eq h7]
      split at h8
      · rw [show c4 = _ from q4]; rfl
      · cases h8
  · cases h
end Go.Proofs.YtmnleknehjkmgaaGreat
namespace Go.Proofs.YtmnleknehjkmgaaGreat
open Go.RowKit Go.Shelf
attribute [local irreducible] Go.Mixed.wpMix
structure Ee where
  g : Int
  o : Int
  m : Str
  A : Option Addr
  cap : Nat
  L : List Tr
  ex : Str
  al : Bool
instance : Inhabited Ee := ⟨⟨0, 0, [], none, 0, [], [], false⟩⟩
def Ee.v (r : Ee) : Value := .slice r.A r.L.length r.cap
abbrev Ke := Int × Int × Str × List Tr × Str × Bool
def Ee.k (r : Ee) : Ke := (r.g, r.o, r.m, r.L, r.ex, r.al)
def Ee.c (r : Ee) : List Value := [.int .i64 r.g, .int .u8 r.o, .string (sB r.m), r.v, .string (sB r.ex), .bool r.al]
def cellsX : List Ee → List Value
  | [] => []
  | r :: t => .int .i64 r.g :: .int .u8 r.o :: .string (sB r.m) :: r.v :: .string (sB r.ex) :: .bool r.al :: cellsX t
theorem cellsX_length : ∀ R : List Ee, (cellsX R).length = R.length * 6
  | [] => rfl
  | r :: t => by
    have h := cellsX_length t
    show (cellsX t).length + 1 + 1 + 1 + 1 + 1 + 1 = (t.length + 1) * 6
    omega
theorem cellsX_at : ∀ (R : List Ee) (j : Nat) (h : j < R.length), (cellsX R)[j * 6]? = some (.int .i64 R[j].g) ∧ (cellsX R)[j * 6 + 1]? = some (.int .u8 R[j].o) ∧ (cellsX R)[j * 6 + 2]? = some (.string (sB R[j].m)) ∧ (cellsX R)[j * 6 + 3]? = some R[j].v ∧ (cellsX R)[j * 6 + 4]? = some (.string (sB R[j].ex)) ∧ (cellsX R)[j * 6 + 5]? = some (.bool R[j].al)
  | x :: t, 0, h => ⟨rfl, rfl, rfl, rfl, rfl, rfl⟩
  | x :: t, j + 1, h => by
    obtain ⟨h1, h2, h3, h4, h5, h6⟩ := cellsX_at t j (by simpa using h)
    have e : cellsX (x :: t) = .int .i64 x.g :: .int .u8 x.o :: .string (sB x.m) :: x.v :: .string (sB x.ex) :: .bool x.al :: cellsX t := rfl
    rw [e, show (j + 1) * 6 = j * 6 + 1 + 1 + 1 + 1 + 1 + 1 by omega, show j * 6 + 1 + 1 + 1 + 1 + 1 + 1 + 1 = (j * 6 + 1) + 1 + 1 + 1 + 1 + 1 + 1 by omega, show j * 6 + 1 + 1 + 1 + 1 + 1 + 1 + 2 = (j * 6 + 2) + 1 + 1 + 1 + 1 + 1 + 1 by omega, show j * 6 + 1 + 1 + 1 + 1 + 1 + 1 + 3 = (j * 6 + 3) + 1 + 1 + 1 + 1 + 1 + 1 by omega, show j * 6 + 1 + 1 + 1 + 1 + 1 + 1 + 4 = (j * 6 + 4) + 1 + 1 + 1 + 1 + 1 + 1 by omega, show j * 6 + 1 + 1 + 1 + 1 + 1 + 1 + 5 = (j * 6 + 5) + 1 + 1 + 1 + 1 + 1 + 1 by omega]
    simp only [List.getElem?_cons_succ, List.getElem_cons_succ]
    exact ⟨h1, h2, h3, h4, h5, h6⟩
theorem cellsX_take6 (R : List Ee) (j : Nat) (u : Value) (hu : (cellsX R)[j]? = some u) : ∃ (k : Nat) (h : k < R.length) (i : Nat), i < 6 ∧ j = k * 6 + i ∧ (R[k].c)[i]? = some u := by
  have hj : j < R.length * 6 := by
    rw [← cellsX_length]
    exact (List.getElem?_eq_some_iff.1 hu).1
  have hk : j / 6 < R.length := by omega
  obtain ⟨h1, h2, h3, h4, h5, h6⟩ := cellsX_at R (j / 6) hk
  refine ⟨j / 6, hk, j % 6, by omega, by omega, ?_⟩
  have : j % 6 = 0 ∨ j % 6 = 1 ∨ j % 6 = 2 ∨ j % 6 = 3 ∨ j % 6 = 4 ∨ j % 6 = 5 := by omega
  rcases this with h | h | h | h | h | h
  all_goals rw [h]
  · exact (show _ = _ from h1.symm).trans ((congrArg (fun z => (cellsX R)[z]?) (by omega : j / 6 * 6 = j)).trans hu)
  · exact (show _ = _ from h2.symm).trans ((congrArg (fun z => (cellsX R)[z]?) (by omega : j / 6 * 6 + 1 = j)).trans hu)
  · exact (show _ = _ from h3.symm).trans ((congrArg (fun z => (cellsX R)[z]?) (by omega : j / 6 * 6 + 2 = j)).trans hu)
  · exact (show _ = _ from h4.symm).trans ((congrArg (fun z => (cellsX R)[z]?) (by omega : j / 6 * 6 + 3 = j)).trans hu)
  · exact (show _ = _ from h5.symm).trans ((congrArg (fun z => (cellsX R)[z]?) (by omega : j / 6 * 6 + 4 = j)).trans hu)
  · exact (show _ = _ from h6.symm).trans ((congrArg (fun z => (cellsX R)[z]?) (by omega : j / 6 * 6 + 5 = j)).trans hu)
def EsP (w : World) (A : Option Addr) (R : List Ee) : Prop :=
  R = [] ∨ ∃ b off, A = some ⟨b, off, none⟩ ∧ ∀ k (h : k < R.length), (∀ i u, (R[k].c)[i]? = some u → w.cell? ⟨b, off + (k * 6 + i), none⟩ = some u) ∧ OpsP w R[k].A R[k].L
theorem EsP.at_ {w : World} {A : Option Addr} {R : List Ee} (h : EsP w A R) {k : Nat} (hk : k < R.length) : ∃ b off, A = some ⟨b, off, none⟩ ∧ b < w.heap.size ∧ w.cell? ⟨b, off + k * 6, none⟩ = some (.int .i64 R[k].g) ∧ w.cell? ⟨b, off + k * 6 + 1, none⟩ = some (.int .u8 R[k].o) ∧ w.cell? ⟨b, off + k * 6 + 2, none⟩ = some (.string (sB R[k].m)) ∧ w.cell? ⟨b, off + k * 6 + 3, none⟩ = some R[k].v ∧ w.cell? ⟨b, off + k * 6 + 4, none⟩ = some (.string (sB R[k].ex)) ∧ w.cell? ⟨b, off + k * 6 + 5, none⟩ = some (.bool R[k].al) ∧ OpsP w R[k].A R[k].L := by
  rcases h with rfl | ⟨b, off, rfl, hc⟩
  · simp at hk
  · obtain ⟨h1, h2⟩ := hc k hk
    have e : ∀ i u, (R[k].c)[i]? = some u → w.cell? ⟨b, off + k * 6 + i, none⟩ = some u := fun i u hu => by rw [Nat.add_assoc]; exact h1 i u hu
    exact ⟨b, off, rfl, World.block_lt_of_cell? w _ (e 0 _ rfl), e 0 _ rfl, e 1 _ rfl, e 2 _ rfl, e 3 _ rfl, e 4 _ rfl, e 5 _ rfl, h2⟩
theorem EsP.below {w w' : World} {A : Option Addr} {R : List Ee} (h : EsP w A R) (hb : Below w.heap.size w w') : EsP w' A R := by
  rcases h with rfl | ⟨b, off, rfl, hc⟩
  · exact .inl rfl
  · refine .inr ⟨b, off, rfl, fun k hk => ⟨fun i u hu => ?_, (hc k hk).2.below hb⟩⟩
    have hp := (hc k hk).1 i u hu
    exact (hb.cell (World.block_lt_of_cell? w _ hp)).trans hp
theorem EsP.news {w : World} {A : Option Addr} {R : List Ee} (h : EsP w A R) : R.length = 0 ∨ ∃ a, A = some a ∧ ∀ j u, (cellsX R)[j]? = some u → w.cell? (a.add j) = some u := by
  rcases h with rfl | ⟨b, off, rfl, hc⟩
  · exact .inl rfl
  · refine .inr ⟨_, rfl, fun j u hu => ?_⟩
    have hadd : (⟨b, off, none⟩ : Addr).add j = ⟨b, off + j, none⟩ := by unfold Addr.add; split <;> simp_all
    rw [hadd]
    obtain ⟨k, hk, i, hi, rfl, e⟩ := cellsX_take6 R j u hu
    exact (hc k hk).1 i u e
def OwnXR (w : World) (n : Nat) (v : Value) (R : List Ee) : Prop := w.ownsRow n 80 6 v R.length (cellsX R) ∧ ∀ r ∈ R, OwnT w n r.v r.L
theorem OwnXR.below {w w' : World} {n : Nat} {v : Value} {R : List Ee} (h : OwnXR w n v R) (k : Below w.heap.size w w') : OwnXR w' n v R :=
  ⟨World.ownsRow.kept h.1 (row := none) ⟨k.os, k.tape, k.output, k.size, fun i hi _ => k.block i hi⟩ (by
    cases e : v.ownBlock with
    | none => exact .inl rfl
    | some g => exact .inr (by simp)), fun r hr => (h.2 r hr).below k⟩
theorem OwnXR.lift {w : World} {n m : Nat} {v : Value} {R : List Ee} (h : OwnXR w n v R) (k : m ≤ n) : OwnXR w m v R := ⟨row_mono h.1 k, fun r hr => (h.2 r hr).lift k⟩
theorem OwnXR.es {w : World} {n : Nat} {v : Value} {R : List Ee} (h : OwnXR w n v R) : ∃ A cap, v = .slice A R.length cap ∧ EsP w A R ∧ R.length ≤ cap := by
  rcases h.1.2 with ⟨rfl, h0⟩ | ⟨g, cap, cur, rfl, _, _, hle, _⟩
  · have : R = [] := List.eq_nil_of_length_eq_zero h0
    subst this
    exact ⟨none, 0, rfl, .inl rfl, Nat.le_refl _⟩
  · refine ⟨_, cap, rfl, .inr ⟨g, 0, rfl, fun k hk => ⟨fun i u hu => ?_, ?_⟩⟩, hle⟩
    · rw [Nat.zero_add]
      have hi : i < 6 := by
        have := (List.getElem?_eq_some_iff.1 hu).1
        exact this
      obtain ⟨h1, h2, h3, h4, h5, h6⟩ := cellsX_at R k hk
      have hc : (cellsX R)[k * 6 + i]? = some u := by
        have : i = 0 ∨ i = 1 ∨ i = 2 ∨ i = 3 ∨ i = 4 ∨ i = 5 := by omega
        rcases this with rfl | rfl | rfl | rfl | rfl | rfl
        · exact h1.trans hu
        · exact h2.trans hu
        · exact h3.trans hu
        · exact h4.trans hu
        · exact h5.trans hu
        · exact h6.trans hu
      exact (World.ownsRow.cellAt h.1 _ (by omega)).trans hc
    · obtain ⟨A', c', e, hP, -⟩ := (h.2 _ (List.getElem_mem hk)).ops
      simp only [Ee.v, Value.slice.injEq] at e
      rw [e.1]; exact hP
def OwnXT (w : World) (n : Nat) (v : Value) (R : List Ee) : Prop := w.ownsRow n 122 6 v R.length (cellsX R) ∧ ∀ r ∈ R, OwnT w n r.v r.L
theorem OwnXT.below {w w' : World} {n : Nat} {v : Value} {R : List Ee} (h : OwnXT w n v R) (k : Below w.heap.size w w') : OwnXT w' n v R :=
  ⟨World.ownsRow.kept h.1 (row := none) ⟨k.os, k.tape, k.output, k.size, fun i hi _ => k.block i hi⟩ (by
    cases e : v.ownBlock with
    | none => exact .inl rfl
    | some g => exact .inr (by simp)), fun r hr => (h.2 r hr).below k⟩
theorem OwnXT.lift {w : World} {n m : Nat} {v : Value} {R : List Ee} (h : OwnXT w n v R) (k : m ≤ n) : OwnXT w m v R := ⟨row_mono h.1 k, fun r hr => (h.2 r hr).lift k⟩
theorem OwnXT.es {w : World} {n : Nat} {v : Value} {R : List Ee} (h : OwnXT w n v R) : ∃ A cap, v = .slice A R.length cap ∧ EsP w A R ∧ R.length ≤ cap := by
  rcases h.1.2 with ⟨rfl, h0⟩ | ⟨g, cap, cur, rfl, _, _, hle, _⟩
  · have : R = [] := List.eq_nil_of_length_eq_zero h0
    subst this
    exact ⟨none, 0, rfl, .inl rfl, Nat.le_refl _⟩
  · refine ⟨_, cap, rfl, .inr ⟨g, 0, rfl, fun k hk => ⟨fun i u hu => ?_, ?_⟩⟩, hle⟩
    · rw [Nat.zero_add]
      have hi : i < 6 := by
        have := (List.getElem?_eq_some_iff.1 hu).1
        exact this
      obtain ⟨h1, h2, h3, h4, h5, h6⟩ := cellsX_at R k hk
      have hc : (cellsX R)[k * 6 + i]? = some u := by
        have : i = 0 ∨ i = 1 ∨ i = 2 ∨ i = 3 ∨ i = 4 ∨ i = 5 := by omega
        rcases this with rfl | rfl | rfl | rfl | rfl | rfl
        · exact h1.trans hu
        · exact h2.trans hu
        · exact h3.trans hu
        · exact h4.trans hu
        · exact h5.trans hu
        · exact h6.trans hu
      exact (World.ownsRow.cellAt h.1 _ (by omega)).trans hc
    · obtain ⟨A', c', e, hP, -⟩ := (h.2 _ (List.getElem_mem hk)).ops
      simp only [Ee.v, Value.slice.injEq] at e
      rw [e.1]; exact hP
end Go.Proofs.YtmnleknehjkmgaaGreat
