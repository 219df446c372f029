/-
  TableOnce: at every pair of pages and every two opcodes the law returns true.
  Conditions: none beyond the row's own (laid variables; the world's shape).
-/
import Derived.Test.YtipgecdfnbldnaaDoorTbX
import Derived.Test.YtipgecdfnbldnaaDoorTbW
import Derived.Test.YtipgecdfnbldnaaDoorTbOn
import Derived.Test.YtipgecdfnbldnaaDoorTbSm
import Derived.Test.YtipgecdfnbldnaaDoorCards
import Derived.Test.YtipgecdfnbldnaaDoorTie
import Derived.ProofKit
import Derived.OpenShut
import Derived.Lay
import Derived.LaidOnce
import Derived.SevenTiedAt
import Derived.Below
namespace Go.Proofs.YtipgecdfnbldnaaDoor.tableOnceDone
open Go.ChangeShapes Go.WideShapes Go.ChangeAt Go.RowKit
open Go.ChangeMaps (open_string shut_string)
set_option linter.unusedVariables false

theorem own : ownKnob Tryd.prog.godebug = none := by kernel_rfl
theorem laidOut : laidOutB Tryd.prog = true := by kernel_rfl
/-- A slice of integers that came in: nil, or a row of 'cap' cells that hold the numbers 'zs'. -/
def IsRow (k : IntKind) (w : World) (a : Option Addr) (len cap : Nat) (zs : List Int) : Prop :=
  (a = none ∧ len = 0 ∧ cap = 0 ∧ zs = []) ∨
  ∃ x, a = some x ∧ len ≤ cap ∧ cap ≤ maxLen ∧ zs.length = cap ∧ (∀ i, i < zs.length → w.cell? (x.add i) = some (.int k (zs.getD i 0))) ∧ ∀ n ∈ zs, (Lit.int k n).wf = true

theorem rem7 (a : Int) (h : 0 ≤ a ∧ a ≤ 255) : ∃ P : Nat, P < 7 ∧ a.tmod 7 = (P : Int) := ⟨(a.tmod 7).toNat, by have := Int.tmod_eq_emod_of_nonneg (b := 7) h.1; omega, by have := Int.tmod_eq_emod_of_nonneg (b := 7) h.1; omega⟩
/-- What the law asks of two results of At. -/
theorem pair_ok (P Q : Nat) (c d : Int) (hP : P < 7) (hQ : Q < 7) (hc : 0 ≤ c ∧ c ≤ 255) (hd : 0 ≤ d ∧ d ≤ 255) (x y : En) (hx : atT P c = some x) (hy : atT Q d = some y) (ax : x.2.2.2 = false) (ay : y.2.2.2 = false) :
    (decide (x.1 = y.1) && decide (x.2.1 = y.2.1)) = (decide ((P : Int) = Q) && decide (c = d)) := by
  obtain ⟨m, rfl⟩ : ∃ m : Nat, c = m := ⟨c.toNat, by omega⟩
  obtain ⟨k, rfl⟩ : ∃ k : Nat, d = k := ⟨d.toNat, by omega⟩
  by_cases h : (P : Int) = Q ∧ (m : Int) = k
  · obtain ⟨h1, h2⟩ := h
    have h1' : P = Q := by omega
    have h2' : m = k := by omega
    subst h1' h2'
    rw [hx] at hy
    cases hy
    simp
  · have hR : (decide ((P : Int) = Q) && decide ((m : Int) = k)) = false := by
      rw [Bool.and_eq_false_iff]
      by_cases h1 : (P : Int) = Q
      · exact .inr (decide_eq_false fun e => h ⟨h1, e⟩)
      · exact .inl (decide_eq_false h1)
    rw [hR, Bool.and_eq_false_iff]
    by_cases e1 : x.1 = y.1
    · refine .inr (decide_eq_false fun e2 => h ?_)
      obtain ⟨h3, h4⟩ := once P Q m k hP hQ (by omega) (by omega) x y hx hy ax ay e1 e2
      exact ⟨by omega, by omega⟩
    · exact .inl (decide_eq_false e1)
/-- What At returns, in one form. -/
theorem at_form {w w' : World} {page op : Int} {x : Option En} {e : Ending} (h : RetAt w page op x e w') : ∃ (pg o : Int) (m : Str) (A : Option Addr) (n cap : Nat) (ex : Str) (al : Bool) (kd : Int),
    e = .returned (.tuple #[.agg #[.int .i64 pg, .int .u8 o, .string (sB m), .slice A n cap, .string (sB ex), .bool al], .int .i64 kd]) ∧ Below w.heap.size w w' ∧
      ((x = none ∧ kd ≠ 1) ∨ ∃ y : En, x = some y ∧ kd = 1 ∧ m = y.1 ∧ al = y.2.2.2 ∧ n = y.2.1.length ∧ OpsP w' A y.2.1) := by
  obtain ⟨h, hb⟩ := h
  cases x with
  | none =>
    refine ⟨0, 0, [], none, 0, 0, [], false, kindT page op, h, hb, .inl ⟨rfl, ?_⟩⟩
    unfold kindT
    split
    · decide
    · split
      · decide
      · split <;> decide
  | some y =>
    obtain ⟨v, h, hO⟩ := h
    obtain ⟨A, cap, rfl, hP, -⟩ := hO.ops
    exact ⟨_, _, _, A, _, cap, _, _, 1, h, hb, .inr ⟨y, rfl, rfl, rfl, rfl, rfl, hP⟩⟩
theorem args_le (page op : Int) (h0 : 0 ≤ op) (h1 : op ≤ 255) (x : En) (h : atT page op = some x) : x.2.1.length ≤ 1000 := by
  have hw : ∀ p, p ∈ mainP ++ cbP ++ edP → ∀ o, 0 ≤ o → o ≤ 255 → ∀ pg, (plainT p pg o).2.1.length ≤ 100 := fun p hp o k0 k1 pg => (good2_of hp o k0 k1).args_len pg
  unfold atT at h
  cases hf : findP (listS page) op with
  | none => rw [hf] at h; cases h
  | some p =>
    rw [hf] at h
    have hp := find_mem hf
    have h6 := op6_bd op h0 h1
    have l1 := hw p hp op h0 h1 page
    have l6 := hw p hp (op6 op) h6.1 h6.2 page
    have wl : ∀ ix y, withP (plainT p page op).1 ix (plainT p page op).2.1 (plainT p page op).2.2.1 = some y → y.1.length ≤ 100 := fun ix y hy => by
      unfold withP at hy
      split at hy
      · cases hy; rw [repM_len]; exact l1
      · split at hy
        · cases hy; rw [List.length_map]; exact l1
        · cases hy
    have sl : ∀ ix, (shiftT p page op ix).2.1.length ≤ 101 := fun ix => by
      have hr : (if memB (plainT p page (op6 op)).1 (plainT p page (op6 op)).2.1 then repM ix (plainT p page (op6 op)).2.1 else (plainT p page (op6 op)).2.1).length ≤ 100 := by
        split
        · rw [repM_len]; exact l6
        · exact l6
      unfold shiftT
      simp only
      split
      · show (if memB (plainT p page (op6 op)).1 (plainT p page (op6 op)).2.1 then repM ix (plainT p page (op6 op)).2.1 else (plainT p page (op6 op)).2.1).length ≤ 101
        omega
      · split
        · show (if memB (plainT p page (op6 op)).1 (plainT p page (op6 op)).2.1 then repM ix (plainT p page (op6 op)).2.1 else (plainT p page (op6 op)).2.1).length ≤ 101
          omega
        · show ((if memB (plainT p page (op6 op)).1 (plainT p page (op6 op)).2.1 then repM ix (plainT p page (op6 op)).2.1 else (plainT p page (op6 op)).2.1) ++ [(1, numP p.1 op 115, 0)]).length ≤ 101
          rw [List.length_append]
          simp only [List.length_cons, List.length_nil]
          omega
    have h2 : entryT p page op = some x := h
    unfold entryT at h2
    split at h2
    · obtain ⟨y, hy, rfl⟩ := Option.map_eq_some_iff.1 h2
      have := wl 5 y hy
      show y.1.length ≤ 1000
      omega
    · split at h2
      · obtain ⟨y, hy, rfl⟩ := Option.map_eq_some_iff.1 h2
        have := wl 6 y hy
        show y.1.length ≤ 1000
        omega
      · split at h2
        · cases h2; have := sl 5; omega
        · split at h2
          · cases h2; have := sl 6; omega
          · cases h2; omega
set_option maxRecDepth 100000 in
set_option maxHeartbeats 8000000 in
theorem walk (a b : Int) (c d : Int) (w : World) (ha : 0 ≤ a ∧ a ≤ 255) (hb : 0 ≤ b ∧ b ≤ 255) (wc : (Lit.int .u8 c).wf = true) (wd : (Lit.int .u8 d).wf = true) (hM : MaxAt w) :
    Calls Tryd.prog 3 #[.agg #[.int .u8 a, .int .u8 b], .int .u8 c, .int .u8 d] w fun e w' => e = .returned (.bool true) ∧ Below w.heap.size w w' := by
  have hc := u8_wf wc
  have hd := u8_wf wd
  obtain ⟨P, hP, eP⟩ := rem7 a ha
  obtain ⟨Q, hQ, eQ⟩ := rem7 b hb
  have AL := Lib.hid (fun w' h => alive_any w' h)
  have AP := Lib.hid (fun w' h => tat_any (P : Int) c hc.1 hc.2 w' h)
  have AQ := Lib.hid (fun w' h => tat_any (Q : Int) d hd.1 hd.2 w' h)
  have HH := Lib.hid (And.intro hP (And.intro hQ (And.intro hc hd)))
  have MX := Lib.hid hM
  clear hM wc wd
  go_enter Tryd.func3, Tryd.ntmps3
  go_wp2
  go_quiet (fail)
  obtain ⟨w0, hw0⟩ : ∃ w0, (w.alloc (.cells #[.int .u8 a, .int .u8 b] 22)).drewN nq = w0 := ⟨_, rfl⟩
  have B0 : Hid (Below w.heap.size w w0) := by rw [← hw0]; exact below_dn ((Below.refl _ _).alloc (Nat.le_refl _) _) nq
  have M0 := Lib.hid (MX.out.below B0.out)
  rw [hw0]
  clear hw0
  go_wp2_with fail
  refine (AP.out w0 M0.out).mono ?_
  rintro e w1 hres
  obtain ⟨g1, o1, m1, A1, n1, c1, x1, al1, k1, rfl, hb1, D1⟩ := at_form hres
  have B1 : Hid (Below w.heap.size w w1) := B0.out.trans (hb1.mono B0.out.size)
  have M1 := Lib.hid (M0.out.below hb1)
  have D1 := Lib.hid D1
  clear hres hb1 B0 M0 AP
  go_upto_region 3 with fail
  obtain ⟨b1, hbb1⟩ : ∃ b, w1.heap.size = b := ⟨_, rfl⟩
  obtain ⟨w2, hw2⟩ : ∃ w2, w1.alloc (.cells #[.int .i64 g1, .int .u8 o1, .string (sB m1), .slice A1 n1 c1, .string (sB x1), .bool al1] 27) = w2 := ⟨_, rfl⟩
  have hal : Below w1.heap.size w1 w2 := by rw [← hw2]; exact (Below.refl _ _).alloc (Nat.le_refl _) _
  have E2 : EnAt w2 b1 g1 o1 m1 (.slice A1 n1 c1) x1 al1 := by rw [← hw2, ← hbb1]; exact World.alloc_heap_new w1 _
  have B2 : Hid (Below w.heap.size w w2) := B1.out.trans (hal.mono B1.out.size)
  have M2 := Lib.hid (M1.out.below hal)
  have D2 : Hid ((atT (P : Int) c = none ∧ k1 ≠ 1) ∨ ∃ y : En, atT (P : Int) c = some y ∧ k1 = 1 ∧ m1 = y.1 ∧ al1 = y.2.2.2 ∧ n1 = y.2.1.length ∧ OpsP w2 A1 y.2.1) := by
    rcases D1.out with h | ⟨y, y1, y2, y3, y4, y5, y6⟩
    · exact .inl h
    · exact .inr ⟨y, y1, y2, y3, y4, y5, y6.below hal⟩
  rw [hw2, hbb1]
  have E2 := Lib.hid E2
  clear hal hw2 hbb1 B1 M1 D1
  go_wp2_with fail
  refine (AQ.out w2 M2.out).mono ?_
  rintro e w3 hres
  obtain ⟨g2, o2, m2, A2, n2, c2, x2, al2, k2, rfl, hb3, D3⟩ := at_form hres
  have B3 : Hid (Below w.heap.size w w3) := B2.out.trans (hb3.mono B2.out.size)
  have M3 := Lib.hid (M2.out.below hb3)
  have E3 := Lib.hid (E2.out.all hb3)
  have D4 : Hid ((atT (P : Int) c = none ∧ k1 ≠ 1) ∨ ∃ y : En, atT (P : Int) c = some y ∧ k1 = 1 ∧ m1 = y.1 ∧ al1 = y.2.2.2 ∧ n1 = y.2.1.length ∧ OpsP w3 A1 y.2.1) := by
    rcases D2.out with h | ⟨y, y1, y2, y3, y4, y5, y6⟩
    · exact .inl h
    · exact .inr ⟨y, y1, y2, y3, y4, y5, y6.below hb3⟩
  have D3 := Lib.hid D3
  clear hres hb3 B2 M2 E2 D2 AQ
  go_upto_region 4 with fail
  obtain ⟨b2, hbb2⟩ : ∃ b, w3.heap.size = b := ⟨_, rfl⟩
  obtain ⟨w6, hw6⟩ : ∃ w6, w3.alloc (.cells #[.int .i64 g2, .int .u8 o2, .string (sB m2), .slice A2 n2 c2, .string (sB x2), .bool al2] 27) = w6 := ⟨_, rfl⟩
  have hal : Below w3.heap.size w3 w6 := by rw [← hw6]; exact (Below.refl _ _).alloc (Nat.le_refl _) _
  have F6 : EnAt w6 b2 g2 o2 m2 (.slice A2 n2 c2) x2 al2 := by rw [← hw6, ← hbb2]; exact World.alloc_heap_new w3 _
  have E6 := Lib.hid (E3.out.all hal)
  have B6 : Hid (Below w.heap.size w w6) := B3.out.trans (hal.mono B3.out.size)
  have M6 := Lib.hid (M3.out.below hal)
  have D6 : Hid ((atT (P : Int) c = none ∧ k1 ≠ 1) ∨ ∃ y : En, atT (P : Int) c = some y ∧ k1 = 1 ∧ m1 = y.1 ∧ al1 = y.2.2.2 ∧ n1 = y.2.1.length ∧ OpsP w6 A1 y.2.1) := by
    rcases D4.out with h | ⟨y, y1, y2, y3, y4, y5, y6⟩
    · exact .inl h
    · exact .inr ⟨y, y1, y2, y3, y4, y5, y6.below hal⟩
  have D7 : Hid ((atT (Q : Int) d = none ∧ k2 ≠ 1) ∨ ∃ y : En, atT (Q : Int) d = some y ∧ k2 = 1 ∧ m2 = y.1 ∧ al2 = y.2.2.2 ∧ n2 = y.2.1.length ∧ OpsP w6 A2 y.2.1) := by
    rcases D3.out with h | ⟨y, y1, y2, y3, y4, y5, y6⟩
    · exact .inl h
    · exact .inr ⟨y, y1, y2, y3, y4, y5, y6.below hal⟩
  rw [hw6, hbb2]
  have F6 := Lib.hid F6
  clear hal hw6 hbb2 B3 M3 E3 D4 D3
  obtain ⟨e0, e1, e2, e3, e4, e5, -⟩ := E6.out.cells
  obtain ⟨f0, f1, f2, f3, f4, f5, -⟩ := F6.out.cells
  by_cases h1 : k1 = 1
  · by_cases h2 : k2 = 1
    · cases al1
      · cases al2
        · rcases D6.out with h | ⟨x, hx, -, rfl, ax, rfl, P1⟩
          · exact absurd h1 h.2
          rcases D7.out with h | ⟨y, hy, -, rfl, ay, rfl, P2⟩
          · exact absurd h2 h.2
          have PO := pair_ok P Q c d HH.out.1 HH.out.2.1 HH.out.2.2.1 HH.out.2.2.2 x y hx hy ax.symm ay.symm
          have lx := args_le (P : Int) c hc.1 hc.2 x hx
          have ly := args_le (Q : Int) d hd.1 hd.2 y hy
          subst h1 h2
          have P1 := Lib.hid P1
          have P2 := Lib.hid P2
          clear D6 D7 ax ay hx hy
          obtain ⟨⟨mx, Lx, ex, axx⟩, hxx⟩ : ∃ z : En, x = z := ⟨_, rfl⟩
          obtain ⟨⟨my, Ly, ey, ayy⟩, hyy⟩ : ∃ z : En, y = z := ⟨_, rfl⟩
          subst hxx hyy
          simp only at PO lx ly P1 P2 e0 e1 e2 e3 e4 e5 f0 f1 f2 f3 f4 f5 E6 F6 ⊢
          have SM := Lib.hid (fun w' H1 H2 => rsame_any mx my A1 A2 c1 c2 Lx Ly lx ly w' H1 H2)
          rw [PO] at SM
          have HPO : ∀ u v : Bool, ((u && v) == (u && v)) = true := fun u v => by simp
          clear PO
          by_cases hPQ : (P : Int) = Q
          · have q1 : ((P : Int) == (Q : Int)) = true := beq_iff_eq.2 hPQ
            rw [decide_eq_true hPQ, Bool.true_and] at SM
            by_cases hcd : c = d
            · have q2 : (c == d) = true := beq_iff_eq.2 hcd
              rw [decide_eq_true hcd] at SM
              clear hPQ hcd
              go_wp2_with fail
              refine (AL.out w6 M6.out).mono ?_
              rintro e w7 ⟨rfl, hb7⟩
              have B7 : Hid (Below w.heap.size w w7) := B6.out.trans (hb7.mono B6.out.size)
              have E7 := Lib.hid (E6.out.all hb7)
              have F7 := Lib.hid (F6.out.all hb7)
              have Q1 := Lib.hid (P1.out.below hb7)
              have Q2 := Lib.hid (P2.out.below hb7)
              clear hb7 AL e0 e1 e2 e3 e4 e5 f0 f1 f2 f3 f4 f5
              obtain ⟨e0, e1, e2, e3, e4, e5, -⟩ := E7.out.cells
              obtain ⟨f0, f1, f2, f3, f4, f5, -⟩ := F7.out.cells
              go_wp2_with fail
              refine (SM.out w7 Q1.out Q2.out).mono ?_
              rintro e w8 ⟨rfl, hb8⟩
              have B8 : Hid (Below w.heap.size w w8) := B7.out.trans (hb8.mono B7.out.size)
              clear hb8 SM
              go_wp2
              go_ret
              exact ⟨rfl, B8.out⟩
            · have q2 : (c == d) = false := beq_eq_false_iff_ne.2 hcd
              rw [decide_eq_false hcd] at SM
              clear hPQ hcd
              go_wp2_with fail
              refine (AL.out w6 M6.out).mono ?_
              rintro e w7 ⟨rfl, hb7⟩
              have B7 : Hid (Below w.heap.size w w7) := B6.out.trans (hb7.mono B6.out.size)
              have E7 := Lib.hid (E6.out.all hb7)
              have F7 := Lib.hid (F6.out.all hb7)
              have Q1 := Lib.hid (P1.out.below hb7)
              have Q2 := Lib.hid (P2.out.below hb7)
              clear hb7 AL e0 e1 e2 e3 e4 e5 f0 f1 f2 f3 f4 f5
              obtain ⟨e0, e1, e2, e3, e4, e5, -⟩ := E7.out.cells
              obtain ⟨f0, f1, f2, f3, f4, f5, -⟩ := F7.out.cells
              go_wp2_with fail
              refine (SM.out w7 Q1.out Q2.out).mono ?_
              rintro e w8 ⟨rfl, hb8⟩
              have B8 : Hid (Below w.heap.size w w8) := B7.out.trans (hb8.mono B7.out.size)
              clear hb8 SM
              go_wp2
              go_ret
              exact ⟨rfl, B8.out⟩
          · have q1 : ((P : Int) == (Q : Int)) = false := beq_eq_false_iff_ne.2 hPQ
            rw [decide_eq_false hPQ, Bool.false_and] at SM
            clear hPQ
            go_wp2_with fail
            refine (AL.out w6 M6.out).mono ?_
            rintro e w7 ⟨rfl, hb7⟩
            have B7 : Hid (Below w.heap.size w w7) := B6.out.trans (hb7.mono B6.out.size)
            have E7 := Lib.hid (E6.out.all hb7)
            have F7 := Lib.hid (F6.out.all hb7)
            have Q1 := Lib.hid (P1.out.below hb7)
            have Q2 := Lib.hid (P2.out.below hb7)
            clear hb7 AL e0 e1 e2 e3 e4 e5 f0 f1 f2 f3 f4 f5
            obtain ⟨e0, e1, e2, e3, e4, e5, -⟩ := E7.out.cells
            obtain ⟨f0, f1, f2, f3, f4, f5, -⟩ := F7.out.cells
            go_wp2_with fail
            refine (SM.out w7 Q1.out Q2.out).mono ?_
            rintro e w8 ⟨rfl, hb8⟩
            have B8 : Hid (Below w.heap.size w w8) := B7.out.trans (hb8.mono B7.out.size)
            clear hb8 SM
            go_wp2
            go_ret
            exact ⟨rfl, B8.out⟩
        · subst h1 h2
          clear D6 D7
          go_wp2_with fail
          refine (AL.out w6 M6.out).mono ?_
          rintro e w7 ⟨rfl, hb7⟩
          have B7 : Hid (Below w.heap.size w w7) := B6.out.trans (hb7.mono B6.out.size)
          clear hb7 AL
          go_wp2
          go_ret
          exact ⟨rfl, B7.out⟩
      · subst h1 h2
        clear D6 D7
        go_wp2_with fail
        refine (AL.out w6 M6.out).mono ?_
        rintro e w7 ⟨rfl, hb7⟩
        have B7 : Hid (Below w.heap.size w w7) := B6.out.trans (hb7.mono B6.out.size)
        clear hb7 AL
        go_wp2
        go_ret
        exact ⟨rfl, B7.out⟩
    · have hk : (k2 != 1) = true := by simpa using h2
      subst h1
      clear h2 D6 D7
      go_wp2_with fail
      refine (AL.out w6 M6.out).mono ?_
      rintro e w7 ⟨rfl, hb7⟩
      have B7 : Hid (Below w.heap.size w w7) := B6.out.trans (hb7.mono B6.out.size)
      clear hb7 AL
      go_wp2
      go_ret
      exact ⟨rfl, B7.out⟩
  · have hk : (k1 != 1) = true := by simpa using h1
    clear h1 D6 D7
    go_wp2_with fail
    refine (AL.out w6 M6.out).mono ?_
    rintro e w7 ⟨rfl, hb7⟩
    have B7 : Hid (Below w.heap.size w w7) := B6.out.trans (hb7.mono B6.out.size)
    clear hb7 AL
    go_wp2
    go_ret
    exact ⟨rfl, B7.out⟩

set_option maxRecDepth 100000 in
theorem lifted (os : Os) (started : os.Started) (H : Type) (enc : TypeId × Value → H) :
    ReturnsInHanded {} Tryd.checked os 3 .any (fun w args => (Rows.tableOnceSpec.pre enc Tryd.prog Tryd.f3 [] false w args ∧ laidMetH Tryd.prog Rows.tableOnceRow.laid w) ∧ sizedMet enc Tryd.prog Tryd.f3 (OpenSpec.ofChange Rows.tableOnceSpec) false w args)
      (Rows.tableOnceSpec.post enc Tryd.prog Tryd.f3 false true false false) := by
  refine wrap_shaped (C := Tryd.checked) (X := fun w _ => laidMetH Tryd.prog Rows.tableOnceRow.laid w) (fun _ _ _ hh h => h.of_heap hh) own started (by kernel_rfl) Tryd.func3
    (ChangeSpec.witness_shaped (enc := enc) (C := Tryd.checked) (os := os) (X := fun w _ => laidMetH Tryd.prog Rows.tableOnceRow.laid w) false (World.laidAll Tryd.prog os Rows.tableOnceRow.laid) #[.agg #[.int .u8 0, .int .u8 0], .int .u8 0, .int .u8 0] 8 (World.laidAll_os _ _ _)
      (World.shaped_of_ZipB (by kernel_rfl) (by kernel_rfl)) (by kernel_rfl) (by kernel_rfl) (by kernel_rfl)
      (by rw [MakeChecks.laidMetH_plain _ _ _ (by kernel_rfl)]; exact laidMet_laidAll _ (by kernel_rfl) (by kernel_rfl))) ?_
  intro W base args ds gs before hval0 hW hL hsh
  have hval : ∀ (j : Nat) t v, Tryd.f3.params[j]? = some t → args[j]? = some v → Value.okWide Tryd.prog W .any base t v := hval0
  have hW' := hW
  obtain ⟨p, q, hA0, hV, rfl, _, _⟩ := hW
  have hA : DataW.TrodAll enc Tryd.prog W 0 (fun _ => true) true Tryd.f3.params.toList args.toList ds p := hA0
  rw [Tryd.params3] at hA hval
  obtain ⟨v0, vs0, d0, ds0, p0, q0, hargs, rfl, rfl, h0, r0⟩ := trodAll_cons hA
  obtain ⟨v1, vs1, d1, ds1, p1, q1, rfl, rfl, rfl, h1, r1⟩ := trodAll_cons r0
  obtain ⟨v2, vs2, d2, ds2, p2, q2, rfl, rfl, rfl, h2, r2⟩ := trodAll_cons r1
  obtain ⟨rfl, rfl, rfl⟩ := trodAll_nil r2
  obtain rfl : args = #[v0, v1, v2] := by cases args; simp_all
  obtain ⟨rfl, rfl⟩ := trodVars_none hV
  have k0 := h0
  have lt0 : ∀ x ∈ p0, x.block < W.heap.size := by obtain ⟨m, hm⟩ := k0; exact DataW.trod_lt m _ _ _ hm
  obtain ⟨c0, e0, rfl⟩ := okWide_u8x2 (hval 0 22 v0 rfl rfl)
  obtain ⟨a0, b0, rfl, rfl, u0, w0⟩ : ∃ a b : Int, c0 = .int .u8 a ∧ e0 = .int .u8 b ∧ (0 ≤ a ∧ a ≤ 255) ∧ 0 ≤ b ∧ b ≤ 255 := by
    obtain ⟨fuel, hf⟩ := h0
    have hf' : DataW.trod enc Tryd.prog W 0 (fun _ => true) true fuel 22 [c0, e0] = some (d0, p0) := by simpa [Value.cells] using hf
    exact open_u8x2 hf'
  obtain ⟨a1, rfl, rfl, rfl, w1⟩ := open_int Tryd.underlying5 (hval 1 5 v1 rfl rfl) h1
  obtain ⟨a2, rfl, rfl, rfl, w2⟩ := open_int Tryd.underlying5 (hval 2 5 v2 rfl rfl) h2
  clear hA0 hval0
  refine (walk a0 b0 a1 a2 W u0 w0 w1 w2 (max_of_shape hsh)).mono fun e W' ⟨he, bel⟩ => ?_
  subst he
  exact ⟨_, rfl, _, _, _, [], _, [], hW', trodAll_mk1 (shut_bool Tryd.underlying4 _), (trodAll_cons_mk (Below.trod laidOut (by kernel_rfl) (of_decide_eq_true (by kernel_rfl)) k0 bel lt0) (trodAll_cons_mk (shut_int Tryd.underlying5 w1) (trodAll_cons_mk (shut_int Tryd.underlying5 w2) trodAll_mk0))), rfl, bel.frame _, fun h => by cases h⟩

theorem over : Rows.TableOnceSaid :=
  OpenClaim.holds_of_wide 3 Tryd.f3 rfl rfl rfl rfl rfl rfl rfl ⟨rfl, rfl, rfl, rfl, rfl⟩ rfl rfl rfl rfl rfl (by kernel_rfl) Tryd.func3 (by kernel_rfl)
    (of_decide_eq_true (by kernel_rfl)) (by unfold Func.isWrapper; first | (rw [if_pos (by decide +kernel)]; kernel_rfl) | (rw [if_neg (by decide +kernel)]; exact ⟨rfl, rfl⟩))
    (fun os started H enc _ => lifted os started H enc)
theorem card_holds : Rows.TableOnceCardSaid :=
  Claim7.holds_tied_plain_at .later [] [.data, .pinned] true Rows.tableOnceCard.stood.harness false over (fun _ h => by cases h) (by kernel_rfl) (fun _ h => by cases h) tableOnce_row_tie rfl ⟨rfl, rfl⟩ (by kernel_rfl) rfl
    (fun f fn hf hfn => by
      obtain rfl : f = 3 := Option.some.inj ((show Tryd.prog.funcNamed Tryd.f3.name = some 3 by kernel_rfl).symm.trans hf) |>.symm
      obtain rfl : fn = Tryd.f3 := (Option.some.inj (Tryd.func3.symm.trans hfn)).symm
      exact ⟨by kernel_rfl, fun j t ht => by
        rw [Tryd.params3] at ht
        have hm : t ∈ [22, 5, 5] := by simpa [or_assoc, or_comm, or_left_comm] using Array.mem_of_getElem? ht
        have hall : ([22, 5, 5].all fun u => !Tryd.prog.wantsStandIn u) = true := by kernel_rfl
        exact (show Tryd.prog.wantsStandIn t = false by simpa using List.all_eq_true.1 hall t hm)⟩)
    (by kernel_rfl)
#print axioms card_holds
end Go.Proofs.YtipgecdfnbldnaaDoor.tableOnceDone
