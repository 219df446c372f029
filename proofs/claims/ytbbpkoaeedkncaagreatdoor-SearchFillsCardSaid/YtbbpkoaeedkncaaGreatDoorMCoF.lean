/-
  table.collect: the wanted entries of some pages.
-/
import Derived.Test.YtbbpkoaeedkncaaGreatDoorGBJ
import Derived.Test.YtbbpkoaeedkncaaGreatDoorGBH
import Derived.Deep.CutBlock
set_option linter.all false
set_option maxRecDepth 100000
set_option maxHeartbeats 4000000
namespace Go.Proofs.YtbbpkoaeedkncaaGreatDoor
open Go.RowKit Go.Shelf
attribute [local go_sem] Oper.semAt_some
attribute [local irreducible] Go.Mixed.wpMix
def RetXT (w : World) (K : List Ke) (e : Ending) (w' : World) : Prop := ∃ A cap R, e = .returned (.slice A R.length cap) ∧ OwnXT w' w.heap.size (.slice A R.length cap) R ∧ R.map Ee.k = K ∧ Below w.heap.size w w'
def pagesL (L : List Int) : List Int := if L = [] then [0, 1, 2, 3, 4, 5, 6] else L
theorem ints7 (w : World) : IntsP (w.alloc (.cells #[.int .i64 0, .int .i64 1, .int .i64 2, .int .i64 3, .int .i64 4, .int .i64 5, .int .i64 6] 3)) (some ⟨w.heap.size, 0, none⟩) [0, 1, 2, 3, 4, 5, 6] := by
  refine .inr ⟨_, _, rfl, fun k hk => ?_⟩
  rw [Nat.zero_add, Lib.cell_of_heap (heap_alloc_new w _)]
  have h : k < 7 := hk
  rcases (by omega : k = 0 ∨ k = 1 ∨ k = 2 ∨ k = 3 ∨ k = 4 ∨ k = 5 ∨ k = 6) with rfl | rfl | rfl | rfl | rfl | rfl | rfl <;> rfl
theorem OwnXT.grown {X Y : World} {n : Nat} {v : Value} {R : List Ee} {row : Option Nat} (h : OwnXT X n v R) (hg : X.grownBy Y row) (hr : ∀ r, row = some r → ∃ o : Obj, X.heap[r]? = some o ∧ o.isCells = false) : OwnXT Y n v R := by
  have ne : ∀ (u : Value) (T : TypeId) (k m : Nat) (C : List Value), X.ownsRow n T k u m C → u.ownBlock = none ∨ u.ownBlock ≠ row := fun u T k m C ho => by
    cases e : u.ownBlock with
    | none => exact .inl rfl
    | some q =>
      refine .inr fun e' => ?_
      obtain ⟨o, h1, h2⟩ := hr q e'.symm
      rcases ho.2 with ⟨rfl, _⟩ | ⟨g', cap, cur', rfl, _, hg', _⟩
      · simp [Value.ownBlock] at e
      · simp only [Value.ownBlock, Option.some.injEq] at e
        subst e
        rw [hg'] at h1
        cases h1
        cases h2
  exact ⟨World.ownsRow.kept h.1 hg (ne _ _ _ _ _ h.1), fun r hr' => World.ownsRow.kept (h.2 r hr') hg (ne _ _ _ _ _ (h.2 r hr'))⟩
theorem keyC_len (wnt : Str → Bool) (page : Int) (x : Pat × Int) : (keyC wnt page x).length ≤ 1 := by
  unfold keyC
  split
  · unfold keyE
    split <;> simp
  · simp
theorem keysC_len (wnt : Str → Bool) (page : Int) : ∀ xs : List (Pat × Int), (keysC wnt page xs).length ≤ xs.length
  | [] => Nat.le_refl _
  | x :: t => by
    have h := keysC_len wnt page t
    have h2 := keyC_len wnt page x
    show (keyC wnt page x ++ keysC wnt page t).length ≤ t.length + 1
    rw [List.length_append]
    omega
theorem keysAll_len (wnt : Str → Bool) : ∀ ps : List Int, (keysAll wnt ps).length ≤ 256 * ps.length
  | [] => Nat.le_refl _
  | x :: t => by
    have h := keysAll_len wnt t
    have h2 := Nat.le_trans (keysC_len wnt x (codesK (patsOf (listS x)) 256)) (codesK_len _ _)
    show (keysPg wnt x ++ keysAll wnt t).length ≤ 256 * (t.length + 1)
    rw [List.length_append]
    unfold keysPg
    omega
def CInv (w2 : World) (q : Nat) (Ds : List Nat) (K : List Ke) (X : World) : Prop :=
  ∃ A5 c5 R, Boxed X q 125 (.slice A5 R.length c5) ∧ OwnXT X (q + 1) (.slice A5 R.length c5) R ∧ R.map Ee.k = K ∧ Below q w2 X ∧ q + 1 ≤ X.heap.size ∧ ∀ D ∈ Ds, X.heap[D]? = some (.deferred (some []))
theorem CInv.own {w2 X Y : World} {q : Nat} {Ds : List Nat} {K : List Ke} {row : Option Nat} (h : CInv w2 q Ds K X) (hq : q ≤ w2.heap.size) (hg : X.grownBy Y row) (hr : ∀ r, row = some r → q < r ∧ r ∉ Ds ∧ ∃ o : Obj, X.heap[r]? = some o ∧ o.isCells = false) : CInv w2 q Ds K Y := by
  obtain ⟨A5, c5, R, h1, h2, h3, h4, h5, h6⟩ := h
  refine ⟨A5, c5, R, h1.kept hg fun e => ?_, h2.grown hg fun r e => (hr r e).2.2, h3, h4.grown hg (by have := h4.size; omega) fun r e => by have := (hr r e).1; omega, Nat.le_trans h5 hg.size, fun D hD => ?_⟩
  · have := (hr q e.symm).1; omega
  · refine (hg.block D (Array.getElem?_eq_some_iff.1 (h6 D hD)).1 fun e => ?_).trans (h6 D hD)
    exact (hr D e.symm).2.1 hD
theorem CInv.below {w2 X Y : World} {q : Nat} {Ds : List Nat} {K : List Ke} (h : CInv w2 q Ds K X) (hq : q ≤ w2.heap.size) (hb : Below X.heap.size X Y) : CInv w2 q Ds K Y :=
  h.own hq (row := none) ⟨hb.os, hb.tape, hb.output, hb.size, fun i hi _ => hb.block i hi⟩ (fun r e => by cases e)
theorem OwnXT.type {X : World} {n : Nat} {v : Value} {R : List Ee} (h : OwnXT X n v R) {k : Nat} (e : v.ownBlock = some k) : ∃ cur, X.heap[k]? = some (.cells cur 26 (0, 0)) ∧ n ≤ k := by
  have h9 := h.1.2
  rcases h9 with ⟨rfl, _⟩ | ⟨g', cap, cur', rfl, hn, hg', _⟩
  · simp [Value.ownBlock] at e
  · simp only [Value.ownBlock, Option.some.injEq] at e
    subst e
    exact ⟨_, hg', (World.ownsRow.lt h.1 _ rfl).1⟩
theorem wpListIn_run_append {F : Fence} {n : Nat} {w w1 : World} {t ty : TypeId} {v y v' : Value} (h1 : (Builtin.append_ #[t, t] ty #[v, y]).run Tryz.prog w = .ok v' w1) {ops : Array Oper} {rest : List Oper} {o : Oper} {a : Act} {Q : Exit → Act → World → Prop} (hgd : o.guard = none) (s x : Operand)
    (ho : o.op = .call { callee := .builtin .append, args := #[s, x], argTypes := #[t, t] }) (hty : o.type = ty) (hs : a.eval s = v) (hx : a.eval x = y) (hk : wpListIn F n Tryz.prog ops Q rest (a.put o.dst v') w1) : wpListIn F n Tryz.prog ops Q (o :: rest) a w := by
  subst hty
  refine wpListIn_plain hgd fun K hK => ?_
  unfold Oper.wpIn
  refine ⟨?_, ?_⟩
  · simp [Oper.about, ho, resolve, Target.leads, Sem.run_pure]
  · rw [Oper.semAt_plain F _ _ (by rw [ho]; intro c hc; cases hc)]
    simp [execOp, ho, resolve, invoke, builtin, hs, hx, h1, Result.andThen]
    exact hK _ _ hk
theorem OwnXT.other {X : World} {n : Nat} {v : Value} {R : List Ee} (h : OwnXT X n v R) {b : Nat} (hb : b < n) (u : Value) : OwnXT (X.setCell ⟨b, 0, none⟩ u) n v R := by
  have ne : ∀ (u : Value) (T : TypeId) (k m : Nat) (C : List Value), X.ownsRow n T k u m C → u.ownBlock = none ∨ u.ownBlock ≠ some b := fun u T k m C ho => by
    cases e : u.ownBlock with
    | none => exact .inl rfl
    | some q => exact .inr fun e' => by cases e'; have := (World.ownsRow.lt ho _ e).1; omega
  exact ⟨World.ownsRow.kept h.1 (grownBy_setCell' X b u) (ne _ _ _ _ _ h.1), fun r hr' => World.ownsRow.kept (h.2 r hr') (grownBy_setCell' X b u) (ne _ _ _ _ _ (h.2 r hr'))⟩
theorem keeps_below {W W' : World} (h : Below W.heap.size W W') : KeepsOthers W W' := ⟨h.size, fun k o hk _ => (h.block k (Array.getElem?_eq_some_iff.1 hk).1).trans hk⟩
theorem keepD_loop (W : World) (l : Nat) (r r' : Loop) (h : W.heap[l]? = some (.loop r)) : KeepD W (W.putObj l (.loop r')) := fun D o e => by
  have hne : D ≠ l := fun e' => by rw [e', h] at e; cases e
  exact (World.putObj_heap_other hne).trans e
theorem KeepD.others {W W' : World} (h : KeepsOthers W W') : KeepD W W' := fun D o e => h.same D _ e rfl
theorem collect_any (g : Nat) (lb : Array Value) (eg : ∀ args w, (callFunc g args).run Tryz.prog w = .ok (.enter g args) w) (wnt : Str → Bool) (w : World) (hM : MaxAt w) (A : Option Addr) (cap : Nat) (L : List Int) (hP : IntsP w A L) (hL : L.length ≤ 10)
    (hw : ∀ (m : Str) (w' : World), Below w.heap.size w w' → Calls Tryz.prog g (#[.string (sB m)] ++ lb) w' fun e w2 => e = .returned (.bool (wnt m)) ∧ w2 = w') :
    Calls Tryz.prog 107 #[.slice A L.length cap, .func (.func g) #[] lb] w (RetXT w (keysAll wnt (pagesL L))) := by
  obtain ⟨n, hn⟩ : ∃ n, w.heap.size = n := ⟨_, rfl⟩
  have hgn : 0 < n := by rw [← hn]; exact hM.lt
  obtain ⟨w1, hw1⟩ : ∃ w1, w.alloc (.cells #[.func (.func g) #[] lb] 131) = w1 := ⟨_, rfl⟩
  have b1 : Below n w w1 := by rw [← hw1, ← hn]; exact (Below.refl _ _).alloc (Nat.le_refl _) _
  have z1 : w1.heap.size = n + 1 := by rw [← hw1, ← hn]; simp
  have x1 : Boxed w1 n 131 (.func (.func g) #[] lb) := by rw [← hw1, ← hn]; exact Boxed.new _ _ _
  have P1 : Hid (IntsP w1 A L) := hP.below (by rw [hn]; exact b1)
  have HW := Lib.hid hw
  have B1 := Lib.hid b1
  have X1 := Lib.hid x1
  have HN := Lib.hid hn
  have HMM := Lib.hid hM
  clear hP hw b1 x1 hM
  refine callsIn_wide.1 (callsIn_of_wp_marks (n := 8) Tryz.func107 rfl trivial ?_ rfl)
  simp only [Tryz.ntmps107, List.size_toArray, List.length_cons, List.length_nil, Nat.reduceAdd, Nat.reduceSub, Array.replicate_succ, Array.replicate_zero, List.push_toArray, List.append_toArray, List.nil_append, List.cons_append]
  refine wpIn_wide.2 ?_
  obtain ⟨PL, hPL⟩ : ∃ z, pagesL L = z := ⟨_, rfl⟩
  rw [hPL]
  have HPL := Lib.hid hPL
  have hPl : PL.length ≤ 10 := by
    rw [← hPL]
    unfold pagesL
    split
    · decide
    · exact hL
  clear hPL
  go_upto_if 13 with fail
  go_cut [0] from 11 to 14 (fun v wx => ∃ A' cap', v = .slice A' PL.length cap' ∧ Hid (IntsP wx A' PL) ∧ Hid (Below (n + 1) w1 wx))
  case first =>
    by_cases hL0 : L = []
    · subst hL0
      obtain rfl : PL = [0, 1, 2, 3, 4, 5, 6] := HPL.out.symm
      clear hPl
      go_wp2
      go_meet
      exact ⟨_, _, rfl, (by have h := ints7 w1; rw [z1] at h; exact h), (Below.refl _ _).alloc (by omega) _⟩
    · have hl : 0 < L.length := List.length_pos_iff.2 hL0
      have hl2 : ¬ ((L.length : Int) = 0) := by omega
      obtain rfl : PL = L := by rw [← HPL.out]; unfold pagesL; rw [if_neg hL0]
      clear hL0
      go_wp2
      go_meet
      exact ⟨_, _, rfl, P1.out, Below.refl _ _⟩
  case rest =>
    obtain ⟨A', cap', rfl, PP, BX⟩ := hcut
    clear P1 HPL hL
    obtain ⟨q, hq⟩ : ∃ q, wc.heap.size = q := ⟨_, rfl⟩
    obtain ⟨w2, hw2⟩ : ∃ w2, wc.alloc (.cells #[.slice none 0 0] 125) = w2 := ⟨_, rfl⟩
    have hnq : n + 1 ≤ q := by have := BX.out.size; omega
    have b2 : Below q wc w2 := by rw [← hw2, ← hq]; exact (Below.refl _ _).alloc (Nat.le_refl _) _
    have z2 : w2.heap.size = q + 1 := by rw [← hw2, ← hq]; simp
    have Q2 : Hid (Boxed w2 q 125 (.slice none 0 0)) := by rw [← hw2, ← hq]; exact Boxed.new _ _ _
    have P2 : Hid (∀ k (h : k < PL.length), ∃ b off, A' = some ⟨b, off, none⟩ ∧ b < q ∧ w2.cell? ⟨b, off + k, none⟩ = some (.int .i64 PL[k])) := fun k h => by
      rcases PP.out with h0 | ⟨b, off, rfl, hc⟩
      · rw [h0] at h; cases h
      · have hb := World.block_lt_of_cell? wc _ (hc k h)
        exact ⟨b, off, rfl, by rw [← hq]; exact hb, (b2.cell (by rw [← hq]; exact hb)).trans (hc k h)⟩
    have X2 : Hid (Boxed w2 n 131 (.func (.func g) #[] lb)) := (b2.block n (by omega)).trans ((BX.out.block n (by omega)).trans X1.out)
    have B2 : Hid (Below n w w2) := (B1.out.trans (BX.out.mono (by omega))).trans (b2.mono (by omega))
    have HQ := Lib.hid hq
    have HW2 := Lib.hid hw2
    clear PP BX B1 X1 b2 z1 hw1 w1
    go_upto_block 0 with fail
    apply wp_block
    have I2 : Hid (CInv w2 q [] (keysAll wnt (PL.take 0)) w2) := ⟨none, 0, [], Q2.out, ownXT_nil _ _, rfl, Below.refl _ _, by omega, fun D hD => absurd hD List.not_mem_nil⟩
    refine wp_loop (fun a' X => ∃ (j : Nat) (Ds : List Nat) (v7 v18 v19 v20 v21 v22 v23 v41 : Value), a' = { tmps := #[.slice A' PL.length cap', .func (.func g) #[] lb, undef, .pointer (some ⟨n, 0, none⟩), .slice none 0 0, .pointer (some ⟨q, 0, none⟩), undef, v7, undef, undef, undef, u11, u12, u13, u14, .slice A' PL.length cap', .int .i64 (PL.length : Int), .int .i64 (j : Int), v18, v19, v20, v21, v22, v23, undef, undef, undef, undef, undef, undef, undef, undef, undef, undef, undef, undef, undef, undef, undef, undef, undef, v41, undef], defers := Each.marks Ds } ∧ j ≤ PL.length ∧ Hid (CInv w2 q Ds (keysAll wnt (PL.take j)) X) ∧ Hid (Ds.Nodup ∧ ∀ D ∈ Ds, q < D ∧ D < X.heap.size)) (fun a' X => PL.length - (intOf (a'.tmps.getD 17 undef)).toNat) ?_ ?_
    · exact ⟨0, [], _, _, _, _, _, _, _, _, rfl, Nat.zero_le _, I2.out, List.nodup_nil, fun D hD => absurd hD List.not_mem_nil⟩
    · clear I2 Q2
      rintro a' X ⟨j, Ds, v7, v18, v19, v20, v21, v22, v23, v41, rfl, hj, CI, ND⟩
      by_cases hje : j = PL.length
      · have hz : ¬ ((j : Int) < (PL.length : Int)) := by omega
        obtain ⟨A5, c5, R, h1, h2, h3, h4, h5, h6⟩ := CI.out
        have c1 := h1.cell
        have H := Lib.hid (And.intro h2 (And.intro h3 (And.intro h4 h6)))
        clear h1 h2 h3 h4 h5 h6 CI
        go_wp2_with fail
        refine Each.leaves_all (fun Z => OwnXT Z (q + 1) (.slice A5 R.length c5) R ∧ Below n w Z) (fun D => q < D) ?_ Ds X ND.out.1 (fun D hD => ⟨(ND.out.2 D hD).1, H.out.2.2.2 D hD⟩) ⟨H.out.1, B2.out.trans (H.out.2.2.1.mono (by omega))⟩ ?_
        · rintro Z D hD ⟨z1, z2⟩ hz3
          exact ⟨z1.grown (grownBy_putObj' Z D _) fun r e => by cases e; exact ⟨_, hz3, rfl⟩, z2.grown (grownBy_putObj' Z D _) (by have := z2.size; omega) fun r e => by cases e; omega⟩
        · rintro Z ⟨z1, z2⟩
          refine ⟨.slice A5 R.length c5, by simp [results, Tryz.results107, go_sem], A5, c5, R, rfl, by rw [HN.out]; exact z1.lift (by omega), ?_, by rw [HN.out]; exact z2⟩
          have h3 := H.out.2.1
          rwa [hje, List.take_length] at h3
      · have hjl : j < PL.length := by omega
        have hjz : (j : Int) < (PL.length : Int) := by omega
        obtain ⟨page, hpg⟩ : ∃ x, PL[j] = x := ⟨_, rfl⟩
        have BQ : Hid (Below q w2 X) := by obtain ⟨A5, c5, R, h1, h2, h3, h4, h5, h6⟩ := CI.out; exact h4
        have ZQ : q + 1 ≤ X.heap.size := by obtain ⟨A5, c5, R, h1, h2, h3, h4, h5, h6⟩ := CI.out; exact h5
        have hMX : MaxAt X := (HMM.out.belowN B2.out hgn).belowN BQ.out (by omega)
        have hTK : Hid (PL.take (j + 1) = PL.take j ++ [page]) := by show _ = _; rw [List.take_succ_eq_append_getElem hjl, hpg]
        have hIX : ∃ b off, A' = some ⟨b, off, none⟩ ∧ X.cell? ⟨b, off + j, none⟩ = some (.int .i64 page) := by
          obtain ⟨b, off, rfl, hb, hc⟩ := P2.out j hjl
          exact ⟨b, off, rfl, ((BQ.out.cell hb).trans hc).trans (by rw [hpg])⟩
        obtain ⟨bp, off, rfl, hcp⟩ := hIX
        obtain ⟨r7, hr7⟩ : ∃ z, X.heap.size = z := ⟨_, rfl⟩
        obtain ⟨Xa, hXa⟩ : ∃ z, X.alloc (.cells #[.int .i64 page] 3) = z := ⟨_, rfl⟩
        have ba : Below r7 X Xa := by rw [← hXa, ← hr7]; exact up_alloc _ _
        have ca : Boxed Xa r7 3 (.int .i64 page) := by rw [← hXa, ← hr7]; exact Boxed.new _ _ _
        have za : Xa.heap.size = r7 + 1 := by rw [← hXa, ← hr7]; simp
        have hla := listOf_any page Xa
        have hca := codes_any (listS page) Xa
        rw [za] at hca
        have hMa : MaxAt Xa := hMX.belowN ba (by omega)
        have pa := ca.cell
        have CA := Lib.hid ca
        have BA := Lib.hid ba
        have IA : Hid (CInv w2 q Ds (keysAll wnt (PL.take j)) Xa) := CI.out.below (by omega) (by rw [hr7]; exact ba)
        have HMa := Lib.hid hMa
        have HJE := Lib.hid hje
        have ND7 : Hid (Ds.Nodup ∧ ∀ D ∈ Ds, q < D ∧ D < r7) := by rw [← hr7]; exact ND.out
        clear ca ba hMa hMX CI hpg hje ND
        go_wp2_with fail
        refine hla.mono ?_
        rintro e Xb ⟨rfl, rfl⟩
        go_wp2_with fail
        refine hca.mono ?_
        rintro e W0 ⟨rfl, hW0⟩
        have hs : Boxed W0 (r7 + 1) 9 (.string (sB (listS page))) := by
          have h := Boxed.new Xb 9 (.string (sB (listS page)))
          rwa [hW0, za] at h
        have bW : Below Xb.heap.size Xb W0 := by rw [← hW0]; exact up_alloc _ _
        have zW : W0.heap.size = r7 + 1 + 1 := by rw [← hW0]; simp; omega
        have hMW : MaxAt W0 := HMa.out.below bW
        have c7 : Boxed W0 r7 3 (.int .i64 page) := (bW.block r7 (by omega)).trans CA.out
        have IW : Hid (CInv w2 q Ds (keysAll wnt (PL.take j)) W0) := IA.out.below (by omega) bW
        have C7 := Lib.hid c7
        have hseq := codes1_gives 7 (r7 + 1) (listS page) (listS_len page) (pages_ok page) W0 hs hMW
        clear hla hca hs bW hMW c7 hW0 za pa CA BA IA hXa
        go_wp2_with fail
        have KQ : Hid (keysC wnt page (codesK (patsOf (listS page)) 256) = keysPg wnt page) := rfl
        refine wpIn_wide.1 (Each.wpIn_eachO (F := Fence.wide) (n := 8) rfl (by omega) (gf := 144) (lb := #[.pointer (some ⟨r7 + 1, 0, none⟩)]) rfl trivial (enters_of Tryz.func144 (by kernel_rfl) rfl)
          hseq (fun h k => h.trans k) (fun W l r r' _ h => keepD_loop W l r r' h) (fun _ => rfl)
          (fun pre Z => CInv w2 q Ds (keysAll wnt (PL.take j) ++ keysC wnt page pre) Z ∧ Boxed Z r7 3 (.int .i64 page) ∧ r7 + 2 ≤ Z.heap.size)
          (fun s Y Z row h hg hr => ⟨h.1.own (by omega) hg fun r e => ⟨by have := (hr r e).1; omega, fun hD => by have := (ND7.out.2 r hD).2; have := (hr r e).1; omega, (hr r e).2⟩, h.2.1.kept hg fun e => by have := (hr _ e.symm).1; omega, Nat.le_trans h.2.2 hg.size⟩)
          ⟨by rw [show keysC wnt page [] = [] from rfl, List.append_nil]; exact IW.out, C7.out, by omega⟩
          (fun x a' Z => IsCode (patsOf (listS page)) x ∧ ∃ b, r7 + 2 ≤ b ∧ Z.heap[b]? = some (.cells #[.string (sB x.1.1), .string (sB x.1.2), .int .u8 x.2] 57 (0, 0)) ∧ a' = { tmps := #[.slice (some ⟨bp, off, none⟩) PL.length cap', .func (.func g) #[] lb, undef, .pointer (some ⟨n, 0, none⟩), .slice none 0 0, .pointer (some ⟨q, 0, none⟩), undef, .pointer (some ⟨r7, 0, none⟩), .pointer (some ⟨b, 0, none⟩), undef, undef, u11, u12, u13, u14, .slice (some ⟨bp, off, none⟩) PL.length cap', .int .i64 (PL.length : Int), .int .i64 (j : Int), .bool true, .pointer (some ⟨bp, off + j, none⟩), .int .i64 page, .int .i64 page, .string (sB (listS page)), .func (.func 144) #[] #[.pointer (some ⟨r7 + 1, 0, none⟩)], .agg #[.string (sB x.1.1), .string (sB x.1.2), .int .u8 x.2], undef, undef, undef, undef, undef, undef, undef, undef, undef, undef, undef, undef, undef, undef, undef, undef, v41, undef], defers := [] })
          (fun x s Y Z row h hg hr => by
            obtain ⟨h0, b, h1, h2, h3⟩ := h
            exact ⟨h0, b, h1, (grownBy_keeps_cells hg (fun r e => (hr r e).2) h2 rfl).trans h2, h3⟩)
          ?assign ?body ?done)
        case assign =>
          rintro lq pre x Z K ⟨z1, z2, z3⟩ hE hK
          simp only [codeV]
          gi_wp2
          refine hK _ _ ((KeepsOthers.alloc _ _).from _) (KeepD.below (up_alloc _ _)) ⟨z1.below (by omega) (up_alloc _ _), z2.alloc _, by simp; omega⟩ ⟨hE, Z.heap.size, by omega, World.alloc_heap_new Z _, rfl⟩
        case body =>
          rintro lq pre x a' Z ⟨z1, z2, z3⟩ ⟨hE, b, hb, hc, rfl⟩ hlen
          obtain ⟨A5, c5, R, h1, h2, h3, h4, h5, h6⟩ := z1
          have G := good2_of (pages_ok page _ (isCode_mem hE)) x.2 hE.2.2.1 (by have := hE.2.2.2; omega)
          have G6 := good2_of (pages_ok page _ (isCode_mem hE)) (op6 x.2) (op6_bd x.2 hE.2.2.1 (by have := hE.2.2.2; omega)).1 (op6_bd x.2 hE.2.2.1 (by have := hE.2.2.2; omega)).2
          have MZ : MaxAt Z := (HMM.out.belowN B2.out hgn).belowN h4 (by omega)
          obtain ⟨Zd, hZd⟩ : ∃ z, Z.drew = z := ⟨_, rfl⟩
          have bd : Below Z.heap.size Z Zd := by rw [← hZd]; exact below_drewN _ _ 1
          have hmn := mnemonic_any x.1 x.2 G.good Zd (MZ.below bd)
          have hen := fun Y (h : MaxAt Y) => entry_any x.1 page x.2 G G6 Y h
          unfold codeV at hmn hen
          have XF : Hid (∀ Y, Below Z.heap.size Z Y → Y.cell? ⟨n, 0, none⟩ = some (.func (.func g) #[] lb) ∧ Y.cell? ⟨b, 0, none⟩ = some (.string (sB x.1.1)) ∧ Y.cell? ⟨b, 1, none⟩ = some (.string (sB x.1.2)) ∧ Y.cell? ⟨b, 2, none⟩ = some (.int .u8 x.2)) := fun Y hY => by
            have e1 := ((hY.block n (by omega)).trans (h4.block n (by omega))).trans X2.out
            have e2 := (hY.block b (Array.getElem?_eq_some_iff.1 hc).1).trans hc
            exact ⟨Boxed.cell e1, Lib.cell_of_heap e2 0, Lib.cell_of_heap e2 1, Lib.cell_of_heap e2 2⟩
          have HZ := Lib.hid (And.intro h1 (And.intro h2 (And.intro h3 (And.intro h4 h6))))
          have HC := Lib.hid hc
          have Z2 := Lib.hid z2
          have HMZ := Lib.hid MZ
          have HEN := Lib.hid hen
          have BD := Lib.hid bd
          have BWZ : Hid (∀ Y, Below Z.heap.size Z Y → Below w.heap.size w Y) := fun Y hY => by rw [HN.out]; exact (B2.out.trans (h4.mono (by omega))).trans (hY.mono (by omega))
          have FIN : Hid (∀ Y, Below Z.heap.size Z Y → keysC wnt page (pre ++ [x]) = keysC wnt page pre → KeepsFrom W0.heap.size Z Y ∧ KeepD Z Y ∧ CInv w2 q Ds (keysAll wnt (PL.take j) ++ keysC wnt page (pre ++ [x])) Y ∧ Boxed Y r7 3 (.int .i64 page) ∧ r7 + 2 ≤ Y.heap.size) := fun Y hY hK =>
            ⟨(keeps_below hY).from _, KeepD.below hY, by rw [hK]; exact CInv.below ⟨A5, c5, R, h1, h2, h3, h4, h5, h6⟩ (by omega) hY, (hY.block r7 (by omega)).trans z2, Nat.le_trans z3 hY.size⟩
          clear h1 h2 h3 h4 h6 hc G G6 MZ hen bd hE z2 hseq
          gi_wp2_with fail
          refine Mixed.wpIn_region_mixed (fun w' => w'.cell? ⟨n, 0, none⟩ = some (.func (.func g) #[] lb) ∧ w'.cell? ⟨b, 0, none⟩ = some (.string (sB x.1.1)) ∧ w'.cell? ⟨b, 1, none⟩ = some (.string (sB x.1.2)) ∧ w'.cell? ⟨b, 2, none⟩ = some (.int .u8 x.2)) 3 [(0, true), (1, true), (2, false)] (by kernel_rfl) (fun ⟨_, _, h⟩ => h) (by kernel_rfl) (by kernel_rfl) (by rw [hZd]; exact XF.out _ BD.out) ?_
          rw [hZd]
          clear hZd
          refine Mixed.wpMix_pure rfl (by kernel_rfl) (.func (.func g) #[] lb) (fun w h => by obtain ⟨h1, h2, h3, h4⟩ := h; go_simp; try rfl) ?_
          refine Mixed.wpMix_pure rfl (by kernel_rfl) (.agg #[.string (sB x.1.1), .string (sB x.1.2), .int .u8 x.2]) (fun w h => by obtain ⟨h1, h2, h3, h4⟩ := h; go_simp; try rfl) ?_
          refine Mixed.wpMix_loud rfl ?_
          go_wp2_with fail
          refine hmn.mono ?_
          rintro e Z1 ⟨rfl, hb1⟩
          have B1 : Hid (Below Z.heap.size Z Z1) := BD.out.trans (hb1.mono BD.out.size)
          have F1 := XF.out _ B1.out
          have hwn := HW.out (wordsT x.1 x.2).1 Z1 (BWZ.out _ B1.out)
          clear hmn hb1 BD XF
          have FF1 := Lib.hid F1
          obtain ⟨f1, f2, f3, f4⟩ := F1
          obtain ⟨m, hm⟩ : ∃ z, (wordsT x.1 x.2).1 = z := ⟨_, rfl⟩
          rw [hm] at hwn ⊢
          have HM := Lib.hid hm
          clear hm
          go_wp2
          refine ⟨FF1.out, ?_⟩
          simp only [Mixed.wpMix, List.drop_succ_cons, List.drop_zero]
          go_wp2_with fail
          refine hwn.mono ?_
          rintro e Z3 ⟨rfl, rfl⟩
          clear hwn
          cases hwt : wnt m with
          | false =>
            have KC : Hid (keysC wnt page (pre ++ [x]) = keysC wnt page pre) := by
              show _ = _
              rw [keysC_snoc, keyC, HM.out, hwt, if_neg (by decide), List.append_nil]
            clear hwt
            go_wp2
            gi_wp2
            exact FIN.out _ B1.out KC.out
          | true =>
            have KC : Hid (keysC wnt page (pre ++ [x]) = keysC wnt page pre ++ keyE page x.2 (entryT x.1 page x.2)) := by
              show _ = _
              rw [keysC_snoc, keyC, HM.out, hwt, if_pos rfl]
            have p7 : Z3.cell? ⟨r7, 0, none⟩ = some (.int .i64 page) := Boxed.cell ((B1.out.block r7 (by omega)).trans Z2.out)
            have hen := HEN.out Z3 (HMZ.out.below B1.out)
            clear hwt
            go_wp2
            gi_wp2_with fail
            refine ⟨trivial, CallsIn.inRound lq (callsIn_wide.2 hen) |>.mono ?_⟩
            rintro e Z4 ⟨hres, hb4⟩
            have B4 : Hid (Below Z.heap.size Z Z4) := B1.out.trans (hb4.mono B1.out.size)
            have S4 : Hid (Z.heap.size ≤ Z4.heap.size) := B4.out.size
            have S3 : Hid (q + 1 ≤ Z3.heap.size) := by have := B1.out.size; show _ ≤ _; omega
            clear hen p7 f1 f2 f3 f4
            cases hx : entryT x.1 page x.2 with
            | none =>
              rw [hx] at hres
              subst hres
              have KC2 : Hid (keysC wnt page (pre ++ [x]) = keysC wnt page pre) := by
                show _ = _
                rw [KC.out, hx]
                exact List.append_nil _
              simp only [enV]
              clear hx hb4
              gi_wp2
              exact FIN.out _ (B4.out.trans ((up_alloc _ _).mono S4.out)) KC2.out
            | some y =>
              obtain ⟨m', L', ex, al⟩ := y
              rw [hx] at hres
              obtain ⟨v, rfl, hO⟩ := hres
              simp only at hO ⊢
              obtain ⟨A9, c9, rfl, hP9, -⟩ := hO.ops
              have KC2 : Hid (keysC wnt page (pre ++ [x]) = keysC wnt page pre ++ [(page, x.2, m', L', ex, al)]) := by
                show _ = _
                rw [KC.out, hx]
                rfl
              simp only [enV]
              obtain ⟨h1, h2, h3, h4, h6⟩ := HZ.out
              have hT4 := hO.lift S3.out
              obtain ⟨b9, hb9⟩ : ∃ z, Z4.heap.size = z := ⟨_, rfl⟩
              obtain ⟨Z5, hZ5⟩ : ∃ z, Z4.alloc (.cells #[.int .i64 page, .int .u8 x.2, .string (sB m'), .slice A9 L'.length c9, .string (sB ex), .bool al] 26) = z := ⟨_, rfl⟩
              have E5 : Hid (EnAt Z5 b9 page x.2 m' (.slice A9 L'.length c9) ex al) := by rw [← hZ5, ← hb9]; exact World.alloc_heap_new Z4 _
              have B45 : Below Z4.heap.size Z4 Z5 := by rw [← hZ5]; exact up_alloc _ _
              obtain ⟨b10, hb10⟩ : ∃ z, Z5.heap.size = z := ⟨_, rfl⟩
              obtain ⟨Z6, hZ6⟩ : ∃ z, Z5.alloc (.cells #[.int .i64 page, .int .u8 x.2, .string (sB m'), .slice A9 L'.length c9, .string (sB ex), .bool al] 26) = z := ⟨_, rfl⟩
              have B56 : Below Z5.heap.size Z5 Z6 := by rw [← hZ6]; exact up_alloc _ _
              have B46 : Below Z4.heap.size Z4 Z6 := B45.trans (B56.mono B45.size)
              have B6 : Below Z.heap.size Z Z6 := B4.out.trans (B46.mono S4.out)
              have ES6 := es_oneT Z5 ⟨page, x.2, m', A9, c9, L', ex, al⟩ (hP9.below B45)
              simp only [Ee.v] at ES6
              rw [hZ6, hb10] at ES6
              have Q5 : Boxed Z5 q 125 (.slice A5 R.length c5) := (B45.block q (by have := B4.out.size; omega)).trans ((B4.out.block q (by omega)).trans h1)
              have Q6 : Boxed Z6 q 125 (.slice A5 R.length c5) := (B6.block q (by omega)).trans h1
              have O6 := h2.below B6
              have RL : R.length ≤ 5000 := by
                have e1 : R.length = (keysAll wnt (PL.take j) ++ keysC wnt page pre).length := by rw [← h3, List.length_map]
                have e2 := keysAll_len wnt (PL.take j)
                have e3 := keysC_len wnt page pre
                rw [List.length_take] at e2
                rw [List.length_append] at e1
                omega
              obtain ⟨v', Z7, k1, k2, k3, k4⟩ := run_appXT Z6 (q + 1) (.slice A5 R.length c5) R O6 (some ⟨b10, 0, none⟩) 1 [(⟨page, x.2, m', A9, c9, L', ex, al⟩ : Ee)] ES6 (fun r hr => by
                obtain rfl := List.mem_singleton.1 hr
                exact hT4.below B46) (by have := B6.size; omega) (by simp; omega)
              have k2' := k2
              obtain ⟨A7, c7, rfl, -, -⟩ := k2'.es
              have Q7 : Boxed Z7 q 125 (.slice A5 R.length c5) := Q6.kept k4 fun e => by
                have := (World.ownsRow.lt O6.1 _ e.symm).1
                omega
              have ND2 : ∀ k o, Z6.heap[k]? = some o → (∀ cur, o ≠ Obj.cells cur 26 (0, 0)) → Z7.heap[k]? = some o := fun k o hk ho => (k4.block k (Array.getElem?_eq_some_iff.1 hk).1 fun e => by
                obtain ⟨cur, hc, -⟩ := O6.type e.symm
                rw [hk] at hc
                exact ho cur (Option.some.inj hc)).trans hk
              have KO : KeepsOthers Z (Z7.setCell ⟨q, 0, none⟩ (.slice A7 (R ++ [(⟨page, x.2, m', A9, c9, L', ex, al⟩ : Ee)]).length c7)) :=
                (keeps_below B6).trans (KeepsOthers.trans ⟨k4.size, fun k o hk ho => ND2 k o hk fun cur e => by rw [e] at ho; cases ho⟩ (KeepsOthers.setCell _ _ _))
              have FIN2 : Hid (KeepsFrom W0.heap.size Z (Z7.setCell ⟨q, 0, none⟩ (.slice A7 (R ++ [(⟨page, x.2, m', A9, c9, L', ex, al⟩ : Ee)]).length c7)) ∧ KeepD Z (Z7.setCell ⟨q, 0, none⟩ (.slice A7 (R ++ [(⟨page, x.2, m', A9, c9, L', ex, al⟩ : Ee)]).length c7)) ∧ CInv w2 q Ds (keysAll wnt (PL.take j) ++ keysC wnt page (pre ++ [x])) (Z7.setCell ⟨q, 0, none⟩ (.slice A7 (R ++ [(⟨page, x.2, m', A9, c9, L', ex, al⟩ : Ee)]).length c7)) ∧ Boxed (Z7.setCell ⟨q, 0, none⟩ (.slice A7 (R ++ [(⟨page, x.2, m', A9, c9, L', ex, al⟩ : Ee)]).length c7)) r7 3 (.int .i64 page) ∧ r7 + 2 ≤ (Z7.setCell ⟨q, 0, none⟩ (.slice A7 (R ++ [(⟨page, x.2, m', A9, c9, L', ex, al⟩ : Ee)]).length c7)).heap.size) := by
                refine ⟨KO.from _, KeepD.others KO, ⟨A7, c7, R ++ [(⟨page, x.2, m', A9, c9, L', ex, al⟩ : Ee)], Q7.set _, k2.other (by omega) _, ?_, ?_, ?_, fun D hD => KO.same D _ (h6 D hD) rfl⟩, ?_, ?_⟩
                · rw [List.map_append, h3, KC2.out, List.append_assoc]; rfl
                · exact (h4.trans (B6.mono (by omega))).trans ((show Below q Z6 Z7 from k3.mono (Nat.le_succ q)).setCell (p := ⟨q, 0, none⟩) (Nat.le_refl _) _)
                · have e1 := k4.size; have e2 := B6.size; rw [World.size_setCell]; omega
                · refine (heap_setCell_other _ ⟨q, 0, none⟩ r7 _ (by simp; omega)).trans (ND2 r7 _ ((B6.block r7 (by omega)).trans Z2.out) fun cur e => ?_)
                  simp at e
                · have e1 := k4.size; have e2 := B6.size; rw [World.size_setCell]; omega
              have K1 := Lib.hid k1
              have q5 := Q5.cell
              have q6 := Q6.cell
              have q7 := Q7.cell
              have q8 := Q7.frozen
              obtain ⟨e0, e1, e2, e3, e4, e5, e6⟩ := E5.out.cells
              obtain ⟨ln, hln⟩ : ∃ z, (R ++ [(⟨page, x.2, m', A9, c9, L', ex, al⟩ : Ee)]).length = z := ⟨_, rfl⟩
              rw [hln] at K1 FIN2
              obtain ⟨lr, hlr⟩ : ∃ z, R.length = z := ⟨_, rfl⟩
              rw [hlr] at K1 q5 q6 q7
              obtain ⟨ll, hll⟩ : ∃ z, L'.length = z := ⟨_, rfl⟩
              rw [hll] at hZ5 hZ6 e3 ⊢
              clear hx hb4 hO hP9 h1 h2 h3 h4 h6 hT4 E5 B45 B56 B46 B6 ES6 Q5 Q6 Q7 O6 RL k1 k2 k2' k3 k4 ND2 KO hln hlr hll
              gi_wp2_with (gi_at_builtin; refine wpListIn_run_append K1.out rfl _ _ rfl rfl rfl rfl ?_)
              exact FIN2.out
        case done =>
          rintro D xs Z hD hxs ⟨z1, z2, z3⟩ hZ
          rw [show xs = _ from hxs, KQ.out, ← keysAll_snoc, ← hTK.out] at z1
          obtain ⟨A5, c5, R, h1, h2, h3, h4, h5, h6⟩ := z1
          have hDl : D < Z.heap.size := (Array.getElem?_eq_some_iff.1 hZ).1
          have P : Hid (CInv w2 q (D :: Ds) (keysAll wnt (PL.take (j + 1))) Z) := ⟨A5, c5, R, h1, h2, h3, h4, h5, fun E hE => by
            rcases List.mem_cons.1 hE with rfl | hE
            · exact hZ
            · exact h6 E hE⟩
          have P2 : Hid ((D :: Ds).Nodup ∧ ∀ E ∈ D :: Ds, q < E ∧ E < Z.heap.size) := by
            refine ⟨List.nodup_cons.2 ⟨fun hE => by have := (ND7.out.2 D hE).2; omega, ND7.out.1⟩, fun E hE => ?_⟩
            rcases List.mem_cons.1 hE with rfl | hE
            · exact ⟨by omega, hDl⟩
            · have := ND7.out.2 E hE
              exact ⟨this.1, by omega⟩
          have HJL := Lib.hid hjl
          clear h1 h2 h3 h4 h5 h6 hZ z2 z3 hD hDl hxs hseq
          go_wp2
          refine ⟨⟨j + 1, D :: Ds, _, _, _, _, _, _, _, _, rfl, HJL.out, P.out, P2.out⟩, ?_⟩
          have := HJL.out
          show PL.length - ((j : Int) + 1).toNat < PL.length - (j : Int).toNat
          omega
end Go.Proofs.YtbbpkoaeedkncaaGreatDoor
