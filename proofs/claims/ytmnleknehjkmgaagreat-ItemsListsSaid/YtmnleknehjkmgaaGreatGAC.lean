/-
  SeC, OpC.
-/
import Derived.Test.YtmnleknehjkmgaaGreatGAB
import Derived.Shelf.Abstract
import Derived.Shelf.RegionOpen
import Derived.WalkKit
import Derived.TacticsIn
import Derived.TacticsInMore
import Derived.OwnWalkIn
import Derived.Deep.Cut
import Derived.LoopNIn
import Derived.LoopIn
import Derived.Laws.Tables
import Derived.Deep.WholeRow
set_option linter.all false
set_option maxRecDepth 100000
set_option maxHeartbeats 4000000
namespace Go.Proofs.YtmnleknehjkmgaaGreat
open Go.RowKit
attribute [local go_sem] Oper.semAt_some
theorem atV_none {ks : List Int} : ∀ {L : List Tr}, (∀ j, j < L.length → (L.getD j tr0).1 ∉ ks) → atV ks L = none
  | [], _ => rfl
  | t :: r, h => by
    unfold atV
    rw [atV_none (L := r) (fun j hj => by have := h (j + 1) (by simp; omega); rwa [List.getD_cons_succ] at this)]
    exact if_neg (h 0 (by simp))
theorem atV_last {ks : List Int} : ∀ {L : List Tr} {k : Nat}, k < L.length → (L.getD k tr0).1 ∈ ks → (∀ j, k < j → j < L.length → (L.getD j tr0).1 ∉ ks) → atV ks L = some k
  | [], k, hk, _, _ => by simp at hk
  | t :: r, 0, _, h1, h2 => by
    unfold atV
    rw [atV_none (L := r) (fun j hj => by have := h2 (j + 1) (by omega) (by simp; omega); rwa [List.getD_cons_succ] at this)]
    exact if_pos h1
  | t :: r, k + 1, hk, h1, h2 => by
    unfold atV
    rw [List.getD_cons_succ] at h1
    rw [atV_last (L := r) (by simpa using hk) h1 (fun j hj hl => by have := h2 (j + 1) (by omega) (by simp; omega); rwa [List.getD_cons_succ] at this)]
def atI (ks : List Int) (L : List Tr) : Int := match atV ks L with
  | some k => k
  | none => -1
def KeepN (N : Nat) (W W' : World) : Prop := ∀ k, k < N → W'.heap[k]? = W.heap[k]?
theorem KeepN.trans {N : Nat} {A B C : World} (h : KeepN N A B) (k : KeepN N B C) : KeepN N A C := fun x hx => (k x hx).trans (h x hx)
theorem KeepN.of_below {N B : Nat} {W W' : World} (h : Below B W W') (hN : N ≤ B) : KeepN N W W' := fun k hk => h.block k (by omega)
theorem KeepN.put {N : Nat} (W : World) (l : Nat) (o' : Obj) (hl : N ≤ l) : KeepN N W (W.putObj l o') := fun k hk => World.putObj_heap_other (by omega)
theorem KeepN.cell {N : Nat} {W W' : World} (h : KeepN N W W') {a : Addr} (ha : a.block < N) : W'.cell? a = W.cell? a := World.cell?_of_block (h _ ha)
theorem OpsP.keepN {N : Nat} {W W' : World} {A : Option Addr} {L : List Tr} (h : OpsP W A L) (k : KeepN N W W') (hA : ∀ a, A = some a → L ≠ [] → a.block < N) : OpsP W' A L := by
  by_cases hL : L = []
  · exact .inl hL
  rcases h with h | ⟨b, off, rfl, hc⟩
  · exact absurd h hL
  · have hb : b < N := hA _ rfl hL
    refine .inr ⟨b, off, rfl, fun j hj => ?_⟩
    obtain ⟨h1, h2, h3⟩ := hc j hj
    exact ⟨(k.cell (a := ⟨b, _, none⟩) hb).trans h1, (k.cell (a := ⟨b, _, none⟩) hb).trans h2, (k.cell (a := ⟨b, _, none⟩) hb).trans h3⟩
def opdV (t : Tr) : Value := .agg #[.int .i64 t.1, .int .i64 t.2.1, .int .i64 t.2.2]
def BackE (L : List Tr) (pre : List (Nat × Tr)) (x : Nat × Tr) (W : World) : Prop := pre.length < L.length ∧ x.1 = L.length - 1 - pre.length ∧ x.2 = L.getD x.1 tr0
theorem backward_any (A : Option Addr) (n cap : Nat) (w : World) : Calls Tryz.prog 142 #[.slice A n cap] w fun e w' => e = .returned (.func (.func 152) #[] #[.pointer (some ⟨w.heap.size, 0, none⟩)]) ∧ w.alloc (.cells #[.slice A n cap] 30) = w' := by
  go_enter Tryz.func142, Tryz.ntmps142
  go_wp2
  go_ret
  exact ⟨rfl, rfl⟩
theorem back_tells (n : Nat) (Bs : Nat) (A : Option Addr) (cap l : Nat) (L : List Tr) (hl : L.length = l) (hL : l ≤ 1000) (N : Nat) (w : World) (hs : Boxed w Bs 30 (.slice A l cap)) (hP : OpsP w A L) (hB : Bs < N) (hA : ∀ a, A = some a → L ≠ [] → a.block < N) (hN : N ≤ w.heap.size) :
    Stops.TellsW Fence.wide n Tryz.prog 152 #[.pointer (some ⟨Bs, 0, none⟩)] (fun x : Nat × Tr => #[.int .i64 x.1, opdV x.2]) (BackE L) (KeepN N) (fun ys => ys.length = L.length) w := fun lp J Jx W hW hJ hY hJx h0 => by
  have hJd : ∀ (m : Nat) (z : List (Nat × Tr)) (X : World), J z X → J z (X.drewN m) := fun m z X h => hJ z X _ none h ⟨rfl, rfl, rfl, Nat.le_refl _, fun _ _ _ => rfl⟩ (fun r e => by cases e)
  have kb : Boxed W Bs 30 (.slice A l cap) := Boxed.under hs hW
  have kp : OpsP W A L := hP.below hW
  have hc := kb.cell
  have KB := Lib.hid kb
  have KPP := Lib.hid kp
  have J0 := Lib.hid h0
  have HY := Lib.hid hY
  have HL := Lib.hid hl
  have HA := Lib.hid hA
  have HJd := Lib.hid hJd
  clear h0 hY hJ hJx hW hs hP kb kp hl hA hN hJd
  refine callsIn_wide.2 ?_
  show Calls Tryz.prog 152 #[.func (.yield lp) #[] #[], .pointer (some ⟨Bs, 0, none⟩)] W _
  go_enter Tryz.func152, Tryz.ntmps152
  go_wp2
  go_loopw [3] (fun i wr => ∃ (pre : List (Nat × Tr)), pre.length ≤ l ∧ i = .int .i64 ((l : Int) - 1 - (pre.length : Int)) ∧ Hid (KeepN N W wr) ∧ Hid (J pre wr)) (fun i _ => (intOf i + 1).toNat)
  case atStart => exact ⟨[], Nat.zero_le _, by simp, fun _ _ => rfl, J0.out⟩
  case round =>
    clear J0 hc
    obtain ⟨pre, hpl, rfl, KK, JJ⟩ := hrel
    by_cases hlt : pre.length < l
    · obtain ⟨j, hj⟩ : ∃ j : Nat, j = l - 1 - pre.length := ⟨_, rfl⟩
      have hji : (l : Int) - 1 - (pre.length : Int) = (j : Int) := by omega
      have hjL : j < L.length := by have := HL.out; omega
      obtain ⟨b, off, rfl, -, p0, p1, p2⟩ := (KPP.out.keepN KK.out HA.out).at_ hjL
      have hgd : L.getD j tr0 = L[j] := by rw [List.getD_eq_getElem?_getD, List.getElem?_eq_getElem hjL]; rfl
      rw [← hgd] at p0 p1 p2
      have E : Hid (BackE L pre (j, L.getD j tr0) wr) := ⟨by rw [HL.out]; exact hlt, by rw [HL.out]; exact hj, rfl⟩
      obtain ⟨t, ht⟩ : ∃ t, L.getD j tr0 = t := ⟨_, rfl⟩
      rw [ht] at p0 p1 p2 E
      obtain ⟨t0, t1, t2⟩ := t
      simp only at p0 p1 p2
      have hjl : j < l := by omega
      have hjc : (j : Int) < (l : Int) := by omega
      have hc : wr.cell? ⟨Bs, 0, none⟩ = some (.slice (some ⟨b, off, none⟩) l cap) := (KK.out.cell (a := ⟨Bs, 0, none⟩) hB).trans KB.out.cell
      have hyd := HY.out pre (j, t0, t1, t2) wr JJ.out E.out
      have PL : Hid (pre.length + 1 + j = l) := by show pre.length + 1 + j = l; omega
      rw [hji]
      obtain ⟨fn, tmps, assign, body, hy, hR⟩ := hyd
      simp only [opdV] at hy
      clear hji hgd ht hjL E hlt hpl hj
      go_upto_region 3 with fail
      refine (wpIn_wide (n := n)).1 ?_
      gi_wp2
      refine ⟨fun h => (by cases h), hR.mono ?_⟩
      rintro e3 W3 (⟨rfl, hJ3, hk3⟩ | ⟨rfl, hJx3⟩)
      · have K3 := Lib.hid (KK.out.trans hk3)
        have J3 := Lib.hid hJ3
        clear hJ3 hk3 hR hy
        gi_wp2
        go_wp2
        go_roundw
        case rel => exact ⟨pre ++ [(j, t0, t1, t2)], by have := PL.out; simp; omega, by have := PL.out; simp; omega, K3.out, J3.out⟩
        case measure => simp [intOf]
      · clear hR hy
        gi_wp2
        go_wp2
        refine bodyPost_ret (results_none rfl _ _ _) rfl ?_
        exact ⟨⟨_, rfl⟩, .inr ⟨_, hJx3⟩⟩
    · have P : Hid (pre.length = L.length) := by have := HL.out; show _ = _; omega
      have hji : (l : Int) - 1 - (pre.length : Int) = -1 := by omega
      rw [hji]
      go_wp2
      go_end0
      have h := JJ.out
      exact ⟨⟨_, rfl⟩, .inl ⟨_, P.out, h⟩⟩
theorem vat_any (x : Vr) (v : Value) (s : ByteArray) (A : Option Addr) (cap l : Nat) (L : List Tr) (hl : L.length = l) (hL : l ≤ 1000) (w : World) (hv : VarA w v x) (H : OpsP w A L) :
    Calls Tryz.prog 126 #[v, .agg #[.string s, .slice A l cap]] w fun e w' => e = .returned (.int .i64 (atI x.1 L)) ∧ Below w.heap.size w w' := by
  obtain ⟨b1, b2, b3, Ak, ck, rfl, v1, v2, v3, v4, v5⟩ := hv
  obtain ⟨ks, hks⟩ : ∃ ks, x.1 = ks := ⟨_, rfl⟩
  rw [hks] at v1 v2 v5 ⊢
  clear hks v3 v4
  obtain ⟨f2, hf2⟩ : ∃ f : Value, Value.func (.func 139) #[] #[.pointer (some ⟨b2, 0, none⟩), .pointer (some ⟨b3, 0, none⟩)] = f := ⟨_, rfl⟩
  obtain ⟨w0, hw0⟩ : ∃ w0, ((w.alloc (.cells #[.func (.func 137) #[] #[.pointer (some ⟨b1, 0, none⟩)], .func (.func 139) #[] #[.pointer (some ⟨b2, 0, none⟩), .pointer (some ⟨b3, 0, none⟩)]] 153)).alloc (.cells #[.string s, .slice A l cap] 32)).alloc (.cells #[.int .i64 0] 3) = w0 := ⟨_, rfl⟩
  obtain ⟨n, hn⟩ : ∃ n, w.heap.size = n := ⟨_, rfl⟩
  have z0 : w0.heap.size = n + 1 + 1 + 1 := by rw [← hw0, ← hn]; simp
  have b0 : Below n w w0 := by rw [← hw0, ← hn]; exact (((Below.refl _ w).alloc (Nat.le_refl _) _).alloc (by simp) _).alloc (by simp; omega) _
  have c0 : w0.heap[n]? = some (.cells #[.func (.func 137) #[] #[.pointer (some ⟨b1, 0, none⟩)], f2] 153 (0, 0)) := by
    rw [← hw0, ← hn, ← hf2]
    exact (Below.heap_alloc _ _ _ (by simp; omega)).trans ((Below.heap_alloc _ _ _ (by simp)).trans (World.alloc_heap_new w _))
  have c1 : w0.heap[n + 1]? = some (.cells #[.string s, .slice A l cap] 32 (0, 0)) := by
    rw [← hw0, ← hn]
    refine (Below.heap_alloc _ _ _ (by simp)).trans ?_
    have h := World.alloc_heap_new (w.alloc (.cells #[.func (.func 137) #[] #[.pointer (some ⟨b1, 0, none⟩)], .func (.func 139) #[] #[.pointer (some ⟨b2, 0, none⟩), .pointer (some ⟨b3, 0, none⟩)]] 153)) (.cells #[.string s, .slice A l cap] 32)
    rwa [World.size_alloc] at h
  have c2 : Boxed w0 (n + 1 + 1) 3 (.int .i64 0) := by
    rw [← hw0, ← hn]
    have h := Boxed.new ((w.alloc (.cells #[.func (.func 137) #[] #[.pointer (some ⟨b1, 0, none⟩)], .func (.func 139) #[] #[.pointer (some ⟨b2, 0, none⟩), .pointer (some ⟨b3, 0, none⟩)]] 153)).alloc (.cells #[.string s, .slice A l cap] 32)) 3 (.int .i64 0)
    rwa [World.size_alloc, World.size_alloc] at h
  rw [hf2] at hw0
  have hbk := backward_any A l cap w0
  rw [z0] at hbk
  have k1 := Lib.cell_of_heap c1 1
  refine callsIn_wide.1 (callsIn_of_wp_marks (n := 3) Tryz.func126 rfl trivial ?_ rfl)
  simp only [Tryz.ntmps126, List.size_toArray, List.length_cons, List.length_nil, Nat.reduceAdd, Nat.reduceSub, Array.replicate_succ, Array.replicate_zero, List.push_toArray, List.append_toArray, List.nil_append, List.cons_append]
  refine wpIn_wide.2 ?_
  rw [hf2]
  go_wp2_with fail
  refine hbk.mono ?_
  rintro e W0 ⟨rfl, hW0⟩
  have hs : Boxed W0 (n + 1 + 1 + 1) 30 (.slice A l cap) := by
    have h := Boxed.new w0 30 (.slice A l cap)
    rw [hW0, z0] at h
    exact h
  have zW : W0.heap.size = n + 1 + 1 + 1 + 1 := by rw [← hW0]; simp; omega
  have bW : Below w0.heap.size w0 W0 := by rw [← hW0]; exact (Below.refl _ _).alloc (Nat.le_refl _) _
  have d0 := (bW.block n (by omega)).trans c0
  have d2 : Boxed W0 (n + 1 + 1) 3 (.int .i64 0) := (bW.block _ c2.lt).trans c2
  have bN : Below n w W0 := b0.trans (bW.mono (by omega))
  have HW : OpsP W0 A L := H.below (by rw [hn]; exact bN)
  have hA : ∀ a, A = some a → L ≠ [] → a.block < n := fun a ha hne => by
    rcases H with h | ⟨bb, off, e, hc⟩
    · exact absurd h hne
    · rw [ha] at e
      obtain rfl := Option.some.inj e
      have h9 : bb < w.heap.size := World.block_lt_of_cell? w _ (hc 0 (List.length_pos_iff.2 hne)).1
      show bb < n
      omega
  have v1' : Boxed W0 b1 38 (.slice Ak ks.length ck) := Boxed.under v1 (by rw [hn]; exact bN)
  have v2' : KsP W0 Ak ks := v2.below (by rw [hn]; exact bN)
  have hseq := back_tells 2 (n + 1 + 1 + 1) A cap l L hl hL (n + 1 + 1 + 1 + 1) W0 hs HW (by omega) (fun a h1 h2 => by have := hA a h1 h2; omega) (by omega)
  have HL := Lib.hid hl
  have HN := Lib.hid hn
  have BN := Lib.hid bN
  have D0 := Lib.hid d0
  have D2 := Lib.hid d2
  have V1 := Lib.hid v1'
  have V2 := Lib.hid v2'
  have V5 := Lib.hid v5
  clear hbk hs bW b0 c0 c1 c2 hW0 hw0 hn z0 hl hA H HW v1 v2 v1' v2' v5 k1 w0 d0 d2 bN hf2
  go_wp2_with fail
  refine wpIn_wide.1 (Stops.wpIn_tellsW (F := Fence.wide) (n := 3) rfl (by omega) (gf := 152) (lb := #[.pointer (some ⟨n + 1 + 1 + 1, 0, none⟩)]) rfl trivial (enters_of Tryz.func152 (by kernel_rfl) rfl)
    hseq (fun h k => h.trans k) (fun W l o o' hl _ _ => KeepN.put W l o' (by omega)) (fun _ => rfl)
    (fun pre W => (∀ j, l ≤ j + pre.length → j < l → (L.getD j tr0).1 ∉ ks) ∧ Below (n + 1 + 1 + 1 + 1) W0 W)
    (fun pre W => ∃ k, atV ks L = some k ∧ Boxed W (n + 1 + 1) 3 (.int .i64 (k : Nat)) ∧ Below n w W)
    (fun s X Y row h hg hr => ⟨h.1, h.2.grown hg (by have := h.2.size; omega) fun r e => by have := (hr r e).1; omega⟩)
    (fun s X Y row h hg hr => by
      obtain ⟨k, h1, h2, h3⟩ := h
      have hne : ∀ k, k < n + 1 + 1 + 1 + 1 → some k ≠ row := fun k hk e => by have := (hr k e.symm).1; omega
      exact ⟨k, h1, h2.kept hg (hne _ (by omega)), h3.grown hg (by have := h2.lt; omega) fun r e => by have := (hr r e).1; omega⟩)
    ⟨fun j h1 h2 => by simp at h1; omega, Below.refl _ _⟩
    (fun pre x a' W => BackE L pre x W ∧ ∃ b, n + 4 ≤ b ∧ W.heap[b]? = some (.cells #[.int .i64 x.2.1, .int .i64 x.2.2.1, .int .i64 x.2.2.2] 67 (0, 0)) ∧ a' = { tmps := #[.agg #[.func (.func 137) #[] #[.pointer (some ⟨b1, 0, none⟩)], f2], .agg #[.string s, .slice A l cap], .pointer (some ⟨n, 0, none⟩), .pointer (some ⟨n + 1, 0, none⟩), .pointer (some ⟨n + 1 + 1, 0, none⟩), .int .i64 x.1, .pointer (some ⟨b, 0, none⟩), .pointer (some ⟨n + 1, 1, none⟩), .slice A l cap, .func (.func 152) #[] #[.pointer (some ⟨n + 1 + 1 + 1, 0, none⟩)], .int .i64 x.1, opdV x.2, undef, undef, undef, undef, undef], defers := [] })
    (fun pre x s X Y row h hg hr => by
      obtain ⟨h0, b, h1, h2, h3⟩ := h
      exact ⟨h0, b, h1, (grownBy_keeps_cells hg (fun r e => (hr r e).2) h2 rfl).trans h2, h3⟩)
    ?assign ?body ?done ?stop)
  case assign =>
    rintro lp pre ⟨k, t0, t1, t2⟩ W K hI hE hK
    simp only [opdV]
    gi_wp2
    refine hK _ _ ((KeepsOthers.alloc _ _).from _) (KeepN.of_below ((Below.refl (n + 1 + 1 + 1 + 1) W).alloc (by have := hI.2.size; omega) _) (Nat.le_refl _)) ⟨hI.1, hI.2.alloc (by have := hI.2.size; omega) _⟩ ⟨hE, W.heap.size, by have := hI.2.size; omega, World.alloc_heap_new W _, rfl⟩
  case body =>
    rintro lp pre ⟨k, t0, t1, t2⟩ a' W ⟨g1, g2⟩ ⟨hE, b, hb, hc, rfl⟩
    obtain ⟨e1, e2, e3⟩ := hE
    simp only at e1 e2 e3 hc
    have q0 := Lib.cell_of_heap hc 0
    have q1 := Lib.cell_of_heap hc 1
    have q2 := Lib.cell_of_heap hc 2
    have d0 := (g2.block n (by omega)).trans D0.out
    have p0 := Lib.cell_of_heap d0 0
    have his := isIn_any b1 Ak ck ks.length ks rfl V5.out (t0, t1, t2) W (Boxed.under V1.out (by rw [zW]; exact g2)) (V2.out.below (by rw [zW]; exact g2))
    simp only at his
    have KL : Hid (pre.length < l) := by rw [← HL.out]; exact e1
    have KE : Hid (k = l - 1 - pre.length) := by rw [← HL.out]; exact e2
    have KT : Hid ((L.getD k tr0).1 = t0) := by show (L.getD k tr0).1 = t0; rw [← e3]
    have G := Lib.hid (And.intro g1 (And.intro g2 hb))
    have hWb : Hid (n + 4 ≤ W.heap.size) := by have := g2.size; show _ ≤ _; omega
    simp only [opdV]
    by_cases hin : t0 ∈ ks
    · have HI := Lib.hid hin
      rw [decide_eq_true hin] at his
      have x2 : Boxed W (n + 1 + 1) 3 (.int .i64 0) := (g2.block _ (by omega)).trans D2.out
      have X2 := Lib.hid x2
      clear hc d0 g1 g2 hb e1 e2 e3 hin x2
      gi_wp2_with fail
      refine ⟨trivial, CallsIn.inRound lp (callsIn_wide.2 his) |>.mono ?_⟩
      rintro e w' ⟨rfl, hb⟩
      have y := Boxed.under X2.out hb
      have y5 := y.cell
      have y6 := y.frozen
      have Y := Lib.hid y
      have BW := Lib.hid hb
      clear his hb y
      gi_wp2
      have hb1 : Below W.heap.size W w' := BW.out
      refine ⟨(keepsFrom_below hb1 _).trans (KeepsOthers.from (KeepsOthers.setCell _ _ _) _), k, ?_, ?_, ?_⟩
      · refine atV_last (by rw [HL.out]; have := KL.out; have := KE.out; omega) (by rw [KT.out]; exact HI.out) (fun j h1 h2 => G.out.1 j (by have := KE.out; have := KL.out; omega) (by rw [← HL.out]; exact h2))
      · exact Boxed.set _ Y.out
      · exact (BN.out.trans ((G.out.2.1.mono (by omega)).trans (hb1.mono (by have := hWb.out; omega)))).setCell (p := ⟨n + 1 + 1, 0, none⟩) (by simp; omega) _
    · have HI := Lib.hid hin
      rw [decide_eq_false hin] at his
      clear hc d0 g1 g2 hb e1 e2 e3 hin
      gi_wp2_with fail
      refine ⟨trivial, CallsIn.inRound lp (callsIn_wide.2 his) |>.mono ?_⟩
      rintro e w' ⟨rfl, hb⟩
      have P : Hid (KeepsFrom W0.heap.size W w' ∧ KeepN (n + 1 + 1 + 1 + 1) W w' ∧ (∀ j, l ≤ j + (pre ++ [((k, t0, t1, t2) : Nat × Tr)]).length → j < l → (L.getD j tr0).1 ∉ ks) ∧ Below (n + 1 + 1 + 1 + 1) W0 w') := by
        refine ⟨keepsFrom_below hb _, KeepN.of_below hb hWb.out, fun j h1 h2 => ?_, G.out.2.1.trans (hb.mono hWb.out)⟩
        by_cases e : j = k
        · subst e; rw [KT.out]; exact HI.out
        · exact G.out.1 j (by have := KE.out; have := KL.out; simp at h1; omega) h2
      clear his hb
      gi_wp2
      exact P.out
  case done =>
    rintro D ys W hD hys ⟨g1, g2⟩ hK
    have b2 : Boxed W (n + 1 + 1) 3 (.int .i64 0) := (g2.block _ (by omega)).trans D2.out
    have y5 := b2.cell
    have y6 := b2.frozen
    have X2 := Lib.hid b2
    have HK := Lib.hid hK
    have FN : Hid (atI ks L = -1) := by
      show atI ks L = -1
      unfold atI
      rw [atV_none (fun j hj => g1 j (by rw [hys, HL.out]; omega) (by rw [← HL.out]; exact hj))]
    have BW : Hid (Below n w W) := BN.out.trans (g2.mono (by omega))
    have HD := Lib.hid hD
    clear g1 g2 hK b2 hD hseq hys
    go_wp2
    have z1 := Boxed.set (.int .i64 (-1)) X2.out
    have z2 : KeepsOthers W (W.setCell ⟨n + 1 + 1, 0, none⟩ (.int .i64 (-1))) := KeepsOthers.setCell _ _ _
    have z3 : Below n w (W.setCell ⟨n + 1 + 1, 0, none⟩ (.int .i64 (-1))) := BW.out.setCell (p := ⟨n + 1 + 1, 0, none⟩) (by simp; omega) _
    obtain ⟨w2, hw2⟩ : ∃ w2, W.setCell ⟨n + 1 + 1, 0, none⟩ (.int .i64 (-1)) = w2 := ⟨_, rfl⟩
    rw [hw2] at z1 z2 z3 ⊢
    have hK2 : w2.heap[D]? = some (.deferred (some [])) := z2.same D _ HK.out rfl
    have hg := grownBy_putObj' w2 D (.deferred none)
    have hDn := HD.out
    have q2 := (z1.kept hg (by simp; omega)).cell
    refine ⟨by simp, .inl ⟨_, _, rfl, run_takeDeferred hK2, ?_⟩⟩
    refine ⟨.int .i64 (-1), ?_, ?_⟩
    · simp [results, Tryz.results126, go_sem, q2]
    · have hn0 : w.heap.size = n := HN.out
      exact ⟨by rw [FN.out], by rw [HN.out]; exact z3.trans (belowK_b (w := w) (by omega) w2 D _ _ (by omega) hK2 rfl rfl)⟩
  case stop =>
    rintro D pre W hD ⟨k, h1, h6, h7⟩ hK
    have hg := grownBy_putObj' W D (.deferred none)
    have q2 := (h6.kept hg (by simp; omega)).cell
    have F : Hid (atI ks L = (k : Int)) := by
      show atI ks L = _
      unfold atI
      rw [h1]
    have hn0 : w.heap.size = n := HN.out
    have BB : Hid (Below w.heap.size w (W.putObj D (.deferred none))) := by
      rw [HN.out]; exact h7.trans (belowK_b (w := w) (by omega) W D _ _ (by omega) hK rfl rfl)
    have HK := Lib.hid hK
    clear h1 h6 h7 hK hg hseq hn0
    gi_wp2
    refine ⟨by simp, .inl ⟨_, _, rfl, run_takeDeferred HK.out, ?_⟩⟩
    refine ⟨.int .i64 k, ?_, by rw [F.out], BB.out⟩
    simp [results, Tryz.results126, go_sem, q2]
end Go.Proofs.YtmnleknehjkmgaaGreat
namespace Go.Proofs.YtmnleknehjkmgaaGreat
open Go.RowKit
end Go.Proofs.YtmnleknehjkmgaaGreat
