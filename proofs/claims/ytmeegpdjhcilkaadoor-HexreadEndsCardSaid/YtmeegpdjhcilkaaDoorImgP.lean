/-
  The walk over breadboardref02.Runs: for every list of cells.
-/
import Derived.Test.YtmeegpdjhcilkaaDoorImgAllB
import Derived.OneCell
import Derived.Deep.AppendLies
namespace Go.Proofs.YtmeegpdjhcilkaaDoor.Im
open Go.RowKit
set_option linter.unusedVariables false

/-- The row of runs under way: its last run's bytes are a row of the call's own. -/
def RR (w wr : World) (v : Value) (init : List R) (last : R) : Prop :=
  OwnR 61 (w.heap.size ≤ ·) w wr v (init ++ [last]) ∧
  wr.ownsRow w.heap.size 5 1 (.slice last.A last.data.length last.cap) last.data.length (last.data.map u8V) ∧
  ((Value.slice last.A last.data.length last.cap).ownBlock = none ∨ (Value.slice last.A last.data.length last.cap).ownBlock ≠ v.ownBlock) ∧
  ∀ r ∈ init, BytesP (fun i => w.heap.size ≤ i ∧ some i ≠ v.ownBlock ∧ some i ≠ (Value.slice last.A last.data.length last.cap).ownBlock) wr r.A r.data
theorem RR.drew {w wr : World} {v : Value} {init : List R} {last : R} (h : RR w wr v init last) : RR w wr.drew v init last :=
  ⟨h.1.below (Below.refl _ _).drew, h.2.1, h.2.2.1, fun r hr => (h.2.2.2 r hr).blocks fun _ _ _ => rfl⟩
/-- A run without bytes is appended. -/
theorem RR.fresh {w wr : World} {v : Value} {rs : List R} (a : Int) (h : OwnR 61 (w.heap.size ≤ ·) w wr v (rs ++ [⟨a, none, 0, []⟩])) : RR w wr v rs ⟨a, none, 0, []⟩ :=
  ⟨h, World.ownsRow_nil _ _ _ _, .inl rfl, fun r hr => (h.2.2 r (List.mem_append_left _ hr)).mono fun i _ hi => ⟨hi.1, hi.2, by simp [Value.ownBlock]⟩⟩
theorem RR.of {w wr : World} {v : Value} {init : List R} {last : R} (h : RR w wr v init last) : ∃ g cap, v = .slice (some ⟨g, 0, none⟩) (init.length + 1) cap ∧ w.heap.size ≤ g ∧ g < wr.heap.size ∧
    wr.cell? ⟨g, init.length * 2 + 1, none⟩ = some (.slice last.A last.data.length last.cap) ∧ wr.frozen? ⟨g, init.length * 2 + 1, none⟩ = false := by
  obtain ⟨h1, _⟩ := h
  have hl : (init ++ [last]).length = init.length + 1 := by simp
  rcases h1.1.2 with ⟨_, h0⟩ | ⟨g, cap, cur, rfl, hb, hg, _⟩
  · rw [hl] at h0; omega
  · refine ⟨g, cap, by rw [hl], hb, (Array.getElem?_eq_some_iff.1 hg).1, ?_, frozen_of_row wr g _ cur _ hg⟩
    rw [h1.1.cellAt _ (by omega), (runsV_get (init ++ [last]) init.length (by omega)).2]
    simp
theorem runsV_set (init : List R) (last new : R) (h : new.addr = last.addr) : (runsV (init ++ [last])).set (init.length * 2 + 1) (.slice new.A new.data.length new.cap) = runsV (init ++ [new]) := by
  rw [runsV_append, runsV_append, List.set_append_right _ _ (by rw [runsV_length]; omega), runsV_length, show init.length * 2 + 1 - init.length * 2 = 1 by omega]
  unfold runsV
  simp [h]
/-- Bytes were appended to the last run's, and the new slice was stored. -/
theorem RR.next {w wr w1 w2 : World} {v : Value} {init : List R} {last : R} (h : RR w wr v init last) (hb : Below wr.heap.size wr w1) {g cap : Nat} (hv : v = .slice (some ⟨g, 0, none⟩) (init.length + 1) cap) (x : UInt8) (A : Option Addr) (c : Nat)
    (h2 : w2.ownsRow w.heap.size 5 1 (.slice A (last.data.length + 1) c) (last.data.length + 1) (last.data.map u8V ++ [u8V x])) (hg : w1.grownBy w2 (Value.slice last.A last.data.length last.cap).ownBlock)
    (ho : (Value.slice A (last.data.length + 1) c).ownBlock = (Value.slice last.A last.data.length last.cap).ownBlock ∨ (Value.slice A (last.data.length + 1) c).ownBlock = some w1.heap.size) :
    RR w (w2.setCell ⟨g, init.length * 2 + 1, none⟩ (.slice A (last.data.length + 1) c)) v init ⟨last.addr, A, c, last.data ++ [x]⟩ := by
  have hO := h.1.below hb
  have hlt : g < wr.heap.size := by
    have := (h.1.1.lt g (by rw [hv]; rfl)).2
    exact this
  have hltB : w.heap.size ≤ g := (h.1.1.lt g (by rw [hv]; rfl)).1
  have hvb : v.ownBlock = some g := by rw [hv]; rfl
  have hs1 := hb.size
  have hne : (Value.slice A (last.data.length + 1) c).ownBlock ≠ some g := by
    rcases ho with e | e
    · rw [e]
      rcases h.2.2.1 with e2 | e2
      · rw [e2]; simp
      · rw [hvb] at e2; exact e2
    · rw [e]
      intro e3
      have := Option.some.inj e3
      omega
  have hlg : (Value.slice last.A last.data.length last.cap).ownBlock ≠ some g := by
    rcases h.2.2.1 with e2 | e2
    · rw [e2]; simp
    · rw [hvb] at e2; exact e2
  have hkept : w2.ownsRow w.heap.size 61 2 v (init ++ [last]).length (runsV (init ++ [last])) := hO.1.kept hg (.inr (by rw [hvb]; exact fun e => hlg e.symm))
  have hl1 : (init ++ [last]).length = init.length + 1 := by simp
  have hst : (w2.setCell ⟨g, init.length * 2 + 1, none⟩ (.slice A (last.data.length + 1) c)).ownsRow w.heap.size 61 2 v (init ++ [(⟨last.addr, A, c, last.data ++ [x]⟩ : R)]).length (runsV (init ++ [⟨last.addr, A, c, last.data ++ [x]⟩])) := by
    have hk := hkept
    rw [hv, hl1] at hk
    have := (hk.stored (init.length * 2 + 1) (.slice A (last.data.length + 1) c)).1
    have e := runsV_set init last ⟨last.addr, A, c, last.data ++ [x]⟩ rfl
    simp only [List.length_append, List.length_cons, List.length_nil, Nat.zero_add] at e
    rw [e] at this
    rw [hv]
    simpa using this
  have hBel : Below w.heap.size w (w2.setCell ⟨g, init.length * 2 + 1, none⟩ (.slice A (last.data.length + 1) c)) := (hO.2.1.grown hg hO.2.1.size fun k hk => (h.2.1.lt k hk).1).setCell hltB _
  have hnew : (w2.setCell ⟨g, init.length * 2 + 1, none⟩ (.slice A (last.data.length + 1) c)).ownsRow w.heap.size 5 1 (.slice A (last.data ++ [x]).length c) (last.data ++ [x]).length ((last.data ++ [x]).map u8V) := by
    have := ownsRow_setCell_other (a := (⟨g, init.length * 2 + 1, none⟩ : Addr)) h2 hne (.slice A (last.data.length + 1) c)
    simpa using this
  have hinit : ∀ r ∈ init, BytesP (fun i => w.heap.size ≤ i ∧ some i ≠ v.ownBlock ∧ some i ≠ (Value.slice A (last.data ++ [x]).length c).ownBlock) (w2.setCell ⟨g, init.length * 2 + 1, none⟩ (.slice A (last.data.length + 1) c)) r.A r.data := fun r hr => by
    have q0 := (h.2.2.2 r hr).mono (Q := fun i => (w.heap.size ≤ i ∧ some i ≠ v.ownBlock ∧ some i ≠ (Value.slice last.A last.data.length last.cap).ownBlock) ∧ i < wr.heap.size) fun i hi hp => ⟨hp, hi⟩
    have q1 := q0.below hb
    have q2 := q1.blocks (w' := w2) fun i hi hp => hg.block i hi hp.1.2.2
    have q3 := q2.blocks (w' := w2.setCell ⟨g, init.length * 2 + 1, none⟩ (.slice A (last.data.length + 1) c)) fun i hi hp => Below.heap_setCell _ _ _ _ (fun e => hp.1.2.1 (by rw [hvb]; exact congrArg some e))
    refine q3.mono fun i _ hp => ⟨hp.1.1, hp.1.2.1, ?_⟩
    have e1 : (Value.slice A (last.data ++ [x]).length c).ownBlock = (Value.slice A (last.data.length + 1) c).ownBlock := by cases A <;> rfl
    rw [e1]
    rcases ho with e | e
    · rw [e]; exact hp.1.2.2
    · rw [e]
      intro e3
      have := Option.some.inj e3
      have := hp.2
      omega
  refine ⟨⟨hst, hBel, fun r hr => ?_⟩, hnew, .inr ?_, hinit⟩
  · rcases List.mem_append.1 hr with hr | hr
    · exact (hinit r hr).mono fun i _ hp => ⟨hp.1, hp.2.1⟩
    · rw [List.mem_singleton.1 hr]
      obtain ⟨A', c', e, hB⟩ := own_bytes hnew rfl
      simp only [Value.slice.injEq, true_and] at e
      obtain ⟨rfl, rfl⟩ := e
      refine hB.mono fun i _ hp => ⟨hp.1, ?_⟩
      rw [hp.2, hvb]
      have e1 : (Value.slice A (last.data ++ [x]).length c).ownBlock = (Value.slice A (last.data.length + 1) c).ownBlock := by cases A <;> rfl
      rw [e1]
      exact hne
  · rw [hvb]
    have e1 : (Value.slice A (last.data ++ [x]).length c).ownBlock = (Value.slice A (last.data.length + 1) c).ownBlock := by cases A <;> rfl
    show (Value.slice A (last.data ++ [x]).length c).ownBlock ≠ _
    rw [e1]
    exact hne

theorem pairs_last {init : List R} {last : R} {l : List Rn} (h : pairs (init ++ [last]) = pairN l) : ∃ out r, l = out ++ [r] ∧ pairs init = pairN out ∧ last.addr = (r.1 : Int) ∧ last.data = r.2 := by
  rcases snoc_cases l with rfl | ⟨out, r, rfl⟩
  · have := congrArg List.length h
    unfold pairs pairN at this
    simp at this
  · rw [pairs_snoc, pairN_snoc] at h
    obtain ⟨h1, h2⟩ := List.append_inj' h rfl
    simp only [List.cons.injEq, Prod.mk.injEq, and_true] at h2
    exact ⟨out, r, rfl, h1, h2.1, h2.2⟩
theorem runs_first (W : List Cel) (hk : 0 < W.length) : pairN (runsW (W.take 1)) = [((W[0].1 : Int), [W[0].2])] := by
  cases W with
  | nil => simp at hk
  | cons c t => rfl
theorem take_snoc_cell (W : List Cel) (k : Nat) (hk : k < W.length) : runsW (W.take (k + 1)) = addCell (runsW (W.take k)) W[k] := by
  rw [List.take_succ_eq_append_getElem hk, runsW_snoc]
theorem take_end (W : List Cel) (k : Nat) (hk : k < W.length) : ∃ out r, runsW (W.take (k + 1)) = out ++ [r] ∧ r.1 + r.2.length = W[k].1 + 1 := by
  rw [List.take_succ_eq_append_getElem hk]
  obtain ⟨out, r, h1, h2, _⟩ := runs_end (W.take k) W[k]
  exact ⟨out, r, h1, h2⟩
theorem runs_new (W : List Cel) (k : Nat) (hk : k + 1 < W.length) (h : W[k + 1].1 ≠ W[k].1 + 1) {rs : List R} (hp : pairs rs = pairN (runsW (W.take (k + 1)))) (A : Option Addr) (c : Nat) :
    pairs (rs ++ [⟨(W[k + 1].1 : Int), A, c, [] ++ [W[k + 1].2]⟩]) = pairN (runsW (W.take (k + 1 + 1))) := by
  obtain ⟨out, r, h1, h2⟩ := take_end W k (by omega)
  rw [take_snoc_cell W (k + 1) hk, h1, addCell_other out r _ (by omega), pairs_snoc, hp, h1, pairN_snoc, pairN_snoc, pairN_snoc]
  rfl
theorem runs_more (W : List Cel) (k : Nat) (hk : k + 1 < W.length) (h : W[k + 1].1 = W[k].1 + 1) {init : List R} {last : R} (hp : pairs (init ++ [last]) = pairN (runsW (W.take (k + 1)))) (A : Option Addr) (c : Nat) :
    pairs (init ++ [⟨last.addr, A, c, last.data ++ [W[k + 1].2]⟩]) = pairN (runsW (W.take (k + 1 + 1))) := by
  obtain ⟨out, r, h1, h2⟩ := take_end W k (by omega)
  obtain ⟨out', r', e1, e2, e3, e4⟩ := pairs_last hp
  rw [h1] at e1
  obtain ⟨q1, q2⟩ := List.append_inj' e1 rfl
  simp only [List.cons.injEq, and_true] at q2
  subst q1 q2
  rw [take_snoc_cell W (k + 1) hk, h1, addCell_same out r _ (by omega), pairs_snoc, pairN_snoc, e2, e3, e4]
theorem two_cells (w : World) (n : Nat) (hn : w.heap.size = n) (a c : Value) (t : TypeId) : (w.alloc (.cells #[a, c] t)).cell? ((⟨n, 0, none⟩ : Addr).add 0) = some a ∧ (w.alloc (.cells #[a, c] t)).cell? ((⟨n, 0, none⟩ : Addr).add 1) = some c := by
  subst hn
  constructor <;> simp [go_sem, Addr.add]
theorem CellsP.get {P : Nat → Prop} {w : World} {b off : Nat} {W : List Cel} (h : CellsP P w (some ⟨b, off, none⟩) W) {k : Nat} (hk : k < W.length) :
    w.cell? ⟨b, off + k * 2, none⟩ = some (.int .i64 (W[k].1 : Int)) ∧ w.cell? ⟨b, off + k * 2 + 1, none⟩ = some (.int .u8 (W[k].2.toNat : Int)) := by
  obtain ⟨b', off', h1, h2, h3⟩ := h.at_ hk
  have := Option.some.inj h1
  simp only [Addr.mk.injEq, and_true] at this
  rw [this.1, this.2]
  exact ⟨h2, h3⟩
theorem below_drewN (w : World) (n : Nat) : Below w.heap.size w (w.drewN n) := ⟨rfl, rfl, rfl, Nat.le_refl _, fun _ _ => rfl⟩
theorem RR.below {w wr w' : World} {v : Value} {init : List R} {last : R} (h : RR w wr v init last) (k : Below wr.heap.size wr w') : RR w w' v init last :=
  ⟨h.1.below k, by
    cases hv : (Value.slice last.A last.data.length last.cap).ownBlock with
    | none => exact h.2.1.kept (grownBy_below k none) (.inl hv)
    | some b => exact h.2.1.kept (grownBy_below k none) (.inr (by rw [hv]; simp)), h.2.2.1, fun r hr => (h.2.2.2 r hr).below k⟩
theorem run_data_le {W : List Cel} {init : List R} {last : R} (h : pairs (init ++ [last]) = pairN (runsW W)) : last.data.length ≤ W.length ∧ init.length ≤ W.length := by
  obtain ⟨out, r, e1, e2, _, e4⟩ := pairs_last h
  have h1 := expand_runs W
  rw [e1, expand_append] at h1
  have h2 := congrArg List.length h1
  have h3 : (expand [r]).length = r.2.length := by unfold expand; simp [mkW_length]
  rw [List.length_append, h3] at h2
  have h4 := runs_length_le W
  rw [e1, List.length_append] at h4
  have h5 := pairs_length e2
  rw [e4]
  constructor <;> omega
/-- One byte is appended to the last run's. -/
theorem append_last {w wr wa : World} {v : Value} {init : List R} {last : R} (h : RR w wr v init last) (hb : Below wr.heap.size wr wa) (x : UInt8) (ad : Addr) (c0 : Nat) (hc : wa.cell? (ad.add 0) = some (.int .u8 (x.toNat : Int))) (hlen : last.data.length ≤ 65536) (ty : TypeId) :
    ∃ A c w2, (Builtin.append_ #[59, 59] ty #[.slice last.A last.data.length last.cap, .slice (some ad) 1 c0]).run Tryd.prog wa = .ok (.slice A (last.data.length + 1) c) w2 ∧
      w2.ownsRow w.heap.size 5 1 (.slice A (last.data.length + 1) c) (last.data.length + 1) (last.data.map u8V ++ [u8V x]) ∧ wa.grownBy w2 (Value.slice last.A last.data.length last.cap).ownBlock ∧
      ((Value.slice A (last.data.length + 1) c).ownBlock = (Value.slice last.A last.data.length last.cap).ownBlock ∨ (Value.slice A (last.data.length + 1) c).ownBlock = some wa.heap.size) := by
  obtain ⟨i0, hi, hz0, hz1, hz2⟩ := info_parts info_u8
  have hw := (h.below hb).2.1
  obtain ⟨v', w', k1, k2, k3, _, k5⟩ := run_append_own_at (P := Tryd.prog) wa w.heap.size 59 ty 5 i0 _ 1 1 Tryd.underlying59 hi hz0 hz1 hz2 rfl (by decide) _ last.data.length _ hw ad 1 c0 [u8V x] rfl (fun j u hj => by
      match j, hj with
      | 0, hj => simp at hj; subst hj; exact hc) (fun u hu => by
      rw [List.mem_singleton.1 hu]; rfl) (by unfold maxLen; omega) (by omega) (Nat.le_trans h.1.2.1.size hb.size)
  rcases k2.2 with ⟨_, h0⟩ | ⟨g, cap, cur, rfl, _⟩
  · omega
  · exact ⟨_, cap, w', k1, k2, k3, k5⟩
theorem one_cell (w : World) (n : Nat) (hn : w.heap.size = n) (a : Value) (t : TypeId) : (w.alloc (.cells #[a] t)).cell? ((⟨n, 0, none⟩ : Addr).add 0) = some a := by
  subst hn
  simp [go_sem, Addr.add]
/-- What holds at the head of the loop. -/
def RunsRel (w : World) (W : List Cel) (k : Nat) (v : Value) (wr : World) : Prop :=
  ∃ rs, OwnR 61 (w.heap.size ≤ ·) w wr v rs ∧ pairs rs = pairN (runsW (W.take k)) ∧ (rs = [] ∨ ∃ init last, rs = init ++ [last] ∧ RR w wr v init last) ∧ ∀ r ∈ rs, r.data.length ≤ r.cap
/-- What the call returns, the capacities with it. -/
def RetRunsC (w : World) (l : List Rn) (e : Ending) (w' : World) : Prop :=
  ∃ A cap rs, e = .returned (.slice A rs.length cap) ∧ rs.length ≤ cap ∧ pairs rs = pairN l ∧ RunsP (w.heap.size ≤ ·) (w.heap.size ≤ ·) w' A rs ∧ Below w.heap.size w w' ∧ ∀ r ∈ rs, r.data.length ≤ r.cap
theorem own_capR {w : World} {base : Nat} {e : TypeId} {n s cap : Nat} {A : Option Addr} {xs : List Value} (h : w.ownsRow base e s (.slice A n cap) n xs) : n ≤ cap := by
  rcases h.2 with ⟨h1, h0⟩ | ⟨g, cap', cur, h1, _, _, hc, _⟩
  · omega
  · simp only [Value.slice.injEq, true_and] at h1
    omega

set_option maxHeartbeats 4000000 in
theorem rrunsC_any (P : Nat → Prop) (A : Option Addr) (cap : Nat) (W : List Cel) (hs : SortedW W) (w : World) (hW : CellsP P w A W) :
    Calls Tryd.prog 40 #[.slice A W.length cap] w (RetRunsC w (runsW W)) := by
  have hl := sorted_length hs
  have Z := Lib.hid (hW.mono (Q := fun i => i < w.heap.size) fun i h _ => h)
  have HS := Lib.hid hs
  clear hW hs
  go_enter Tryd.func40, Tryd.ntmps40
  go_wp2
  go_loopw [3, 4] (fun v i wr => ∃ k : Nat, k ≤ W.length ∧ i = .int .i64 k ∧ RunsRel w W k v wr) (fun _ i _ => W.length - (intOf i).toNat)
  case atStart => exact ⟨0, Nat.zero_le _, rfl, [], ownR_start _ _ _, rfl, .inl rfl, fun r hr => absurd hr List.not_mem_nil⟩
  case round =>
    obtain ⟨k, hk, rfl, rs, hO, hE, hR, hC⟩ := hrel
    have CC := Lib.hid hC
    clear hC
    have O := Lib.hid hO
    have E := Lib.hid hE
    have RRR := Lib.hid hR
    clear hO hE hR
    by_cases hlt : k < W.length
    · have Z2 := Lib.hid (Z.out.below O.out.2.1)
      obtain ⟨b, off, hA, g1, g2⟩ := Z2.out.at_ hlt
      subst hA
      have hlt' : (k : Int) < (W.length : Int) := by omega
      have hrs : rs.length ≤ 65536 := by
        rw [pairs_length E.out]
        exact Nat.le_trans (runs_length_le _) (Nat.le_trans (List.length_take_le' _ _) hl)
      have S := Lib.hid hrs
      clear hrs
      obtain ⟨x, hx⟩ : ∃ x : Int, (W[k].1 : Int) = x := ⟨_, rfl⟩
      obtain ⟨z, hz⟩ : ∃ z : UInt8, W[k].2 = z := ⟨_, rfl⟩
      rw [hx] at g1
      rw [hz] at g2
      have HZ : Hid (∀ h : k < W.length, W[k].2 = z) := fun _ => hz
      have hO2 := fun n => O.out.below (show Below wr.heap.size wr (wr.drewN n) from ⟨rfl, rfl, rfl, Nat.le_refl _, fun _ _ => rfl⟩)
      by_cases hk0 : k = 0
      case' pos =>
        have e0 : ((k : Int) == 0) = true := by rw [hk0]; rfl
        have hrs0 : rs = [] := by
          have := pairs_length E.out
          rw [hk0] at this
          exact List.eq_nil_of_length_eq_zero this
        have hE2 : ∀ A c, pairs (rs ++ [⟨x, A, c, [] ++ [z]⟩]) = pairN (runsW (W.take (k + 1))) := fun A c => by
          rw [hrs0]
          subst hk0
          rw [runs_first W hlt, ← hx, ← hz]
          rfl
        have E2 := Lib.hid hE2
        clear hE2 hrs0 hx hz hk0
        have HL := Lib.hid hlt
        clear hlt
        go_wp2_with fail
        go_quiet (fail)
        obtain ⟨ob, hob⟩ : ∃ o, Obj.cells #[.int .i64 x, .slice none 0 0] 61 = o := ⟨_, rfl⟩
        have hO3 := (hO2 nq).alloc ob
        rw [← hob] at hO3
        have O3 := Lib.hid hO3
        clear hO3 hob
        go_wp2_with (at_builtin; refine wpList_appR 22 61 Tryd.underlying22 info_rrun O3.out ⟨x, none, 0, []⟩ ⟨wr.heap.size, 0, none⟩ 1 (two_cells (wr.drewN nq) _ rfl _ _ _).1 (two_cells (wr.drewN nq) _ rfl _ _ _).2 (.inl rfl) (Nat.le_trans S.out (by omega)) rfl _ _ rfl rfl rfl ?_)
        intro v' wx hO4 _ _
        obtain ⟨init, last, RX, EX, CI⟩ : ∃ init last, Hid (RR w wx v' init last) ∧ Hid (∀ (A : Option Addr) (c : Nat), pairs (init ++ [(⟨last.addr, A, c, last.data ++ [z]⟩ : R)]) = pairN (runsW (W.take (k + 1)))) ∧ Hid (∀ r ∈ init, r.data.length ≤ r.cap) := ⟨rs, ⟨x, none, 0, []⟩, RR.fresh x hO4, Lib.hid E2.out, Lib.hid CC.out⟩
        clear hO4 E2
      case' neg =>
        obtain ⟨k', hk'⟩ : ∃ k', k = k' + 1 := ⟨k - 1, by omega⟩
        have e0 : ((k : Int) == 0) = false := beq_eq_false_iff_ne.2 (by omega)
        have hkk : (k : Int) - 1 = (k' : Int) := by omega
        obtain ⟨g3, g4⟩ := Z2.out.get (show k' < W.length by omega)
        have hlk : (k' : Int) < (W.length : Int) := by omega
        have hy1 := HS.out.2 _ (List.getElem_mem (show k' < W.length by omega))
        clear g4
        by_cases hn : W[k].1 = W[k'].1 + 1
        case' pos =>
          obtain ⟨init, last, hrs, hRR⟩ : ∃ init last, rs = init ++ [last] ∧ RR w wr u3 init last := by
            rcases RRR.out with h | h
            · have := pairs_length E.out
              obtain ⟨out, r, h1, _⟩ := take_end W k' (by omega)
              rw [← hk'] at h1
              rw [h, h1] at this
              simp at this
            · exact h
          have hE2 : ∀ A c, pairs (init ++ [⟨last.addr, A, c, last.data ++ [z]⟩]) = pairN (runsW (W.take (k + 1))) := fun A c => by
            have hE := E.out
            rw [hrs] at hE
            subst hk' hx hz
            exact runs_more W k' hlt hn hE A c
          have CI : Hid (∀ r ∈ init, r.data.length ≤ r.cap) := fun r hr => CC.out r (by rw [hrs]; exact List.mem_append_left _ hr)
          have he : (W[k].1 : Int) = (W[k'].1 : Int) + 1 := by omega
          rw [hx] at he
          obtain ⟨y, hy⟩ : ∃ y : Int, (W[k'].1 : Int) = y := ⟨_, rfl⟩
          rw [hy] at he g3
          have hy0 : 0 ≤ y := by omega
          have hy2 : y < 65536 := by omega
          have EX := Lib.hid hE2
          have HK := Lib.hid hk'
          subst he
          have hneb : (y + 1 == y + 1) = true := beq_self_eq_true _
          have hneb2 : (y + 1 != y + 1) = false := by unfold bne; rw [hneb]; rfl
          have HL := Lib.hid hlt
          have RX0 := Lib.hid hRR
          obtain ⟨g, cap', hv, hg0, hg1, hcell, hfr⟩ := hRR.of
          subst hv
          clear hE2 hx hz hk0 hn hy hk' hlt hy1 hRR hrs hcell hfr hg0 hg1
          go_wp2_with fail
          go_quiet (fail)
          have RX := Lib.hid (RX0.out.below (below_drewN wr nq))
          obtain ⟨wx, hwx⟩ : ∃ wx, wr.drewN nq = wx := ⟨_, rfl⟩
          rw [hwx] at RX ⊢
          obtain ⟨v', hv'⟩ : ∃ v', Value.slice (some ⟨g, 0, none⟩) (init.length + 1) cap' = v' := ⟨_, rfl⟩
          rw [hv'] at RX
          clear hwx RX0
        case' neg =>
          have hE2 : ∀ A c, pairs (rs ++ [⟨x, A, c, [] ++ [z]⟩]) = pairN (runsW (W.take (k + 1))) := fun A c => by
            subst hk' hx hz
            exact runs_new W k' hlt hn E.out A c
          have hne : (W[k].1 : Int) ≠ (W[k'].1 : Int) + 1 := by omega
          rw [hx] at hne
          obtain ⟨y, hy⟩ : ∃ y : Int, (W[k'].1 : Int) = y := ⟨_, rfl⟩
          rw [hy] at hne g3
          have hy0 : 0 ≤ y := by omega
          have hy2 : y < 65536 := by omega
          have E2 := Lib.hid hE2
          have HK := Lib.hid hk'
          have hneb : (x == y + 1) = false := beq_eq_false_iff_ne.2 hne
          have hneb2 : (x != y + 1) = true := by unfold bne; rw [hneb]; rfl
          have HL := Lib.hid hlt
          clear hE2 hx hz hk0 hn hy hk' hlt hne hy1
          go_wp2_with fail
          go_quiet (fail)
          obtain ⟨ob, hob⟩ : ∃ o, Obj.cells #[.int .i64 x, .slice none 0 0] 61 = o := ⟨_, rfl⟩
          have hO3 := (hO2 nq).alloc ob
          rw [← hob] at hO3
          have O3 := Lib.hid hO3
          clear hO3 hob
          go_wp2_with (at_builtin; refine wpList_appR 22 61 Tryd.underlying22 info_rrun O3.out ⟨x, none, 0, []⟩ ⟨wr.heap.size, 0, none⟩ 1 (two_cells (wr.drewN nq) _ rfl _ _ _).1 (two_cells (wr.drewN nq) _ rfl _ _ _).2 (.inl rfl) (Nat.le_trans S.out (by omega)) rfl _ _ rfl rfl rfl ?_)
          intro v' wx hO4 _ _
          obtain ⟨init, last, RX, EX, CI⟩ : ∃ init last, Hid (RR w wx v' init last) ∧ Hid (∀ (A : Option Addr) (c : Nat), pairs (init ++ [(⟨last.addr, A, c, last.data ++ [z]⟩ : R)]) = pairN (runsW (W.take (k + 1)))) ∧ Hid (∀ r ∈ init, r.data.length ≤ r.cap) := ⟨rs, ⟨x, none, 0, []⟩, RR.fresh x hO4, Lib.hid E2.out, Lib.hid CC.out⟩
          clear hO4 E2
      all_goals
        obtain ⟨g, cap', hv, hg0, hg1, hcell, hfr⟩ := RX.out.of
        subst hv
        obtain ⟨q1, q2⟩ := (Z.out.below RX.out.1.2.1).get HL.out
        have hz' := HZ.out HL.out
        rw [hz'] at q2
        obtain ⟨hd1, hd2⟩ := run_data_le (EX.out none 0)
        have hld : last.data.length ≤ 65536 := by
          simp only [List.length_append, List.length_cons, List.length_nil] at hd1
          have := List.length_take_le' (k + 1) W
          omega
        have hil : init.length ≤ 65536 := Nat.le_trans hd2 (Nat.le_trans (List.length_take_le' _ _) hl)
        have hbx : b < w.heap.size := by
          rcases Z.out with h | ⟨b2, off2, h1, h2, _⟩
          · rw [h] at HL; exact absurd HL.out (Nat.not_lt_zero _)
          · have := Option.some.inj h1
            simp only [Addr.mk.injEq, and_true] at this
            rw [this.1]; exact h2
        have hal : Below wx.heap.size wx (wx.drew.alloc (.cells #[.int .u8 (z.toNat : Int)] 5)) := (Below.refl _ _).drew.alloc (Nat.le_refl _) _
        obtain ⟨A9, c9, w9, k1, k2, k3, k4⟩ := append_last RX.out hal z ⟨wx.heap.size, 0, none⟩ 1 (one_cell wx.drew _ rfl _ _) hld 59
        have hC1 : wx.drew.cell? ⟨g, init.length * 2 + 1, none⟩ = some (.slice last.A last.data.length last.cap) ∧ wx.drew.cell? ⟨b, off + k * 2 + 1, none⟩ = some (.int .u8 (z.toNat : Int)) := ⟨hcell, q2⟩
        have hbw : b < wx.heap.size := Nat.lt_of_lt_of_le hbx RX.out.1.2.1.size
        have hC2 : (wx.drew.alloc (.cells #[.int .u8 (z.toNat : Int)] 5)).cell? ⟨g, init.length * 2 + 1, none⟩ = some (.slice last.A last.data.length last.cap) ∧ (wx.drew.alloc (.cells #[.int .u8 (z.toNat : Int)] 5)).cell? ⟨b, off + k * 2 + 1, none⟩ = some (.int .u8 (z.toNat : Int)) :=
          ⟨(hal.cell (p := ⟨g, init.length * 2 + 1, none⟩) hg1).trans hcell, (hal.cell (p := ⟨b, off + k * 2 + 1, none⟩) hbw).trans q2⟩
        have hgl : some g ≠ (Value.slice last.A last.data.length last.cap).ownBlock := by
          rcases RX.out.2.2.1 with e | e
          · rw [e]; simp
          · exact fun h => e h.symm
        have hbl : some b ≠ (Value.slice last.A last.data.length last.cap).ownBlock := fun h => by
          have := (RX.out.2.1.lt b h.symm).1
          omega
        have hsz := hal.size
        have hC3 : w9.cell? ⟨g, init.length * 2 + 1, none⟩ = some (.slice last.A last.data.length last.cap) ∧ w9.cell? ⟨b, off + k * 2 + 1, none⟩ = some (.int .u8 (z.toNat : Int)) :=
          ⟨(k3.cell_far ⟨g, init.length * 2 + 1, none⟩ (Nat.lt_of_lt_of_le hg1 hsz) hgl).trans hC2.1, (k3.cell_far ⟨b, off + k * 2 + 1, none⟩ (Nat.lt_of_lt_of_le hbw hsz) hbl).trans hC2.2⟩
        have hfr9 : w9.frozen? ⟨g, init.length * 2 + 1, none⟩ = false := (k3.frozen_far ⟨g, init.length * 2 + 1, none⟩ (Nat.lt_of_lt_of_le hg1 hsz) hgl).trans ((hal.frozen (p := ⟨g, init.length * 2 + 1, none⟩) hg1).trans hfr)
        have RN := Lib.hid (RX.out.next hal rfl z A9 c9 k2 k3 k4)
        have CN : Hid (∀ r ∈ init ++ [(⟨last.addr, A9, c9, last.data ++ [z]⟩ : R)], r.data.length ≤ r.cap) := fun r hr => by
          rcases List.mem_append.1 hr with hr | hr
          · exact CI.out r hr
          · rw [List.mem_singleton.1 hr]
            have := own_capR k2
            simpa using this
        have hin : (init.length : Int) < (init.length : Int) + 1 := by omega
        have C1 := Lib.hid hC1
        have C2 := Lib.hid hC2
        have C3 := Lib.hid hC3
        have K1 := Lib.hid k1
        clear hC1 hC2 hC3 k1 k2 k3 k4 hgl hbl hal hcell q2 hg0 hg1 hbx hbw hd1 hd2 hld hsz hfr g2 hz'
        go_wp2
        refine Mixed.wp_region_mixed (fun w' => w'.cell? ⟨g, init.length * 2 + 1, none⟩ = some (.slice last.A last.data.length last.cap) ∧ w'.cell? ⟨b, off + k * 2 + 1, none⟩ = some (.int .u8 (z.toNat : Int))) 16
          [(0, true), (1, true), (2, true), (3, true), (4, true), (5, true), (6, true), (7, true), (8, true), (9, true), (10, true), (11, true), (12, false), (13, false), (14, true), (15, true)] (by kernel_rfl) (by kernel_rfl) C1.out ?_
        refine Mixed.wpMix_move rfl rfl _ rfl _ rfl ?_
        refine Mixed.wpMix_move rfl rfl _ rfl _ rfl ?_
        refine Mixed.wpMix_move rfl rfl _ rfl _ rfl ?_
        refine Mixed.wpMix_move rfl rfl _ rfl _ rfl ?_
        refine Mixed.wpMix_pure rfl rfl _ (fun w h => by obtain ⟨p1, p2⟩ := h; go_simp; rfl) ?_
        refine Mixed.wpMix_pure rfl rfl _ (fun w h => by obtain ⟨p1, p2⟩ := h; go_simp; rfl) ?_
        refine Mixed.wpMix_pure rfl rfl _ (fun w h => by obtain ⟨p1, p2⟩ := h; go_simp; rfl) ?_
        refine Mixed.wpMix_move rfl rfl _ rfl _ rfl ?_
        refine Mixed.wpMix_move rfl rfl _ rfl _ rfl ?_
        refine Mixed.wpMix_pure rfl rfl _ (fun w h => by obtain ⟨p1, p2⟩ := h; go_simp; rfl) ?_
        refine Mixed.wpMix_pure rfl rfl _ (fun w h => by obtain ⟨p1, p2⟩ := h; go_simp; rfl) ?_
        refine Mixed.wpMix_pure rfl rfl _ (fun w h => by obtain ⟨p1, p2⟩ := h; go_simp; rfl) ?_
        refine Mixed.wpMix_loud rfl ?_
        go_wp2
        refine ⟨C2.out, ?_⟩
        refine Mixed.wpMix_loud rfl ?_
        refine wpList_run_append K1.out rfl _ _ rfl rfl rfl rfl ?_
        refine ⟨C3.out, ?_⟩
        refine Mixed.wpMix_pure rfl rfl _ (fun w h => by obtain ⟨p1, p2⟩ := h; go_simp; rfl) ?_
        refine Mixed.wpMix_pure rfl rfl _ (fun w h => by obtain ⟨p1, p2⟩ := h; go_simp; rfl) ?_
        simp only [Mixed.wpMix, List.drop_succ_cons, List.drop_zero]
        obtain ⟨q3, q4⟩ := C3.out
        go_wp2
        go_roundw
        case rel => exact ⟨k + 1, by have := HL.out; omega, by go_num, _, RN.out.1, EX.out A9 c9, .inr ⟨init, _, rfl, RN.out⟩, CN.out⟩
        case measure => have := HL.out; simp [intOf]; omega
    · have hlt' : decide ((k : Int) < (W.length : Int)) = false := decide_eq_false (by omega)
      obtain ⟨A0, cap0, hv, hc, hR⟩ := O.out.runsP
      have N : Hid (RetRunsC w (runsW W) (.returned u3) wr) := by
        have h := E.out
        rw [List.take_of_length_le (by omega)] at h
        subst hv
        exact ⟨A0, cap0, rs, rfl, hc, h, hR, O.out.2.1, CC.out⟩
      clear hv hc hR
      go_wp2
      go_ret
      exact N.out
theorem rruns_any (P : Nat → Prop) (A : Option Addr) (cap : Nat) (W : List Cel) (hs : SortedW W) (w : World) (hW : CellsP P w A W) :
    Calls Tryd.prog 40 #[.slice A W.length cap] w (RetRuns w (runsW W)) := (rrunsC_any P A cap W hs w hW).mono fun e w' ⟨A0, cap0, rs, h1, h2, h3, h4, h5, _⟩ => ⟨A0, cap0, rs, h1, h2, h3, h4, h5⟩
end Go.Proofs.YtmeegpdjhcilkaaDoor.Im
