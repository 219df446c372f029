/-
  Rows of runs of the call's own, and appending to them; the walks over slices.Clone at []byte and (*image.Image).Runs.
-/
import Derived.Test.YtllfebekanafhaaImgJ
import Derived.Test.YtllfebekanafhaaImgN
import Derived.Maps.AppendAt
import Derived.Lib.SliceRun
namespace Go.Proofs.Ytllfebekanafhaa
open Go.RowKit
set_option linter.unusedVariables false

def runsV (rs : List R) : List Value := rs.flatMap fun r => [.int .i64 r.addr, .slice r.A r.data.length r.cap]
theorem runsV_append (V W : List R) : runsV (V ++ W) = runsV V ++ runsV W := by unfold runsV; rw [List.flatMap_append]
theorem runsV_length (W : List R) : (runsV W).length = W.length * 2 := by
  induction W with
  | nil => rfl
  | cons c t ih =>
    have : runsV (c :: t) = [.int .i64 c.addr, .slice c.A c.data.length c.cap] ++ runsV t := rfl
    rw [this, List.length_append, ih]
    simp only [List.length_cons, List.length_nil]
    omega
theorem runsV_get (W : List R) (j : Nat) (h : j < W.length) : (runsV W)[j * 2]? = some (.int .i64 W[j].addr) ∧ (runsV W)[j * 2 + 1]? = some (.slice W[j].A W[j].data.length W[j].cap) := by
  induction W generalizing j with
  | nil => simp at h
  | cons c t ih =>
    have e : runsV (c :: t) = .int .i64 c.addr :: .slice c.A c.data.length c.cap :: runsV t := rfl
    cases j with
    | zero => rw [e]; exact ⟨rfl, rfl⟩
    | succ j =>
      obtain ⟨h1, h2⟩ := ih j (by simpa using h)
      rw [e, show (j + 1) * 2 = j * 2 + 1 + 1 by omega]
      simp only [List.getElem?_cons_succ, List.getElem_cons_succ]
      exact ⟨h1, h2⟩
/-- v is a row of the call's own (made since w) that holds rs; the bytes lie elsewhere, in blocks that have the property P. -/
def OwnR (e : TypeId) (P : Nat → Prop) (w wr : World) (v : Value) (rs : List R) : Prop :=
  wr.ownsRow w.heap.size e 2 v rs.length (runsV rs) ∧ Below w.heap.size w wr ∧ ∀ r ∈ rs, BytesP (fun i => P i ∧ some i ≠ v.ownBlock) wr r.A r.data
theorem ownR_start (e : TypeId) (P : Nat → Prop) (w : World) : OwnR e P w w (.slice none 0 0) [] := ⟨World.ownsRow_nil _ _ _ _, Below.refl _ _, fun _ h => absurd h List.not_mem_nil⟩
theorem OwnR.alloc {e : TypeId} {P : Nat → Prop} {w wr : World} {v : Value} {rs : List R} (h : OwnR e P w wr v rs) (o : Obj) : OwnR e P w (wr.alloc o) v rs :=
  ⟨h.1.alloc o, h.2.1.alloc h.2.1.size o, fun r hr => (h.2.2 r hr).below ((Below.refl _ _).alloc (Nat.le_refl _) o)⟩
theorem grownBy_below {w w' : World} (h : Below w.heap.size w w') (row : Option Nat) : w.grownBy w' row := ⟨h.os, h.tape, h.output, h.size, fun k hk _ => h.block k hk⟩
theorem OwnR.below {e : TypeId} {P : Nat → Prop} {w wr w' : World} {v : Value} {rs : List R} (h : OwnR e P w wr v rs) (k : Below wr.heap.size wr w') : OwnR e P w w' v rs :=
  ⟨by
    cases hv : v.ownBlock with
    | none => exact h.1.kept (grownBy_below k none) (.inl hv)
    | some b => exact h.1.kept (grownBy_below k none) (.inr (by rw [hv]; simp)), h.2.1.trans (k.mono h.2.1.size), fun r hr => (h.2.2 r hr).below k⟩
theorem OwnR.runsP {e : TypeId} {P : Nat → Prop} {w wr : World} {v : Value} {rs : List R} (h : OwnR e P w wr v rs) : ∃ A cap, v = .slice A rs.length cap ∧ rs.length ≤ cap ∧ RunsP (w.heap.size ≤ ·) P wr A rs := by
  have hd : ∀ r ∈ rs, BytesP P wr r.A r.data := fun r hr => (h.2.2 r hr).mono fun i _ hi => hi.1
  rcases h.1.2 with ⟨rfl, h0⟩ | ⟨g, cap, cur, rfl, hb, _, hm, hcs⟩
  · have := List.eq_nil_of_length_eq_zero h0
    subst this
    exact ⟨none, 0, rfl, Nat.le_refl _, .inl rfl, hd⟩
  · refine ⟨_, cap, rfl, hm, .inr ⟨g, 0, rfl, hb, fun j hj => ?_⟩, hd⟩
    obtain ⟨h1, h2⟩ := runsV_get rs j hj
    rw [Nat.zero_add, h.1.cellAt (j * 2) (by omega), h.1.cellAt (j * 2 + 1) (by omega)]
    exact ⟨h1, h2⟩
theorem append_run (t e : TypeId) (ht : Try.prog.underlying t = some (.slice e)) (hinfo : (Try.prog.info? e).map (fun i => (i.zero, i.size, i.bytes)) = some (some (.agg #[.int .i64 0, .slice none 0 0]), 2, 32))
    {P : Nat → Prop} {w wr : World} {v : Value} {rs : List R} (h : OwnR e P w wr v rs) (r : R) (ad : Addr) (c : Nat) (h0 : wr.cell? (ad.add 0) = some (.int .i64 r.addr)) (h1 : wr.cell? (ad.add 1) = some (.slice r.A r.data.length r.cap))
    (hd : BytesP (fun i => P i ∧ some i ≠ v.ownBlock) wr r.A r.data) (hlen : rs.length ≤ 1099511627776) (ty : TypeId) :
    ∃ v' w', (Builtin.append_ #[t, t] ty #[v, .slice (some ad) 1 c]).run Try.prog wr = .ok v' w' ∧ OwnR e P w w' v' (rs ++ [r]) ∧ wr.grownBy w' v.ownBlock ∧ (v'.ownBlock = v.ownBlock ∨ v'.ownBlock = some wr.heap.size) := by
  obtain ⟨i0, hi, hz0, hz1, hz2⟩ := info_parts hinfo
  obtain ⟨v', w', k1, k2, k3, _, k5⟩ := run_append_own_at (P := Try.prog) wr w.heap.size t ty e i0 _ 2 32 ht hi hz0 hz1 hz2 rfl (by decide) v rs.length _ h.1 ad 1 c [.int .i64 r.addr, .slice r.A r.data.length r.cap] rfl (fun j u hj => by
      match j, hj with
      | 0, hj => simp at hj; subst hj; exact h0
      | 1, hj => simp at hj; subst hj; exact h1) (fun u hu => by
      simp only [List.mem_cons, List.not_mem_nil, or_false] at hu
      rcases hu with rfl | rfl <;> rfl) (by unfold maxLen; omega) (by omega) h.2.1.size
  refine ⟨v', w', k1, ⟨?_, h.2.1.grown k3 h.2.1.size fun k hk => (h.1.lt k hk).1, fun q hq => ?_⟩, k3, k5⟩
  · rw [List.length_append, runsV_append]
    exact k2
  · have hq' : BytesP (fun i => P i ∧ some i ≠ v.ownBlock) wr q.A q.data := by
      rcases List.mem_append.1 hq with hq | hq
      · exact h.2.2 q hq
      · rw [List.mem_singleton.1 hq]; exact hd
    have h2 := hq'.mono (Q := fun i => P i ∧ some i ≠ v.ownBlock ∧ i < wr.heap.size) fun i hi hp => ⟨hp.1, hp.2, hi⟩
    have h3 := h2.blocks (w' := w') fun i hi hp => k3.block i hi hp.2.1
    refine h3.mono fun i _ hp => ⟨hp.1, ?_⟩
    rcases k5 with k5 | k5
    · rw [k5]; exact hp.2.1
    · rw [k5]; intro e; have := Option.some.inj e; omega
theorem wpList_appR (t e : TypeId) (ht : Try.prog.underlying t = some (.slice e)) (hinfo : (Try.prog.info? e).map (fun i => (i.zero, i.size, i.bytes)) = some (some (.agg #[.int .i64 0, .slice none 0 0]), 2, 32))
    {P : Nat → Prop} {w wr : World} {v : Value} {rs : List R} (h : OwnR e P w wr v rs) (r : R) (ad : Addr) (c : Nat) (h0 : wr.cell? (ad.add 0) = some (.int .i64 r.addr)) (h1 : wr.cell? (ad.add 1) = some (.slice r.A r.data.length r.cap))
    (hd : BytesP (fun i => P i ∧ some i ≠ v.ownBlock) wr r.A r.data) (hlen : rs.length ≤ 1099511627776)
    {ops : Array Oper} {rest : List Oper} {o : Oper} {a : Act} {Q : Exit → Act → World → Prop} (hgd : o.guard = none) (s x : Operand)
    (ho : o.op = .call { callee := .builtin .append, args := #[s, x], argTypes := #[t, t] }) (hs : a.eval s = v) (hx : a.eval x = .slice (some ad) 1 c)
    (hk : ∀ v' w1, OwnR e P w w1 v' (rs ++ [r]) → wr.grownBy w1 v.ownBlock → (v'.ownBlock = v.ownBlock ∨ v'.ownBlock = some wr.heap.size) → wpList Try.prog ops Q rest (a.put o.dst v') w1) : wpList Try.prog ops Q (o :: rest) a wr := by
  obtain ⟨v', w', h1, h2, h3, h4⟩ := append_run t e ht hinfo h r ad c h0 h1 hd hlen o.type
  refine wpList_plain hgd fun K hK => ?_
  unfold Oper.wp
  simp [execOp, ho, resolve, invoke, builtin, hs, hx, h1, Result.andThen]
  exact hK _ _ (hk _ _ h2 h3 h4)
theorem info_irun : (Try.prog.info? 47).map (fun i => (i.zero, i.size, i.bytes)) = some (some (.agg #[.int .i64 0, .slice none 0 0]), 2, 32) := by kernel_rfl
theorem info_rrun : (Try.prog.info? 30).map (fun i => (i.zero, i.size, i.bytes)) = some (some (.agg #[.int .i64 0, .slice none 0 0]), 2, 32) := by kernel_rfl

theorem wpList_run_append {w w1 : World} {t ty : TypeId} {v y v' : Value} (h1 : (Builtin.append_ #[t, t] ty #[v, y]).run Try.prog w = .ok v' w1) {ops : Array Oper} {rest : List Oper} {o : Oper} {a : Act} {Q : Exit → Act → World → Prop} (hgd : o.guard = none) (s x : Operand)
    (ho : o.op = .call { callee := .builtin .append, args := #[s, x], argTypes := #[t, t] }) (hty : o.type = ty) (hs : a.eval s = v) (hx : a.eval x = y) (hk : wpList Try.prog ops Q rest (a.put o.dst v') w1) : wpList Try.prog ops Q (o :: rest) a w := by
  subst hty
  refine wpList_plain hgd fun K hK => ?_
  unfold Oper.wp
  simp [execOp, ho, resolve, invoke, builtin, hs, hx, h1, Result.andThen]
  exact hK _ _ hk
/-! ### Rows of bytes -/
def u8V (b : UInt8) : Value := .int .u8 (b.toNat : Int)
theorem own_bytes {w : World} {base : Nat} {e : TypeId} {v : Value} {n : Nat} {xs : List UInt8} (h : w.ownsRow base e 1 v n (xs.map u8V)) (hn : n = xs.length) : ∃ A cap, v = .slice A xs.length cap ∧ BytesP (fun i => base ≤ i ∧ some i = v.ownBlock) w A xs := by
  subst hn
  rcases h.2 with ⟨rfl, h0⟩ | ⟨g, cap, cur, rfl, hb, _⟩
  · exact ⟨none, 0, by rw [h0], .inl (List.eq_nil_of_length_eq_zero h0)⟩
  · refine ⟨_, cap, rfl, .inr ⟨g, 0, rfl, ⟨hb, rfl⟩, fun j hj => ?_⟩⟩
    rw [Nat.zero_add, h.cellAt j (by omega)]
    simp [u8V, List.getElem?_eq_getElem hj]
theorem BytesP.news {P : Nat → Prop} {w : World} {A : Option Addr} {xs : List UInt8} (h : BytesP P w A xs) : xs.length = 0 ∨ ∃ a, A = some a ∧ ∀ j u, (xs.map u8V)[j]? = some u → w.cell? (a.add j) = some u := by
  rcases h with rfl | ⟨b, off, rfl, _, hc⟩
  · exact .inl rfl
  · refine .inr ⟨_, rfl, fun j u hu => ?_⟩
    have hadd : (⟨b, off, none⟩ : Addr).add j = ⟨b, off + j, none⟩ := by unfold Addr.add; split <;> simp_all
    rw [List.getElem?_map] at hu
    by_cases hj : j < xs.length
    · rw [List.getElem?_eq_getElem hj] at hu
      simp only [Option.map_some, Option.some.injEq] at hu
      subst hu
      rw [hadd]
      exact hc j hj
    · rw [List.getElem?_eq_none (by omega)] at hu; cases hu
/-- The call returns a slice that reads as xs, in new memory. -/
def RetB (w : World) (xs : List UInt8) (e : Ending) (w' : World) : Prop := ∃ A cap, e = .returned (.slice A xs.length cap) ∧ BytesP (w.heap.size ≤ ·) w' A xs ∧ Below w.heap.size w w'
set_option maxHeartbeats 1000000 in
theorem cloneB_any (P : Nat → Prop) (A : Option Addr) (cap : Nat) (xs : List UInt8) (hl : xs.length ≤ 70368744177664) (w : World) (hx : BytesP P w A xs) :
    Calls Try.prog 34 #[.slice A xs.length cap] w (RetB w xs) := by
  cases A with
  | none =>
    obtain rfl : xs = [] := by
      rcases hx with h | ⟨b, off, h, _⟩
      · exact h
      · cases h
    clear hx
    have hnil := fun w => Lib.run_eql_slice_nil (P := Try.prog) w 28 5 none 0 cap 0 0 Try.underlying28
    go_enter Try.func34, Try.ntmps34
    go_wp2
    go_ret
    exact ⟨none, 0, rfl, .inl rfl, Below.refl _ _⟩
  | some a =>
    obtain ⟨i0, hi, hz0, hz1, hz2⟩ := info_parts info_u8
    have hb : Below w.heap.size w (w.alloc (.cells #[] 5)) := (Below.refl _ _).alloc (Nat.le_refl _) _
    have hown := World.ownsRow_made (base := w.heap.size) (e := 5) (size := 1) w #[] 0 (Nat.le_refl _) (by unfold maxLen; omega) rfl
    obtain ⟨v', w', k1, k2, k3⟩ := run_append_src (w.alloc (.cells #[] 5)) w.heap.size 28 28 5 i0 _ 1 1 Try.underlying28 hi hz0 hz1 hz2 rfl (by decide) _ 0 [] hown (some a) xs.length cap (xs.map u8V)
      (by simp) (hx.below hb).news (fun u hu => by obtain ⟨x, _, rfl⟩ := List.mem_map.1 hu; rfl) (by unfold maxLen; omega) (by omega) (by simp)
    have N : Hid (RetB w xs (.returned v') w') := by
      rw [List.nil_append, Nat.zero_add] at k2
      obtain ⟨A', cap', hv, hB⟩ := own_bytes k2 rfl
      subst hv
      exact ⟨A', cap', rfl, hB.mono fun i _ hi => hi.1, hb.grown k3 (by simp) fun k hk => (hown.lt k hk).1⟩
    have K := Lib.hid k1
    clear hx hb hown k1 k2 k3 hi hz0 hz1 hz2
    go_enter Try.func34, Try.ntmps34
    have hnil := fun w => Lib.run_eql_slice_nil (P := Try.prog) w 28 5 (some a) xs.length cap 0 0 Try.underlying28
    go_wp2_with (at_builtin; refine wpList_run_append K.out rfl _ _ rfl rfl rfl rfl ?_)
    go_ret
    exact N.out

/-! ### (*image.Image).Runs -/
def pairs (rs : List R) : List (Int × List UInt8) := rs.map fun r => (r.addr, r.data)
def pairN (l : List Rn) : List (Int × List UInt8) := l.map fun r => ((r.1 : Int), r.2)
theorem pairs_snoc (rs : List R) (r : R) : pairs (rs ++ [r]) = pairs rs ++ [(r.addr, r.data)] := by unfold pairs; rw [List.map_append]; rfl
theorem pairN_snoc (l : List Rn) (r : Rn) : pairN (l ++ [r]) = pairN l ++ [((r.1 : Int), r.2)] := by unfold pairN; rw [List.map_append]; rfl
theorem pairs_length {rs : List R} {l : List Rn} (h : pairs rs = pairN l) : rs.length = l.length := by
  have := congrArg List.length h
  unfold pairs pairN at this
  simpa using this
theorem runs_length_le (W : List Cel) : (runsW W).length ≤ W.length := by
  have h : ∀ n, ∀ W : List Cel, W.length = n → (runsW W).length ≤ W.length := by
    intro n
    induction n with
    | zero => intro W hW; rw [List.eq_nil_of_length_eq_zero hW]; exact Nat.le_refl _
    | succ n ih =>
      intro W hW
      rcases snoc_cases W with rfl | ⟨V, c, rfl⟩
      · simp at hW
      · have hV := ih V (by simpa using hW)
        rw [runsW_snoc]
        rcases snoc_cases (runsW V) with h | ⟨out, r, h⟩
        · rw [h, addCell_nil]; simp
        · rw [h] at hV ⊢
          by_cases e : r.1 + r.2.length = c.1
          · rw [addCell_same out r c e]; simp only [List.length_append, List.length_cons, List.length_nil] at hV ⊢; omega
          · rw [addCell_other out r c e]; simp only [List.length_append, List.length_cons, List.length_nil] at hV ⊢; omega
  exact h _ W rfl
theorem slice_blh (b k e : Nat) (hk : k < 65536) (he : k ≤ e) (he2 : e ≤ 65536) (w : World) :
    (Instr.sliceAt 60 (.pointer (some ⟨b, 65537, none⟩)) (some (.int .i64 (k : Int))) (some (.int .i64 (e : Int))) none).run Try.prog w = .ok (.slice (some ⟨b, 65537 + k, none⟩) (e - k) (65536 - k)) w := by
  have h := slice_lh 60 5 Try.underlying60 (fun w => Try.sizeOf5 w) b 65537 k (e - k) hk (by omega) w
  rwa [show (k : Int) + ((e - k : Nat) : Int) = (e : Int) by omega] at h
theorem seg_bytes {w : World} {b : Nat} {W : List Cel} (h : ImgOf w b W) (k e : Nat) (he : e ≤ 65536) : BytesP (fun i => i = b) w (some ⟨b, 65537 + k, none⟩) (segB W k e) := .inr ⟨b, _, rfl, rfl, fun j hj => by
  have hj' := hj
  rw [segB_length] at hj'
  rw [show 65537 + k + j = 65537 + (k + j) by omega, h.2.cellD (by omega)]
  have e1 : (segB W k e)[j] = byteW W (k + j) := by
    have h2 := segB_getD W k e (k + j) (by omega) (by omega)
    rw [show k + j - k = j by omega, List.getD_eq_getElem?_getD, List.getElem?_eq_getElem hj] at h2
    exact h2
  rw [e1]⟩
/-- A list of runs in new memory. -/
def RetRuns (w : World) (l : List Rn) (e : Ending) (w' : World) : Prop :=
  ∃ A cap rs, e = .returned (.slice A rs.length cap) ∧ rs.length ≤ cap ∧ pairs rs = pairN l ∧ RunsP (w.heap.size ≤ ·) (w.heap.size ≤ ·) w' A rs ∧ Below w.heap.size w w'
theorem runsNil_any (w : World) : Calls Try.prog 20 #[.pointer none] w fun e w' => e = .returned (.slice none 0 0) ∧ w = w' := by
  go_enter Try.func20, Try.ntmps20
  go_wp2
  go_ret
  exact ⟨rfl, rfl⟩
set_option maxHeartbeats 2000000 in
theorem runs_any (b : Nat) (W : List Cel) (w : World) (hI : ImgOf w b W) : Calls Try.prog 20 #[.pointer (some ⟨b, 0, none⟩)] w (RetRuns w (runsW W)) := by
  have I := Lib.hid hI
  clear hI
  go_enter Try.func20, Try.ntmps20
  go_wp2_with fail
  refine (next_any b _ _ _ 0 (by omega) true _ I.out.2).mono ?_
  rintro e w1 ⟨⟨k0, rfl, hk0⟩, rfl⟩
  have K0 := Lib.hid hk0
  clear hk0
  go_wp2
  go_loopw [3, 4] (fun v i wr => ∃ (k : Nat) (rs : List R), k ≤ 65536 ∧ i = .int .i64 k ∧ OwnR 47 (w.heap.size ≤ ·) w wr v rs ∧ Hid (pairs rs = pairN (runsW (below W k))) ∧ Hid (k < 65536 → hasW W k = true ∧ ∀ c ∈ W, c.1 + 1 ≠ k)) (fun _ i _ => 65536 - (intOf i).toNat)
  case atStart => exact ⟨k0, [], K0.out.2.1, rfl, ownR_start _ _ _, by show pairs [] = _; rw [below_first K0.out]; rfl, fun h => ⟨K0.out.2.2.2 h, gap_first K0.out⟩⟩
  case round =>
    obtain ⟨k, rs, hk, rfl, hO, E, G⟩ := hrel
    have O := Lib.hid hO
    clear hO
    by_cases hlt : k < 65536
    · have hlt' : (k : Int) < 65536 := by omega
      have I2 := Lib.hid (I.out.below O.out.2.1)
      go_wp2_with fail
      refine (next_any b _ _ _ k hk false _ I2.out.2).mono ?_
      rintro e w1 ⟨⟨e, rfl, he⟩, rfl⟩
      have hke : k < e := by
        rcases Nat.lt_or_ge k e with h | h
        · exact h
        · have h1 := he.1
          have h2 : e = k := by omega
          have h3 := he.2.2.2 (by omega)
          rw [h2, (G.out hlt).1] at h3
          cases h3
      have he2 := he.2.1
      have KE := Lib.hid he
      clear he
      have hsl := fun w => slice_blh b k e hlt (by omega) he2 w
      have hcl := cloneB_any _ _ (65536 - k) (segB W k e) (by rw [segB_length]; omega) wr (seg_bytes I2.out k e he2)
      rw [segB_length] at hcl
      have hrs : rs.length ≤ 65536 := by
        rw [pairs_length E.out]
        refine Nat.le_trans (runs_length_le _) (Nat.le_trans (List.length_filter_le _ _) (sorted_length I.out.1))
      go_wp2_with fail
      refine hcl.mono ?_
      rintro x w2 ⟨A1, cap1, rfl, hB1, hb1⟩
      obtain ⟨ob, hob⟩ : ∃ o, Obj.cells #[.int .i64 (k : Int), .slice A1 (segB W k e).length cap1] 47 = o := ⟨_, rfl⟩
      have hal : Below w2.heap.size w2 (w2.alloc ob) := (Below.refl _ _).alloc (Nat.le_refl _) ob
      have hO2 := (O.out.below hb1).alloc ob
      have hD2 : BytesP (fun i => w.heap.size ≤ i ∧ some i ≠ u3.ownBlock) (w2.alloc ob) A1 (segB W k e) := (hB1.below hal).mono fun i _ hi => ⟨Nat.le_trans O.out.2.1.size hi, fun h => by
        have := (O.out.1.lt i h.symm).2
        omega⟩
      rw [← hob] at hO2 hD2
      have O2 := Lib.hid hO2
      have D2 := Lib.hid hD2
      have S2 := Lib.hid hrs
      have HE := Lib.hid (And.intro hke (And.intro he2 hlt))
      clear hcl hob hal hO2 hD2 hB1 hb1 hrs hsl hke he2 hlt' hlt
      go_wp2_with (at_builtin; (refine wpList_appR 39 47 Try.underlying39 info_irun O2.out ⟨(k : Int), A1, cap1, segB W k e⟩ ⟨w2.heap.size, 0, none⟩ 1 (by simp [go_sem, Addr.add]) (by simp [go_sem, Addr.add]) D2.out (Nat.le_trans S2.out (by omega)) rfl _ _ rfl rfl rfl ?_))
      intro v' w4 hO4 _ _
      have O4 := Lib.hid hO4
      have I4 := Lib.hid (I.out.below hO4.2.1)
      clear hO4
      go_wp2_with fail
      refine (next_any b _ _ _ e HE.out.2.1 true _ I4.out.2).mono ?_
      rintro x w5 ⟨⟨k', rfl, hk'⟩, rfl⟩
      have KN := Lib.hid hk'
      have hle := hk'.1
      have hle2 := hk'.2.1
      clear hk'
      have E2 : Hid (pairs (rs ++ [⟨(k : Int), A1, cap1, segB W k e⟩]) = pairN (runsW (below W k'))) := by
        show pairs _ = _
        rw [pairs_snoc, E.out, runs_next I.out.1 HE.out.1 (G.out HE.out.2.2).2 KE.out KN.out, pairN_snoc]
      go_wp2
      go_roundw
      case rel => exact ⟨k', _, hle2, rfl, O4.out, E2, fun h => ⟨KN.out.2.2.2 h, gap_next KE.out KN.out h⟩⟩
      case measure => have := HE.out; simp [intOf]; omega
    · have hlt' : decide ((k : Int) < 65536) = false := decide_eq_false (by omega)
      obtain ⟨A, cap, hv, hc, hR⟩ := O.out.runsP
      have N : Hid (RetRuns w (runsW W) (.returned u3) wr) := by
        have h := E.out
        rw [show k = 65536 by omega, below_all I.out.1] at h
        subst hv
        exact ⟨A, cap, rs, rfl, hc, h, hR, O.out.2.1⟩
      clear hv hc hR
      go_wp2
      go_ret
      exact N.out
end Go.Proofs.Ytllfebekanafhaa
