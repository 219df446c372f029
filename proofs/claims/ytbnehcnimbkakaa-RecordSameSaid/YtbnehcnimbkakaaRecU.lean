/-
  Rows of records; slices of bytes that may be written; the pieces of bytes, each of a size; the walk over breadboardref03.Split.
-/
import Derived.Test.YtbnehcnimbkakaaRecP
import Derived.Maps.AppendAt
import Derived.Lib.SliceRun
namespace Go.Proofs.Ytbnehcnimbkakaa
open Go.RowKit
set_option linter.unusedVariables false

/-! ### Rows of records -/
structure R where
  addr : Int
  A : Option Addr
  cap : Nat
  data : List UInt8
def runsV (rs : List R) : List Value := rs.flatMap fun r => [.int .i64 0, .int .i64 r.addr, .slice r.A r.data.length r.cap]
theorem runsV_append (V W : List R) : runsV (V ++ W) = runsV V ++ runsV W := by unfold runsV; rw [List.flatMap_append]
theorem runsV_length (W : List R) : (runsV W).length = W.length * 3 := by
  induction W with
  | nil => rfl
  | cons c t ih =>
    have : runsV (c :: t) = [.int .i64 0, .int .i64 c.addr, .slice c.A c.data.length c.cap] ++ runsV t := rfl
    rw [this, List.length_append, ih]
    simp only [List.length_cons, List.length_nil]
    omega
theorem runsV_get (W : List R) (j : Nat) (h : j < W.length) : (runsV W)[j * 3]? = some (.int .i64 0) ∧ (runsV W)[j * 3 + 1]? = some (.int .i64 W[j].addr) ∧ (runsV W)[j * 3 + 2]? = some (.slice W[j].A W[j].data.length W[j].cap) := by
  induction W generalizing j with
  | nil => simp at h
  | cons c t ih =>
    have e : runsV (c :: t) = .int .i64 0 :: .int .i64 c.addr :: .slice c.A c.data.length c.cap :: runsV t := rfl
    cases j with
    | zero => rw [e]; exact ⟨rfl, rfl, rfl⟩
    | succ j =>
      obtain ⟨h1, h2, h3⟩ := ih j (by simpa using h)
      rw [e, show (j + 1) * 3 = j * 3 + 1 + 1 + 1 by omega]
      simp only [List.getElem?_cons_succ, List.getElem_cons_succ]
      exact ⟨h1, h2, h3⟩
/-- v is a row that holds rs, in a block from n₀ on; the bytes lie elsewhere, in blocks that have the property P. -/
def OwnR (e : TypeId) (n₀ : Nat) (P : Nat → Prop) (wr : World) (v : Value) (rs : List R) : Prop :=
  wr.ownsRow n₀ e 3 v rs.length (runsV rs) ∧ ∀ r ∈ rs, BytesP (fun i => P i ∧ some i ≠ v.ownBlock) wr r.A r.data
theorem ownR_start (e : TypeId) (n₀ : Nat) (P : Nat → Prop) (w : World) : OwnR e n₀ P w (.slice none 0 0) [] := ⟨World.ownsRow_nil _ _ _ _, fun _ h => absurd h List.not_mem_nil⟩
theorem ownsRow_kept {Q : Nat → Prop} {w w' : World} {e : TypeId} {n₀ s k : Nat} {v : Value} {xs : List Value} (h : w.ownsRow n₀ e s v k xs) (hk : KeptP Q w w') (hq : ∀ i, some i = v.ownBlock → Q i) : w'.ownsRow n₀ e s v k xs := by
  rcases h.2 with ⟨h1, h0⟩ | ⟨g, cap, cur, rfl, hb, hg, hr⟩
  · exact ⟨h.1, .inl ⟨h1, h0⟩⟩
  · exact ⟨h.1, .inr ⟨g, cap, cur, rfl, hb, (hk.block g (Array.getElem?_eq_some_iff.1 hg).1 (hq g rfl)).trans hg, hr⟩⟩
theorem OwnR.kept {e : TypeId} {n₀ : Nat} {P Q : Nat → Prop} {w w' : World} {v : Value} {rs : List R} (h : OwnR e n₀ P w v rs) (hk : KeptP Q w w') (hq : ∀ i, some i = v.ownBlock → Q i) (hp : ∀ i, P i → Q i) : OwnR e n₀ P w' v rs :=
  ⟨ownsRow_kept h.1 hk hq, fun r hr => (h.2 r hr).kept hk fun i _ hi => hp i hi.1⟩
theorem OwnR.below {e : TypeId} {n₀ : Nat} {P : Nat → Prop} {w w' : World} {v : Value} {rs : List R} (h : OwnR e n₀ P w v rs) (hk : Below w.heap.size w w') : OwnR e n₀ P w' v rs :=
  ⟨ownsRow_kept h.1 (KeptP.of_all hk) (fun _ _ => trivial), fun r hr => (h.2 r hr).below hk⟩
theorem OwnR.alloc {e : TypeId} {n₀ : Nat} {P : Nat → Prop} {w : World} {v : Value} {rs : List R} (h : OwnR e n₀ P w v rs) (o : Obj) : OwnR e n₀ P (w.alloc o) v rs := h.below ((Below.refl _ _).alloc (Nat.le_refl _) o)
theorem append_rec (t e : TypeId) (ht : Try.prog.underlying t = some (.slice e)) (hinfo : (Try.prog.info? e).map (fun i => (i.zero, i.size, i.bytes)) = some (some (.agg #[.int .i64 0, .int .i64 0, .slice none 0 0]), 3, 40))
    {P : Nat → Prop} {n₀ : Nat} {wr : World} (hn₀ : n₀ ≤ wr.heap.size) {v : Value} {rs : List R} (h : OwnR e n₀ P wr v rs) (r : R) (ad : Addr) (c : Nat) (h0 : wr.cell? (ad.add 0) = some (.int .i64 0)) (h1 : wr.cell? (ad.add 1) = some (.int .i64 r.addr)) (h2 : wr.cell? (ad.add 2) = some (.slice r.A r.data.length r.cap))
    (hd : BytesP (fun i => P i ∧ some i ≠ v.ownBlock) wr r.A r.data) (hlen : rs.length ≤ 1099511627776) (ty : TypeId) :
    ∃ v' w', (Builtin.append_ #[t, t] ty #[v, .slice (some ad) 1 c]).run Try.prog wr = .ok v' w' ∧ OwnR e n₀ P w' v' (rs ++ [r]) ∧ wr.grownBy w' v.ownBlock ∧ (v'.ownBlock = v.ownBlock ∨ v'.ownBlock = some wr.heap.size) := by
  obtain ⟨i0, hi, hz0, hz1, hz2⟩ := info_parts hinfo
  obtain ⟨v', w', k1, k2, k3, _, k5⟩ := run_append_own_at (P := Try.prog) wr n₀ t ty e i0 _ 3 40 ht hi hz0 hz1 hz2 rfl (by decide) v rs.length _ h.1 ad 1 c [.int .i64 0, .int .i64 r.addr, .slice r.A r.data.length r.cap] rfl (fun j u hj => by
      match j, hj with
      | 0, hj => simp at hj; subst hj; exact h0
      | 1, hj => simp at hj; subst hj; exact h1
      | 2, hj => simp at hj; subst hj; exact h2) (fun u hu => by
      simp only [List.mem_cons, List.not_mem_nil, or_false] at hu
      rcases hu with rfl | rfl | rfl <;> rfl) (by unfold maxLen; omega) (by omega) hn₀
  refine ⟨v', w', k1, ⟨?_, fun q hq => ?_⟩, k3, k5⟩
  · rw [List.length_append, runsV_append]
    exact k2
  · have hq' : BytesP (fun i => P i ∧ some i ≠ v.ownBlock) wr q.A q.data := by
      rcases List.mem_append.1 hq with hq | hq
      · exact h.2 q hq
      · rw [List.mem_singleton.1 hq]; exact hd
    have h2 := hq'.mono (Q := fun i => P i ∧ some i ≠ v.ownBlock ∧ i < wr.heap.size) fun i hi hp => ⟨hp.1, hp.2, hi⟩
    have h3 := h2.blocks (w' := w') fun i hi hp => k3.block i hi hp.2.1
    refine h3.mono fun i _ hp => ⟨hp.1, ?_⟩
    rcases k5 with k5 | k5
    · rw [k5]; exact hp.2.1
    · rw [k5]; intro e; have := Option.some.inj e; omega
theorem info_rec : (Try.prog.info? 28).map (fun i => (i.zero, i.size, i.bytes)) = some (some (.agg #[.int .i64 0, .int .i64 0, .slice none 0 0]), 3, 40) := by kernel_rfl
theorem info_rrec : (Try.prog.info? 24).map (fun i => (i.zero, i.size, i.bytes)) = some (some (.agg #[.int .i64 0, .int .i64 0, .slice none 0 0]), 3, 40) := by kernel_rfl
def pairs (rs : List R) : List (Int × List UInt8) := rs.map fun r => (r.addr, r.data)
theorem pairs_snoc (rs : List R) (r : R) : pairs (rs ++ [r]) = pairs rs ++ [(r.addr, r.data)] := by unfold pairs; rw [List.map_append]; rfl

/-! ### The pieces -/
def chD (xs : List UInt8) (sz k : Nat) : List UInt8 := (xs.drop (k * sz)).take sz
def cnt (len sz : Nat) : Nat := (len + sz - 1) / sz
def spl (ad : Int) (xs : List UInt8) (sz k : Nat) : List (Int × List UInt8) := (List.range k).map fun j => (ad + ((j * sz : Nat) : Int), chD xs sz j)
theorem spl_succ (ad : Int) (xs : List UInt8) (sz k : Nat) : spl ad xs sz (k + 1) = spl ad xs sz k ++ [(ad + ((k * sz : Nat) : Int), chD xs sz k)] := by
  unfold spl; rw [List.range_succ, List.map_append]; rfl
theorem spl_length (ad : Int) (xs : List UInt8) (sz k : Nat) : (spl ad xs sz k).length = k := by unfold spl; simp
theorem cnt_lt (len sz k : Nat) (h : 0 < sz) : k < cnt len sz ↔ k * sz < len := by
  unfold cnt
  rw [show (k < (len + sz - 1) / sz) = (k + 1 ≤ (len + sz - 1) / sz) from rfl, Nat.le_div_iff_mul_le h, Nat.add_mul, Nat.one_mul]
  omega
theorem cnt_le (len sz : Nat) (h : 0 < sz) : cnt len sz ≤ len := by
  rcases Nat.lt_or_ge len (cnt len sz) with h1 | h1
  · have h2 := (cnt_lt len sz len h).1 h1
    have h3 : len * 1 ≤ len * sz := Nat.mul_le_mul_left _ h
    omega
  · exact h1
def spOk (ad sz : Int) (len : Nat) : Bool := decide (1 ≤ sz ∧ sz ≤ 255 ∧ 0 ≤ ad ∧ ad ≤ 65535 ∧ (len : Int) ≤ 65536 - ad)
def splW (ad sz : Int) (xs : List UInt8) : List (Int × List UInt8) := if spOk ad sz xs.length = true then spl ad xs sz.toNat (cnt xs.length sz.toNat) else []
theorem spOk_no {ad sz : Int} {xs : List UInt8} (h : ¬ (1 ≤ sz ∧ sz ≤ 255 ∧ 0 ≤ ad ∧ ad ≤ 65535 ∧ (xs.length : Int) ≤ 65536 - ad)) : splW ad sz xs = [] := by
  unfold splW spOk
  rw [decide_eq_false h]
  rfl
theorem spOk_yes {ad : Int} {sz : Nat} {xs : List UInt8} (h1 : 1 ≤ sz) (h2 : sz ≤ 255) (h3 : 0 ≤ ad) (h4 : ad ≤ 65535) (h5 : (xs.length : Int) ≤ 65536 - ad) : splW ad sz xs = spl ad xs sz (cnt xs.length sz) := by
  unfold splW spOk
  rw [decide_eq_true (by omega), if_pos rfl]
  rfl
theorem chD_length (xs : List UInt8) (sz k : Nat) : (chD xs sz k).length = min sz (xs.length - k * sz) := by unfold chD; simp
/-- The call returns a row of records; their bytes lie in blocks that have the property P. -/
def RetSpl (e : TypeId) (P : Nat → Prop) (w : World) (l : List (Int × List UInt8)) (en : Ending) (w' : World) : Prop := ∃ v rs, en = .returned v ∧ OwnR e w.heap.size P w' v rs ∧ pairs rs = l ∧ Below w.heap.size w w'
theorem retSpl_nil {e : TypeId} {P : Nat → Prop} {w w' : World} {l : List (Int × List UInt8)} (hl : l = []) (hb : Below w.heap.size w w') : RetSpl e P w l (.returned (.slice none 0 0)) w' := ⟨_, [], rfl, ownR_start _ _ _ _, hl.symm ▸ rfl, hb⟩
theorem OwnR.len_le {e : TypeId} {n₀ : Nat} {P : Nat → Prop} {w : World} {v : Value} {rs : List R} (h : OwnR e n₀ P w v rs) : ∃ A cap, v = .slice A rs.length cap := by
  rcases h.1.2 with ⟨h1, h0⟩ | ⟨g, cap, cur, rfl, _⟩
  · exact ⟨none, 0, by rw [h1, h0]⟩
  · exact ⟨_, cap, rfl⟩
set_option maxHeartbeats 2000000 in
theorem rsplit_any (P : Nat → Prop) (ad sz : Int) (A : Option Addr) (cap : Nat) (xs : List UInt8) (hl : xs.length ≤ maxLen) (hc : xs.length ≤ cap) (w : World) (hX : BytesP P w A xs) :
    Calls Try.prog 23 #[.int .i64 ad, .int .i64 sz, .slice A xs.length cap] w (RetSpl 24 P w (splW ad sz xs)) := by
  unfold maxLen at hl
  have X := Lib.hid (hX.mono (Q := fun i => P i ∧ i < w.heap.size) fun i hi hp => ⟨hp, hi⟩)
  clear hX
  by_cases h1 : 1 ≤ sz
  case neg =>
    have N : Hid (splW ad sz xs = []) := spOk_no (by omega)
    have h1' : sz < 1 := by omega
    clear h1
    go_enter Try.func23, Try.ntmps23
    go_wp2
    go_ret
    exact retSpl_nil N.out (Below.refl _ _)
  have h1' : decide (sz < 1) = false := decide_eq_false (by omega)
  by_cases h2 : sz ≤ 255
  case neg =>
    have N : Hid (splW ad sz xs = []) := spOk_no (by omega)
    have h2' : 255 < sz := by omega
    clear h1 h2
    go_enter Try.func23, Try.ntmps23
    go_wp2
    go_ret
    exact retSpl_nil N.out (Below.refl _ _)
  have h2' : decide (255 < sz) = false := decide_eq_false (by omega)
  by_cases h3 : 0 ≤ ad
  case neg =>
    have N : Hid (splW ad sz xs = []) := spOk_no (by omega)
    have h3' : ad < 0 := by omega
    clear h1 h2 h3
    go_enter Try.func23, Try.ntmps23
    go_wp2
    go_ret
    exact retSpl_nil N.out (Below.refl _ _)
  have h3' : decide (ad < 0) = false := decide_eq_false (by omega)
  by_cases h4 : ad ≤ 65535
  case neg =>
    have N : Hid (splW ad sz xs = []) := spOk_no (by omega)
    have h4' : 65535 < ad := by omega
    clear h1 h2 h3 h4
    go_enter Try.func23, Try.ntmps23
    go_wp2
    go_ret
    exact retSpl_nil N.out (Below.refl _ _)
  have h4' : decide (65535 < ad) = false := decide_eq_false (by omega)
  by_cases h5 : (xs.length : Int) ≤ 65536 - ad
  case neg =>
    have N : Hid (splW ad sz xs = []) := spOk_no (by omega)
    have h5' : 65536 - ad < (xs.length : Int) := by omega
    clear h1 h2 h5
    go_enter Try.func23, Try.ntmps23
    go_wp2
    go_ret
    exact retSpl_nil N.out (Below.refl _ _)
  have h5' : decide (65536 - ad < (xs.length : Int)) = false := decide_eq_false (by omega)
  obtain ⟨s, rfl⟩ : ∃ s : Nat, sz = (s : Int) := ⟨sz.toNat, by omega⟩
  have s1 : 1 ≤ s := by omega
  have s2 : s ≤ 255 := by omega
  have N : Hid (splW ad (s : Int) xs = spl ad xs s (cnt xs.length s)) := spOk_yes s1 s2 h3 h4 h5
  have hlen : xs.length ≤ 65536 := by omega
  have S1 := Lib.hid s1
  have S2 := Lib.hid s2
  clear h1 h2 s1 s2 hl
  go_enter Try.func23, Try.ntmps23
  go_wp2
  clear h1' h2' h3' h4' h5'
  go_loopw [7, 8] (fun v i wr => ∃ (k p : Nat) (rs : List R), i = .int .i64 p ∧ p ≤ 70000 ∧ OwnR 24 w.heap.size (fun i => P i ∧ i < w.heap.size) wr v rs ∧ Hid (Below w.heap.size w wr) ∧ Hid (p = k * s) ∧ Hid (k ≤ cnt xs.length s) ∧ Hid (pairs rs = spl ad xs s k)) (fun _ i _ => xs.length - (intOf i).toNat)
  case atStart => exact ⟨0, 0, [], rfl, by omega, ownR_start _ _ _ _, Below.refl _ _, by show 0 = 0 * s; omega, Nat.zero_le _, rfl⟩
  case round =>
    obtain ⟨k, p, rs, rfl, hp, hO, B, K, C, E⟩ := hrel
    have O := Lib.hid hO
    clear hO
    by_cases hlt : p < xs.length
    · have hlt' : (p : Int) < (xs.length : Int) := by omega
      have hs1 := S1.out
      have hs2 := S2.out
      obtain ⟨e, he⟩ : ∃ e, min (p + s) xs.length = e := ⟨_, rfl⟩
      have hmin : min ((p : Int) + (s : Int)) (xs.length : Int) = (e : Int) := by omega
      have he1 : p ≤ e := by omega
      have he2 : e ≤ cap := by omega
      have hsl := fun w => slB_lh A xs.length cap p e he1 he2 w
      have hD : chD xs s k = (xs.drop p).take (e - p) := by
        unfold chD
        rw [← K.out]
        by_cases h : p + s ≤ xs.length
        · rw [show e - p = s by omega]
        · rw [List.take_of_length_le (by simp; omega), List.take_of_length_le (by simp; omega)]
      have hDl : (chD xs s k).length = e - p := by rw [hD]; simp; omega
      obtain ⟨ob, hob⟩ : ∃ o, Obj.cells #[.int .i64 0, .int .i64 (ad + (p : Int)), .slice (subA A p cap) (e - p) (cap - p)] 24 = o := ⟨_, rfl⟩
      have hO2 := O.out.alloc ob
      have hal : Below wr.heap.size wr (wr.alloc ob) := (Below.refl _ _).alloc (Nat.le_refl _) ob
      have hX2 : BytesP (fun i => P i ∧ i < w.heap.size) (wr.alloc ob) A xs := (X.out.blocks fun i hi hp => B.out.block i hp.2).below hal
      have hd2 : BytesP (fun i => (P i ∧ i < w.heap.size) ∧ some i ≠ u7.ownBlock) (wr.alloc ob) (subA A p cap) (chD xs s k) := by
        rw [hD]
        refine ((hX2.sub p cap hc).take (e - p)).mono fun i _ hi => ⟨hi, fun h => ?_⟩
        have := (O.out.1.lt i h.symm).1; have h5 := hi.2
        omega
      have hrs : rs.length ≤ 1099511627776 := by
        have h2 := congrArg List.length E.out
        rw [spl_length] at h2
        unfold pairs at h2
        have h3 := cnt_le xs.length s hs1
        have h4 := C.out
        simp at h2
        omega
      have tc := three_cells wr wr.heap.size rfl (.int .i64 0) (.int .i64 (ad + (p : Int))) (.slice (subA A p cap) (e - p) (cap - p)) 24
      rw [hob] at tc
      obtain ⟨v', w', k1, k2, k3, k4⟩ := append_rec 50 24 Try.underlying50 info_rrec (n₀ := w.heap.size) (Nat.le_trans B.out.size hal.size) hO2 ⟨ad + (p : Int), subA A p cap, cap - p, chD xs s k⟩ ⟨wr.heap.size, 0, none⟩ 1 (by simpa [Addr.add] using tc.1) (by simpa [Addr.add] using tc.2.1) (by simpa [Addr.add, hDl] using tc.2.2) hd2 hrs 50
      rw [← hob] at k1
      have KK := Lib.hid k1
      have N2 : Hid (OwnR 24 w.heap.size (fun i => P i ∧ i < w.heap.size) w' v' (rs ++ [⟨ad + (p : Int), subA A p cap, cap - p, chD xs s k⟩])) := k2
      have B2 : Hid (Below w.heap.size w w') := ((B.out.alloc B.out.size ob).grown k3 (Nat.le_trans B.out.size hal.size) fun j hj => (O.out.1.lt j hj).1)
      have E2 : Hid (pairs (rs ++ [⟨ad + (p : Int), subA A p cap, cap - p, chD xs s k⟩]) = spl ad xs s (k + 1)) := by
        show _ = _
        rw [pairs_snoc, E.out, spl_succ, ← K.out]
      have K2 : Hid (p + s = (k + 1) * s) := by show _ = _; rw [Nat.add_mul, ← K.out, Nat.one_mul]
      have C2 : Hid (k + 1 ≤ cnt xs.length s) := (cnt_lt xs.length s k hs1).2 (by rw [← K.out]; exact hlt)
      have HE := Lib.hid he
      clear k1 k2 k3 k4 tc hO2 hal hX2 hd2 hrs hD hDl hob he
      go_wp2_with (at_builtin; refine wpList_run_append KK.out rfl _ _ rfl rfl rfl rfl ?_)
      go_roundw
      case rel => exact ⟨k + 1, p + s, _, by go_num, by omega, N2.out, B2.out, K2.out, C2.out, E2.out⟩
      case measure => simp [intOf]; omega
    · have hlt' : decide ((p : Int) < (xs.length : Int)) = false := decide_eq_false (by omega)
      have F : Hid (RetSpl 24 P w (splW ad (s : Int) xs) (.returned u7) wr) := by
        have hk : k = cnt xs.length s := by
          have h1 := C.out
          have h2 := mt (cnt_lt xs.length s k S1.out).1 (by rw [← K.out]; exact hlt)
          omega
        refine ⟨u7, rs, rfl, ⟨O.out.1, fun r hr => (O.out.2 r hr).mono fun i _ hi => ⟨hi.1.1, hi.2⟩⟩, ?_, B.out⟩
        rw [E.out, N.out, hk]
      go_wp2
      go_ret
      exact F.out
end Go.Proofs.Ytbnehcnimbkakaa
