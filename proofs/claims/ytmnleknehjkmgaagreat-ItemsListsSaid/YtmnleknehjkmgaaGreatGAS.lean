/-
  DiA, DfD, DiB, ItP, TbSm, RsA, DfB, FoA, DgA, DgB, DgC, TrD.
-/
import Derived.Test.YtmnleknehjkmgaaGreatGAQ
import Derived.Test.YtmnleknehjkmgaaGreatGAI
import Derived.Test.YtmnleknehjkmgaaGreatGAO
import Derived.Test.YtmnleknehjkmgaaGreatGAR
import Derived.Deep.DeepCutAuto
import Derived.Deep.Cut
import Derived.StillTail
import Derived.StillTailTactics
import Derived.Deep.RegionHeld3
import Derived.RegionTactic
import Derived.Test.YtmnleknehjkmgaaGreatGAA
import Derived.Deep.QuietTactic
import Derived.BigQuiet
import Derived.WalkSmall
import Derived.Laws.RangeString
import Derived.Laws.RangeAny
import Derived.Lib.OthersKept
set_option linter.all false
set_option maxRecDepth 100000
set_option maxHeartbeats 4000000
namespace Go.Proofs.YtmnleknehjkmgaaGreat
open Go.RowKit
theorem raw_pre {b : Str} (hb : b ≠ []) : ∃ j, 1 ≤ j ∧ j ≤ b.length ∧ (itR b).raw = b.take j ∧ ((itR b).kind = 4 → j = b.length) := by
  have hl : 1 ≤ b.length := by cases b with | nil => exact absurd rfl hb | cons c t => simp
  cases h : hdB b with
  | none =>
    refine ⟨b.length, hl, Nat.le_refl _, ?_, fun _ => rfl⟩
    unfold itR
    rw [h]
    simp [iteO]
  | some q =>
    obtain ⟨p, o, t⟩ := q
    have hd := hd_len h
    cases hr : ratT p o.toNat with
    | none =>
      rcases hd_kind h hr with h0 | ⟨h3, rfl⟩
      · refine ⟨1, Nat.le_refl _, hl, ?_, ?_⟩
        · unfold itR; rw [h]; simp only [hr, if_pos h0, iteO]
        · unfold itR; rw [h]; simp only [hr, if_pos h0, iteO]; intro e; cases e
      · have hn0 : ¬ rkindT 2 o.toNat = 0 := by omega
        have e2 : (preS 2).length = 1 := rfl
        refine ⟨2, by omega, by omega, ?_, ?_⟩
        · unfold itR; rw [h]; simp only [hr, if_neg hn0, iteO]
        · unfold itR; rw [h]; simp only [hr, if_neg hn0, iteO]; intro e; cases e
    | some x =>
      have hs := enc_len (k := (p, (o.toNat : Int), x.1, x.2.1, x.2.2.1, x.2.2.2)) ⟨o.toNat, o.toNat_lt, rfl, hr⟩ 0 0
      simp only at hs
      by_cases hz : b.length < sizeT p x.2.2.1
      · refine ⟨b.length, hl, Nat.le_refl _, ?_, fun _ => rfl⟩
        unfold itR; rw [h]; simp only [hr, if_pos hz, iteO, List.take_length]
      · refine ⟨sizeT p x.2.2.1, hs.2.1, by omega, ?_, ?_⟩
        · unfold itR; rw [h]; simp only [hr, if_neg hz]
        · unfold itR; rw [h]; simp only [hr, if_neg hz]; intro e; cases e
theorem raw_len {b : Str} (hb : b ≠ []) : 1 ≤ (itR b).raw.length ∧ (itR b).raw.length ≤ b.length ∧ (itR b).raw = b.take (itR b).raw.length ∧ ((itR b).kind = 4 → (itR b).raw.length = b.length) := by
  obtain ⟨j, h1, h2, h3, h4⟩ := raw_pre hb
  have hj : (itR b).raw.length = j := by rw [h3, List.length_take]; omega
  rw [hj]
  exact ⟨h1, h2, h3, h4⟩
def itemsF : Nat → Str → List Ite
  | 0, _ => []
  | _ + 1, [] => []
  | n + 1, c :: t => itR (c :: t) :: itemsF n ((c :: t).drop (itR (c :: t)).raw.length)
def itemsR (b : Str) : List Ite := itemsF b.length b
theorem items_fuel2 : ∀ (n m : Nat) (b : Str), b.length ≤ n → b.length ≤ m → itemsF n b = itemsF m b
  | n, m, [], _, _ => by cases n <;> cases m <;> rfl
  | 0, m, c :: t, h, _ => by simp at h
  | n + 1, 0, c :: t, _, h => by simp at h
  | n + 1, m + 1, c :: t, h, h' => by
    have hr := raw_len (b := c :: t) (by simp)
    have hd : ((c :: t).drop (itR (c :: t)).raw.length).length ≤ t.length := by rw [List.length_drop]; simp only [List.length_cons]; omega
    show itR (c :: t) :: itemsF n _ = itR (c :: t) :: itemsF m _
    rw [items_fuel2 n m _ (by simp only [List.length_cons] at h; omega) (by simp only [List.length_cons] at h'; omega)]
theorem items_fuel (n : Nat) (b : Str) (h : b.length ≤ n) : itemsF n b = itemsF b.length b := items_fuel2 n b.length b h (Nat.le_refl _)
theorem items_nil : itemsR [] = [] := rfl
theorem items_cons {b : Str} (hb : b ≠ []) : itemsR b = itR b :: itemsR (b.drop (itR b).raw.length) := by
  cases b with
  | nil => exact absurd rfl hb
  | cons c t =>
    have hr := raw_len (b := c :: t) (by simp)
    have hd : ((c :: t).drop (itR (c :: t)).raw.length).length ≤ t.length := by rw [List.length_drop]; simp only [List.length_cons]; omega
    show itR (c :: t) :: itemsF t.length _ = _
    rw [items_fuel t.length _ hd]
    rfl
theorem items_ind {P : Str → Prop} (h0 : P []) (h1 : ∀ b, b ≠ [] → P (b.drop (itR b).raw.length) → P b) (b : Str) : P b := by
  have key : ∀ n (b : Str), b.length ≤ n → P b := fun n => by
    induction n with
    | zero =>
      intro b hb
      have : b = [] := List.eq_nil_of_length_eq_zero (by omega)
      subst this
      exact h0
    | succ n ih =>
      intro b hb
      by_cases hn : b = []
      · subst hn; exact h0
      · have hr := raw_len hn
        exact h1 b hn (ih _ (by rw [List.length_drop]; omega))
  exact key b.length b (Nat.le_refl _)
theorem items_raw (b : Str) : (itemsR b).flatMap Ite.raw = b := by
  refine items_ind (P := fun b => (itemsR b).flatMap Ite.raw = b) rfl (fun b hb ih => ?_) b
  have hr := raw_len hb
  rw [items_cons hb, List.flatMap_cons, ih]
  conv => { lhs; lhs; rw [hr.2.2.1] }
  exact List.take_append_drop _ _
theorem items_trunc (b : Str) : ∀ k (h : k < (itemsR b).length), (itemsR b)[k].kind = 4 → k + 1 = (itemsR b).length := by
  refine items_ind (P := fun b => ∀ k (h : k < (itemsR b).length), (itemsR b)[k].kind = 4 → k + 1 = (itemsR b).length) (fun k h => by simp [items_nil] at h) (fun b hb ih => ?_) b
  intro k h hk
  have hr := raw_len hb
  have e := items_cons hb
  simp only [e] at h hk ⊢
  cases k with
  | zero =>
    simp only [List.getElem_cons_zero] at hk
    have hz := hr.2.2.2 hk
    rw [hz, List.drop_length, items_nil]
    rfl
  | succ k =>
    simp only [List.getElem_cons_succ, List.length_cons] at h hk ⊢
    have := ih k (by omega) hk
    omega
theorem it_more {b : Str} (hb : b ≠ []) (h4 : (itR b).kind ≠ 4) (r : Str) : itR (b ++ r) = itR b := by
  have hn : ¬ b.length < needR b := fun h => h4 ((trunc_iff hb).2 h)
  cases h : hdB b with
  | none =>
    exfalso
    refine h4 ?_
    unfold itR
    rw [h]
    try rfl
  | some q =>
    obtain ⟨p, o, t⟩ := q
    have hd := hd_len h
    have hm := hd_more h r
    rw [need_some h] at hn
    cases hr : ratT p o.toNat with
    | none =>
      have e1 : itR b = if rkindT p o.toNat = 0 then iteO 2 (b.take 1) else iteO 3 (b.take 2) := by unfold itR; rw [h]; simp only [hr]
      have e2 : itR (b ++ r) = if rkindT p o.toNat = 0 then iteO 2 ((b ++ r).take 1) else iteO 3 ((b ++ r).take 2) := by unfold itR; rw [hm]; simp only [hr]
      rw [e1, e2]
      rcases hd_kind h hr with h0 | ⟨h3, rfl⟩
      · rw [if_pos h0, if_pos h0, List.take_append_of_le_length (by omega)]
      · have hn0 : ¬ rkindT 2 o.toNat = 0 := by omega
        have e2 : (preS 2).length = 1 := rfl
        rw [if_neg hn0, if_neg hn0, List.take_append_of_le_length (by omega)]
    | some x =>
      rw [hr] at hn
      simp only at hn
      obtain ⟨C, hC, h1, h2, hin⟩ := dec_raw h hr (by omega)
      have hd2 := dec_enc hin hC (b.drop (sizeT p x.2.2.1) ++ r)
      simp only at hd2
      rw [← h1, ← List.append_assoc, List.take_append_drop] at hd2
      rw [hd2, h2]
theorem items_join (a b : Str) (h : ∀ x ∈ itemsR a, x.kind ≠ 4) : itemsR (a ++ b) = itemsR a ++ itemsR b := by
  revert h
  refine items_ind (P := fun a => (∀ x ∈ itemsR a, x.kind ≠ 4) → itemsR (a ++ b) = itemsR a ++ itemsR b) (fun _ => rfl) (fun a ha ih h => ?_) a
  have hr := raw_len ha
  have e := items_cons ha
  have h4 : (itR a).kind ≠ 4 := h _ (by rw [e]; exact List.mem_cons_self ..)
  have hm := it_more ha h4 b
  have hab : a ++ b ≠ [] := by intro hn; exact ha (List.append_eq_nil_iff.1 hn).1
  rw [items_cons hab, hm, e, List.drop_append_of_le_length hr.2.1, ih (fun x hx => h x (by rw [e]; exact List.mem_cons_of_mem _ hx))]
  rfl
def okI (x : Ite) : Bool := decide (x.kind = 1) && !x.al
def oneB (b : Str) (n : Nat) : Bool := okI (itR (b.take n)) && decide ((itR (b.take n)).raw.length = n)
theorem one_front {b : Str} {n : Nat} (h1 : 1 ≤ n) (hn : n ≤ b.length) : oneB b n = true ↔ okI (itR b) = true ∧ (itR b).raw.length = n := by
  have hb : b ≠ [] := by intro h; subst h; simp at hn; omega
  have ht : b.take n ≠ [] := by intro h; have := congrArg List.length h; rw [List.length_take] at this; simp only [List.length_nil] at this; omega
  unfold oneB
  simp only [Bool.and_eq_true, decide_eq_true_eq]
  constructor
  · rintro ⟨h2, h3⟩
    have h4 : (itR (b.take n)).kind ≠ 4 := by
      unfold okI at h2
      simp only [Bool.and_eq_true, decide_eq_true_eq] at h2
      omega
    have hm := it_more ht h4 (b.drop n)
    rw [List.take_append_drop] at hm
    rw [hm]
    exact ⟨h2, h3⟩
  · rintro ⟨h2, h3⟩
    have hk : (itR b).kind = 1 := by
      unfold okI at h2
      simp only [Bool.and_eq_true, decide_eq_true_eq] at h2
      exact h2.1
    have hr := raw_len hb
    cases h : hdB b with
    | none => unfold itR at hk; rw [h] at hk; cases hk
    | some q =>
      obtain ⟨p, o, t⟩ := q
      cases hq : ratT p o.toNat with
      | none =>
        unfold itR at hk
        rw [h] at hk
        simp only [hq] at hk
        split at hk <;> cases hk
      | some x =>
        have hz : ¬ b.length < sizeT p x.2.2.1 := by
          intro hz
          unfold itR at hk
          rw [h] at hk
          simp only [hq, if_pos hz] at hk
          cases hk
        obtain ⟨C, hC, e1, e2, hin⟩ := dec_raw h hq (by omega)
        have hd2 := dec_enc hin hC []
        simp only at hd2
        rw [List.append_nil, ← e1] at hd2
        have hsz : sizeT p x.2.2.1 = n := by
          have := congrArg (fun i : Ite => i.raw.length) e2
          simp only [List.length_take] at this
          omega
        rw [hsz] at hd2 e2
        rw [hd2]
        rw [e2] at h2 h3
        exact ⟨h2, h3⟩
def onlyB (b : Str) : Nat := if (itemsR b).all okI then 1 else 0
theorem only_cons {b : Str} (hb : b ≠ []) : onlyB b = if okI (itR b) then onlyB (b.drop (itR b).raw.length) else 0 := by
  unfold onlyB
  rw [items_cons hb, List.all_cons]
  cases okI (itR b) <;> simp
end Go.Proofs.YtmnleknehjkmgaaGreat
namespace Go.Proofs.YtmnleknehjkmgaaGreat
open Go.RowKit Go.Shelf
attribute [local go_sem] Oper.semAt_some
theorem raw_need {b : Str} (hb : b ≠ []) (h : (itR b).kind ≠ 4) : (itR b).raw.length = needR b := by
  have hl : 1 ≤ b.length := by cases b; exact absurd rfl hb; simp
  have ht := mt (trunc_iff hb).2 h
  obtain ⟨e, he⟩ : ∃ e, hdB b = e := ⟨_, rfl⟩
  cases e with
  | none => exact absurd (by unfold itR; rw [he]; rfl) h
  | some q =>
    obtain ⟨p, o, t⟩ := q
    rw [need_some he] at ht ⊢
    have hi : itR b = match ratT p o.toNat with
      | none => if rkindT p o.toNat = 0 then iteO 2 (b.take 1) else iteO 3 (b.take 2)
      | some x => if b.length < sizeT p x.2.2.1 then iteO 4 b else ⟨1, b.take (sizeT p x.2.2.1), x.1, (fillV x.2.2.1 x.2.1 (numB x.2.2.1 t).1 (numB x.2.2.1 t).2).getD [], x.2.2.2⟩ := by
      unfold itR
      rw [he]
      try rfl
    rw [hi]
    cases hx : ratT p o.toNat with
    | none =>
      rw [hx] at ht
      simp only at ht ⊢
      by_cases h0 : rkindT p o.toNat = 0
      · rw [if_pos h0, if_pos h0]
        show (b.take 1).length = 1
        rw [List.length_take]; omega
      · rw [if_neg h0, if_neg h0]
        rw [if_neg h0] at ht
        show (b.take 2).length = 2
        rw [List.length_take]; omega
    | some x =>
      rw [hx] at ht
      simp only at ht ⊢
      rw [if_neg ht]
      show (b.take _).length = _
      rw [List.length_take]; omega
end Go.Proofs.YtmnleknehjkmgaaGreat
namespace Go.Proofs.YtmnleknehjkmgaaGreat
open Go.RowKit
theorem raw_four {b : Str} (hb : b ≠ []) : (itR b).raw.length ≤ 4 := by
  have hn := need_rng b
  by_cases h4 : (itR b).kind = 4
  · have h1 := (raw_len hb).2.2.2 h4
    have h2 := (trunc_iff hb).1 h4
    omega
  · rw [raw_need hb h4]
    exact hn.2
theorem only_le (b : Str) : onlyB b ≤ 1 := by
  unfold onlyB
  split <;> omega
def waysB (b : Str) (m : Nat) : Nat := if okI (itR b) = true ∧ (itR b).raw.length ≤ m then onlyB (b.drop (itR b).raw.length) else 0
theorem ways_le (b : Str) (m : Nat) : waysB b m ≤ 1 := by
  unfold waysB
  split
  · exact only_le _
  · omega
theorem ways_zero {b : Str} (hb : b ≠ []) : waysB b 0 = 0 := by
  have h := (raw_len hb).1
  unfold waysB
  rw [if_neg (by omega)]
theorem ways_step {b : Str} {n : Nat} (hn : n + 1 ≤ b.length) : waysB b (n + 1) = if oneB b (n + 1) = true then min (waysB b n + onlyB (b.drop (n + 1))) 1000 else waysB b n := by
  have h1 := one_front (b := b) (n := n + 1) (by omega) hn
  by_cases h : oneB b (n + 1) = true
  · obtain ⟨h2, h3⟩ := h1.1 h
    have h4 := only_le (b.drop (n + 1))
    rw [if_pos h]
    unfold waysB
    rw [if_pos ⟨h2, by omega⟩, if_neg (by omega), h3]
    omega
  · rw [if_neg h]
    unfold waysB
    have h5 : (okI (itR b) = true ∧ (itR b).raw.length ≤ n + 1) ↔ (okI (itR b) = true ∧ (itR b).raw.length ≤ n) := by
      constructor
      · rintro ⟨h2, h3⟩
        refine ⟨h2, ?_⟩
        have : (itR b).raw.length ≠ n + 1 := fun e => h (h1.2 ⟨h2, e⟩)
        omega
      · rintro ⟨h2, h3⟩
        exact ⟨h2, by omega⟩
    simp only [h5]
theorem ways_all {b : Str} (hb : b ≠ []) {m : Nat} (hm : 4 ≤ m ∨ b.length ≤ m) : waysB b m = onlyB b := by
  have h4 := raw_four hb
  have hl := (raw_len hb).2.1
  rw [only_cons hb]
  unfold waysB
  have : (itR b).raw.length ≤ m := by omega
  by_cases h : okI (itR b) = true
  · rw [if_pos ⟨h, this⟩, if_pos h]
  · rw [if_neg (fun e => h e.1), if_neg h]
theorem items_le (b : Str) : (itemsR b).length ≤ b.length := by
  refine items_ind (P := fun b => (itemsR b).length ≤ b.length) (Nat.le_refl _) ?_ b
  intro b hb ih
  have h := raw_len hb
  simp only [List.length_drop] at ih
  rw [items_cons hb, List.length_cons]
  omega
def offI (l : List Ite) (k : Nat) : Nat := ((l.take k).map fun x => x.raw.length).sum
theorem off_succ (l : List Ite) {k : Nat} (h : k < l.length) : offI l (k + 1) = offI l k + l[k].raw.length := by
  unfold offI
  rw [List.take_succ_eq_append_getElem h, List.map_append, List.sum_append]
  simp
end Go.Proofs.YtmnleknehjkmgaaGreat
namespace Go.Proofs.YtmnleknehjkmgaaGreat
open Go.RowKit
theorem len_of_map {α β : Type} {f : α → β} {R : List α} {a c : List β} (h : R.map f ++ a = c) : R.length + a.length = c.length := by
  rw [← h, List.length_append, List.length_map]
theorem items_step {α : Type} {f : α → Ite} {R : List α} {rest b : Str} (h : R.map f ++ itemsR rest = itemsR b) (hne : rest ≠ []) (y : α) (hy : f y = itR rest) : (R ++ [y]).map f ++ itemsR (rest.drop (itR rest).raw.length) = itemsR b := by
  rw [← h, items_cons hne, List.map_append, List.append_assoc]
  simp [hy]
theorem items_cnt {α : Type} {f : α → Ite} {R : List α} {rest b : Str} (h : R.map f ++ itemsR rest = itemsR b) : R.length ≤ b.length := by
  have h1 := len_of_map h
  have h2 := items_le b
  omega
theorem drop_ne {b : Str} {k l : Nat} (hl : b.length = l) (hk : k < l) : b.drop k ≠ [] := fun e => by
  have := congrArg List.length e
  rw [List.length_drop] at this
  simp at this
  omega
def rawI (L : List Ite) : Str := L.flatMap Ite.raw
theorem rawI_append (a b : List Ite) : rawI (a ++ b) = rawI a ++ rawI b := List.flatMap_append
theorem rawI_items (b : Str) : rawI (itemsR b) = b := items_raw b
theorem rawI_take (L : List Ite) {k : Nat} (h : k < L.length) : rawI (L.take (k + 1)) = rawI (L.take k) ++ L[k].raw := by
  rw [List.take_succ_eq_append_getElem h, rawI_append]
  simp [rawI]
theorem off_raw (L : List Ite) (k : Nat) : offI L k = (rawI (L.take k)).length := by
  unfold offI rawI
  rw [List.length_flatMap]
theorem rawI_mono (L : List Ite) (k : Nat) : (rawI (L.take k)).length ≤ (rawI L).length := by
  conv => rhs; rw [← List.take_append_drop k L, rawI_append, List.length_append]
  omega
theorem off_mono (L : List Ite) (k : Nat) : offI L k ≤ (rawI L).length := by rw [off_raw]; exact rawI_mono L k
def covB (L : List Ite) (off : Int) (k : Nat) : Bool := decide ((offI L k : Int) ≤ off) && decide (off < (offI L (k + 1) : Int))
def covI (L : List Ite) (off : Int) : Option Nat := (List.range L.length).find? (covB L off)
theorem cov_some {L : List Ite} {off : Int} {k : Nat} (hk : k < L.length) (h : covB L off k = true) (hb : ∀ j, j < k → covB L off j = false) : covI L off = some k := by
  unfold covI
  have e : List.range L.length = List.range k ++ (k :: (List.range L.length).drop (k + 1)) := by
    have := List.take_append_drop k (List.range L.length)
    rw [List.take_range, Nat.min_eq_left (Nat.le_of_lt hk), List.drop_eq_getElem_cons (by simpa using hk)] at this
    simpa using this.symm
  rw [e, List.find?_append, List.find?_eq_none.2 (fun x hx => by rw [hb x (List.mem_range.1 hx)]; simp)]
  simp [h]
theorem cov_none {L : List Ite} {off : Int} (h : ∀ j, j < L.length → covB L off j = false) : covI L off = none := by
  unfold covI
  exact List.find?_eq_none.2 fun x hx => by rw [h x (List.mem_range.1 hx)]; simp
def cntI (L : List Ite) (kd : Int) : Nat := (L.filter fun x => decide (x.kind = kd)).length
end Go.Proofs.YtmnleknehjkmgaaGreat
namespace Go.Proofs.YtmnleknehjkmgaaGreat
open Go.RowKit Go.Shelf
theorem same_start (w : World) (s1 s2 : ByteArray) (v1 v2 : Value) : ∃ w0, (w.alloc (.cells #[.string s1, v1] 32)).alloc (.cells #[.string s2, v2] 32) = w0 ∧
    w0.heap[w.heap.size]? = some (.cells #[.string s1, v1] 32 (0, 0)) ∧ w0.heap[w.heap.size + 1]? = some (.cells #[.string s2, v2] 32 (0, 0)) ∧ Below w.heap.size w w0 := by
  refine ⟨_, rfl, (Below.heap_alloc _ _ _ (by simp)).trans (World.alloc_heap_new w _), ?_, ((Below.refl _ w).alloc (Nat.le_refl _) _).alloc (by simp) _⟩
  have h := World.alloc_heap_new (w.alloc (.cells #[.string s1, v1] 32)) (.cells #[.string s2, v2] 32)
  rw [World.size_alloc] at h
  exact h
theorem sB_inj {a b : Str} (h : sB a = sB b) : a = b := by
  have h2 : (sB a).data.toList = (sB b).data.toList := by rw [h]
  simpa [sB] using h2
theorem sB_ne (a b : Str) (h : a ≠ b) : ((sB a).toList == (sB b).toList) = false := strB_ne fun e => h (sB_inj e)
theorem rsame_any (m1 m2 : Str) (A1 A2 : Option Addr) (c1 c2 : Nat) (L1 L2 : List Tr) (h1 : L1.length ≤ 1000) (h2 : L2.length ≤ 1000) (w : World) (H1 : OpsP w A1 L1) (H2 : OpsP w A2 L2) :
    Calls Tryz.prog 20 #[.agg #[.string (sB m1), .slice A1 L1.length c1], .agg #[.string (sB m2), .slice A2 L2.length c2]] w fun e w' => e = .returned (.bool (decide (m1 = m2) && decide (L1 = L2))) ∧ Below w.heap.size w w' := by
  obtain ⟨r, hr⟩ : ∃ r, (decide (m1 = m2) && decide (L1 = L2)) = r := ⟨_, rfl⟩
  have HR := Lib.hid hr
  rw [hr]
  clear hr
  by_cases hm : m1 = m2
  · subst hm
    by_cases hl : L1.length = L2.length
    · obtain ⟨w0, hw0, C1, C2, B0⟩ := same_start w (sB m1) (sB m1) (.slice A1 L1.length c1) (.slice A2 L2.length c2)
      obtain ⟨n, hn⟩ : ∃ n, L1.length = n := ⟨_, rfl⟩
      have HN := Lib.hid hn
      have HL := Lib.hid hl
      rw [← hl, hn] at C2 hw0
      rw [hn] at C1 h1
      rw [← hl, hn]
      have X1 := Lib.hid (H1.below B0)
      have X2 := Lib.hid (H2.below B0)
      have k0 := Lib.cell_of_heap C1 0
      have k1 := Lib.cell_of_heap C1 1
      have j0 := Lib.cell_of_heap C2 0
      have j1 := Lib.cell_of_heap C2 1
      have B0 := Lib.hid B0
      have hq := strB_eq (sB m1)
      clear H1 H2 C1 C2 hn hl h2
      go_enter Tryz.func20, Tryz.ntmps20
      go_wp2
      clear hw0
      go_loopw [5] (fun i wr => ∃ j q : Nat, j ≤ n ∧ i = .int .i64 j ∧ wr = w0.drewN q ∧ Hid (∀ k, k < j → ∀ (a : k < L1.length) (b : k < L2.length), L1[k] = L2[k])) (fun i _ => n - (intOf i).toNat)
      case atStart => exact ⟨0, 0, Nat.zero_le _, rfl, rfl, fun k h => by omega⟩
      case round =>
        obtain ⟨j, q, hj, rfl, rfl, R⟩ := hrel
        by_cases hlt : j < n
        · have hj1 : j < L1.length := by have := HN.out; omega
          have hj2 : j < L2.length := by have := HL.out; omega
          obtain ⟨b1, o1, hA1, -, p0, p1, p2⟩ := X1.out.at_ hj1
          obtain ⟨b2, o2, hA2, -, q0, q1, q2⟩ := X2.out.at_ hj2
          subst hA1
          subst hA2
          by_cases he : L1[j] = L2[j]
          · have R2 : Hid (∀ k, k < j + 1 → ∀ (a : k < L1.length) (b : k < L2.length), L1[k] = L2[k]) := fun k hk a b => by
              by_cases e : k = j
              · subst e; exact he
              · exact R.out k (by omega) a b
            rw [he] at p0 p1 p2
            obtain ⟨⟨x0, x1, x2⟩, hx⟩ : ∃ x, L2[j] = x := ⟨_, rfl⟩
            rw [hx] at p0 p1 p2 q0 q1 q2
            simp only at p0 p1 p2 q0 q1 q2
            clear he hx hj1 hj2 R
            go_wp2
            go_quiet (fail)
            go_wp2
            go_roundw
            case rel => exact ⟨j + 1, q + nq, by omega, by go_num, rfl, R2.out⟩
            case measure => simp [intOf]; omega
          · have T : Hid (false = r) := by show false = r; rw [← HR.out, decide_eq_false (fun e => he (by simp only [e]) : ¬ L1 = L2), Bool.and_false]
            have hne := tr_ne he
            obtain ⟨⟨x0, x1, x2⟩, hx⟩ : ∃ x, L1[j] = x := ⟨_, rfl⟩
            obtain ⟨⟨y0, y1, y2⟩, hy⟩ : ∃ y, L2[j] = y := ⟨_, rfl⟩
            rw [hx] at p0 p1 p2 hne
            rw [hy] at q0 q1 q2 hne
            simp only at p0 p1 p2 q0 q1 q2 hne
            clear he hx hy hj1 hj2 R
            rcases hne with hne | ⟨rfl, hne⟩ | ⟨rfl, rfl, hne⟩
            all_goals
              go_wp2
              go_quiet (fail)
              go_wp2
              go_ret
              exact ⟨ret_bool T.out, B0.out.trans ((below_drewN w0 _ q).trans (below_drewN _ _ nq))⟩
        · have T : Hid (true = r) := by
            have e : L1 = L2 := List.ext_getElem HL.out fun k a b => R.out k (by have := HN.out; omega) a b
            show true = r
            rw [← HR.out, decide_eq_true e]
            rfl
          go_wp2
          go_ret
          exact ⟨ret_bool T.out, B0.out.trans (below_drewN w0 w.heap.size q)⟩
    · have T : Hid (false = r) := by show false = r; rw [← HR.out, decide_eq_false (fun e => hl (by rw [e]) : ¬ L1 = L2), Bool.and_false]
      have hq := strB_eq (sB m1)
      have hne : ((L1.length : Int) == (L2.length : Int)) = false := beq_eq_false_iff_ne.2 fun e => hl (by omega)
      have hne2 : ((L1.length : Int) != (L2.length : Int)) = true := by unfold bne; rw [hne]; rfl
      clear H1 H2
      go_enter Tryz.func20, Tryz.ntmps20
      go_wp2
      go_ret
      exact ⟨ret_bool T.out, ((Below.refl _ w).alloc (Nat.le_refl _) _).alloc (by simp) _⟩
  · have T : Hid (false = r) := by show false = r; rw [← HR.out, decide_eq_false hm, Bool.false_and]
    have hq := sB_ne m1 m2 hm
    clear H1 H2
    go_enter Tryz.func20, Tryz.ntmps20
    go_wp2
    go_ret
    exact ⟨ret_bool T.out, ((Below.refl _ w).alloc (Nat.le_refl _) _).alloc (by simp) _⟩
end Go.Proofs.YtmnleknehjkmgaaGreat
namespace Go.Proofs.YtmnleknehjkmgaaGreat
open Go.RowKit Go.Shelf
theorem al2 (w : World) (o1 o2 : Obj) : Below w.heap.size w ((w.alloc o1).alloc o2) := (up_alloc w o1).alloc (by simp) o2
def rsumN (l : Str) : Nat → Nat
  | 0 => 0
  | k + 1 => if l[k]?.getD 0 = 119 then rsumN l k + 2 else rsumN l k + 1
theorem rsumN_le (l : Str) : ∀ k, rsumN l k ≤ 2 * k
  | 0 => Nat.le_refl _
  | k + 1 => by
    have := rsumN_le l k
    unfold rsumN
    split <;> omega
def rsizeT (page : Int) (ex : Str) : Nat := (preS page).length + 1 + rsumN ex ex.length
theorem rsize_any (page op : Int) (m : Str) (A : Option Addr) (n cap : Nat) (ex : Str) (hx : ex.length ≤ 1000) (al : Bool) (w : World) :
    Calls Tryz.prog 46 #[enV page op m (.slice A n cap) ex al] w fun e w' => e = .returned (.int .i64 (rsizeT page ex : Nat)) ∧ Below w.heap.size w w' := by
  unfold enV
  obtain ⟨s, hs⟩ : ∃ s, sB ex = s := ⟨_, rfl⟩
  have hz : s.size = ex.length := by rw [← hs, sB_size]
  have hat : ∀ k (h : k < s.size) (h' : k < ex.length), s[k] = ex[k] := fun k h h' => by subst hs; exact sB_at ex k h h'
  have HAT := Lib.hid hat
  obtain ⟨l, hl⟩ : ∃ l, ex.length = l := ⟨_, rfl⟩
  have HL := Lib.hid hl
  rw [hl] at hz hx
  rw [hs]
  clear hs hat hl
  obtain ⟨w0, hw0⟩ : ∃ w0, w.alloc (.cells #[.int .i64 page, .int .u8 op, .string (sB m), .slice A n cap, .string s, .bool al] 80) = w0 := ⟨_, rfl⟩
  obtain ⟨b, hb⟩ : ∃ b, w.heap.size = b := ⟨_, rfl⟩
  have B0 : Hid (Below b w w0) := by rw [← hw0, ← hb]; exact (Below.refl _ _).alloc (Nat.le_refl _) _
  have Z0 : w0.heap.size = b + 1 := by rw [← hw0, ← hb]; simp
  have c0 : w0.heap[b]? = some (.cells #[.int .i64 page, .int .u8 op, .string (sB m), .slice A n cap, .string s, .bool al] 80 (0, 0)) := by rw [← hw0, ← hb]; exact World.alloc_heap_new w _
  have C0 := Lib.hid c0
  have hpp := rprefixes_any page w0
  have k0 := Lib.cell_of_heap c0 0
  have HB := Lib.hid hb
  have HPL := Lib.hid (pre_le page)
  obtain ⟨pl, hpl⟩ : ∃ p, (preS page).length = p := ⟨_, rfl⟩
  have HP := Lib.hid hpl
  have HZ := Lib.hid hz
  clear c0
  go_enter Tryz.func46, Tryz.ntmps46
  go_wp2_with fail
  refine hpp.mono ?_
  rintro e w1 ⟨v, rfl, hO, hb1⟩
  obtain ⟨A1, cap1, rfl, -⟩ := hO.bytes
  rw [hpl]
  have B1 : Hid (Below b w w1) := B0.out.trans (hb1.mono (by omega))
  have c1 := (hb1.block b (by omega)).trans C0.out
  have C1 := Lib.hid c1
  have k4 := Lib.cell_of_heap c1 4
  have hp2 : pl ≤ 2 := by rw [← hpl]; exact HPL.out
  clear hpp hO hb1 c1 k0 hw0 B0 C0 hpl Z0
  go_wp2
  clear k4
  go_loopw [4, 3] (fun i o wr => ∃ k : Nat, k ≤ l ∧ i = .int .i64 k ∧ o = .int .i64 ((pl + 1 + rsumN ex k : Nat) : Int) ∧ wr = w1) (fun i _ _ => l - (intOf i).toNat)
  case atStart => exact ⟨0, Nat.zero_le _, rfl, rfl, rfl⟩
  case round =>
    obtain ⟨k, hk, rfl, rfl, rfl⟩ := hrel
    have k4 := Lib.cell_of_heap C1.out 4
    by_cases hlt : k < l
    · have hlt' : k < s.size := by omega
      have hlt2 : k < ex.length := by rw [HL.out]; exact hlt
      have SL := rsumN_le ex k
      have hc : ex[k]?.getD 0 = s[k] := by rw [List.getElem?_eq_getElem hlt2, Option.getD_some]; exact (HAT.out k hlt' hlt2).symm
      have HC := Lib.hid hc
      obtain ⟨t, ht⟩ : ∃ t, rsumN ex k = t := ⟨_, rfl⟩
      rw [ht] at SL ⊢
      have HT := Lib.hid ht
      clear hc ht
      have hk1 : k ≤ 1000 := by omega
      by_cases h119 : s[k] = 119
      · have SS : Hid (rsumN ex (k + 1) = t + 2) := by show rsumN ex (k + 1) = _; rw [rsumN, if_pos (HC.out.trans h119), HT.out]
        have hv : s[k].toNat = 119 := by rw [h119]; rfl
        clear h119
        go_wp2
        go_roundw
        case rel => exact ⟨k + 1, by omega, by go_num, by rw [SS.out]; go_num, trivial⟩
        case measure => simp [intOf]; omega
      · have SS : Hid (rsumN ex (k + 1) = t + 1) := by show rsumN ex (k + 1) = _; rw [rsumN, if_neg (by rw [HC.out]; exact h119), HT.out]
        have hv : ((s[k].toNat : Int) == 119) = false := by
          simp
          intro h
          exact h119 (UInt8.toNat_inj.1 (by rw [show (119 : UInt8).toNat = 119 from rfl]; omega))
        clear h119
        go_wp2
        go_roundw
        case rel => exact ⟨k + 1, by omega, by go_num, by rw [SS.out]; go_num, trivial⟩
        case measure => simp [intOf]; omega
    · obtain rfl : k = l := by omega
      have T : Hid (rsizeT page ex = pl + 1 + rsumN ex k) := by show rsizeT page ex = _; unfold rsizeT; rw [HP.out, HL.out]
      go_wp2
      go_ret
      exact ⟨by rw [T.out]; rfl, by rw [HB.out]; exact B1.out⟩
end Go.Proofs.YtmnleknehjkmgaaGreat
namespace Go.Proofs.YtmnleknehjkmgaaGreat
open Go.RowKit
def stepL (c : UInt8) (t : Str) (s : Int × Int) : Int × Int :=
  if c = 100 then (sgB (t.getD 0 0), s.2) else if c = 101 then (s.1, sgB (t.getD 0 0)) else if c = 110 then (s.1, ((t.getD 0 0).toNat : Int)) else if c = 119 then (s.1, ((t.getD 0 0).toNat : Int) + 256 * ((t.getD 1 0).toNat : Int)) else s
def stJ (ex : Str) (b : Str) (nx : Nat) : Nat → Int × Int
  | 0 => (0, 0)
  | j + 1 => stepL (ex.getD j 0) (b.drop (nx + j)) (stJ ex b nx j)
theorem sz_same {g : Int} {i : Nat} {ex : Str} (hx : ExP g i ex) : rsizeT g ex = sizeT g ex := by
  obtain ⟨h0, h6⟩ := hx.pg
  rcases (by omega : g = 0 ∨ g = 1 ∨ g = 2 ∨ g = 3 ∨ g = 4 ∨ g = 5 ∨ g = 6) with rfl | rfl | rfl | rfl | rfl | rfl | rfl <;> rcases hx.lst with rfl | rfl | rfl | rfl | rfl | rfl <;> decide
theorem getD_drop (b : Str) (k j : Nat) : (b.drop k).getD j 0 = b.getD (k + j) 0 := by
  rw [List.getD_eq_getElem?_getD, List.getD_eq_getElem?_getD, List.getElem?_drop]
theorem st_num {b : Str} {g : Int} {i : Nat} {ex : Str} (hx : ExP g i ex) (hg : (pgA b).1 = g) (h : (pgA b).2 < b.length) :
    stJ ex b (nxA b) ex.length = numB ex (if 5 ≤ (pgA b).1 then b.getD 2 0 :: b.drop 4 else b.drop ((pgA b).2 + 1)) := by
  unfold nxA
  rw [hg]
  by_cases h5 : 5 ≤ g
  · rw [if_pos h5, if_pos h5]
    obtain rfl := hx.hi h5
    rw [num_d]
    show stepL 100 (b.drop 2) (0, 0) = _
    simp only [stepL, if_true, getD_drop, List.getD_cons_zero]
  · rw [if_neg h5, if_neg h5]
    generalize (pgA b).2 + 1 = nx
    rcases hx.lst with rfl | rfl | rfl | rfl | rfl | rfl
    · rw [num_0]; rfl
    · rw [num_d]; rfl
    · rw [num_e]; rfl
    · rw [num_n]; rfl
    · rw [num_w]; rfl
    · rw [num_dn]
      show stepL 110 (b.drop (nx + 1)) (stepL 100 (b.drop (nx + 0)) (0, 0)) = _
      have e1 : stepL 100 (b.drop (nx + 0)) (0, 0) = (sgB ((b.drop nx).getD 0 0), 0) := by unfold stepL; rw [if_pos rfl]; rfl
      rw [e1]
      unfold stepL
      rw [if_neg (by decide), if_neg (by decide), if_pos rfl]
      simp only [getD_drop, Nat.add_zero]
theorem st_bnd {b : Str} {g : Int} {i : Nat} {ex : Str} (hx : ExP g i ex) (hg : (pgA b).1 = g) (hz : sizeT g ex ≤ b.length) :
    ∀ j (hj : j < ex.length), nxA b + j < b.length ∧ (ex[j] = 119 → nxA b + j + 1 < b.length) ∧ (ex[j] = 100 ∨ ex[j] = 101 ∨ ex[j] = 110 ∨ ex[j] = 119) := by
  obtain ⟨h0, h6⟩ := hx.pg
  obtain ⟨-, hp3, hp5⟩ := pg_rng b
  have hat : (pgA b).2 = (if 5 ≤ g then 3 else (preS g).length) := by
    cases b with
    | nil => rw [← hg]; decide
    | cons c r =>
      rw [← hg]
      simp only [pgA]
      repeat' split
      all_goals first | rfl | (simp_all; done) | (exfalso; revert hg; simp_all; done) | decide
  unfold nxA
  rw [hg]
  by_cases h5 : 5 ≤ g
  · rw [if_pos h5]
    have he := hx.hi h5
    subst he
    have hs : sizeT g [100] = 4 := by rcases (by omega : g = 5 ∨ g = 6) with rfl | rfl <;> rfl
    intro j hj
    obtain rfl : j = 0 := by simp at hj; omega
    exact ⟨by omega, fun e => absurd (show (100 : UInt8) = 119 from e) (by decide), .inl rfl⟩
  · rw [if_neg h5] at hat ⊢
    rw [hat]
    have hs : sizeT g ex = (preS g).length + 1 + sumN ex ex.length := rfl
    rw [hs] at hz
    rcases hx.lst with rfl | rfl | rfl | rfl | rfl | rfl
    · intro j hj; simp at hj
    · have : sumN [100] [100].length = 1 := rfl
      intro j hj
      obtain rfl : j = 0 := by simp at hj; omega
      exact ⟨by omega, fun e => absurd (show (100 : UInt8) = 119 from e) (by decide), .inl rfl⟩
    · have : sumN [101] [101].length = 1 := rfl
      intro j hj
      obtain rfl : j = 0 := by simp at hj; omega
      exact ⟨by omega, fun e => absurd (show (101 : UInt8) = 119 from e) (by decide), .inr (.inl rfl)⟩
    · have : sumN [110] [110].length = 1 := rfl
      intro j hj
      obtain rfl : j = 0 := by simp at hj; omega
      exact ⟨by omega, fun e => absurd (show (110 : UInt8) = 119 from e) (by decide), .inr (.inr (.inl rfl))⟩
    · have : sumN [119] [119].length = 2 := rfl
      intro j hj
      obtain rfl : j = 0 := by simp at hj; omega
      exact ⟨by omega, fun e => by omega, .inr (.inr (.inr rfl))⟩
    · have : sumN [100, 110] [100, 110].length = 2 := rfl
      intro j hj
      simp only [List.length_cons, List.length_nil] at hj
      have hj2 : j = 0 ∨ j = 1 := by omega
      rcases hj2 with rfl | rfl
      · exact ⟨by omega, fun e => absurd (show (100 : UInt8) = 119 from e) (by decide), .inl rfl⟩
      · exact ⟨by omega, fun e => absurd (show (110 : UInt8) = 119 from e) (by decide), .inr (.inr (.inl rfl))⟩
end Go.Proofs.YtmnleknehjkmgaaGreat
namespace Go.Proofs.YtmnleknehjkmgaaGreat
open Go.RowKit Go.Shelf
attribute [local irreducible] Go.Mixed.wpMix
def lenE (x : En) : Bool := decide (x.1.length ≤ 10) && decide (x.2.1.length ≤ 3) && decide (x.2.2.1.length ≤ 3)
def lenN (p n : Nat) : Bool := match atN p n with | some x => lenE x | none => kindT p n == rkindT p n
theorem len_0 : ∀ n : Fin 256, lenN 0 n.val = true := by decide +kernel
theorem len_1 : ∀ n : Fin 256, lenN 1 n.val = true := by decide +kernel
theorem len_2 : ∀ n : Fin 256, lenN 2 n.val = true := by decide +kernel
theorem len_3 : ∀ n : Fin 256, lenN 3 n.val = true := by decide +kernel
theorem len_4 : ∀ n : Fin 256, lenN 4 n.val = true := by decide +kernel
theorem len_5 : ∀ n : Fin 256, lenN 5 n.val = true := by decide +kernel
theorem len_6 : ∀ n : Fin 256, lenN 6 n.val = true := by decide +kernel
theorem len_all (p n : Nat) (hp : p < 7) (hn : n < 256) : lenN p n = true := by
  rcases (by omega : p = 0 ∨ p = 1 ∨ p = 2 ∨ p = 3 ∨ p = 4 ∨ p = 5 ∨ p = 6) with rfl | rfl | rfl | rfl | rfl | rfl | rfl
  · exact len_0 ⟨n, hn⟩
  · exact len_1 ⟨n, hn⟩
  · exact len_2 ⟨n, hn⟩
  · exact len_3 ⟨n, hn⟩
  · exact len_4 ⟨n, hn⟩
  · exact len_5 ⟨n, hn⟩
  · exact len_6 ⟨n, hn⟩
theorem ok_none {page : Int} {n : Nat} (hn : n < 256) (h : ratT page n = none) : kindT page n = rkindT page n := by
  by_cases hp : 0 ≤ page ∧ page ≤ 6
  · obtain ⟨p, rfl⟩ : ∃ p : Nat, page = p := ⟨page.toNat, by omega⟩
    have h1 := len_all p n (by omega) hn
    rw [← at_same _ n hn, atN_eq p n hn] at h
    unfold lenN at h1
    rw [h] at h1
    exact eq_of_beq h1
  · unfold kindT rkindT
    rw [if_pos (by omega), if_neg (by omega), if_neg (by omega), if_neg (by omega)]
end Go.Proofs.YtmnleknehjkmgaaGreat
namespace Go.Proofs.YtmnleknehjkmgaaGreat
open Go.RowKit
theorem page_cases {p : Int} (hp : 0 ≤ p ∧ p ≤ 6) : p = 0 ∨ p = 1 ∨ p = 2 ∨ p = 3 ∨ p = 4 ∨ p = 5 ∨ p = 6 := by omega
theorem hd_at {p : Int} (hp : 0 ≤ p ∧ p ≤ 4) (o : UInt8) (t : Str) (h0 : p = 0 → o ≠ 203 ∧ o ≠ 221 ∧ o ≠ 237 ∧ o ≠ 253) (h3 : p = 3 ∨ p = 4 → o ≠ 203) : hdB (preS p ++ o :: t) = some (p, o, t) := by
  rcases (by omega : p = 0 ∨ p = 1 ∨ p = 2 ∨ p = 3 ∨ p = 4) with rfl | rfl | rfl | rfl | rfl
  · obtain ⟨a, b, c, d⟩ := h0 rfl
    show hdB (o :: t) = _
    simp only [hdB]
    rw [if_neg a, if_neg c, if_neg b, if_neg d]
  · rfl
  · rfl
  · have h := h3 (.inl rfl)
    show hdB (221 :: o :: t) = _
    simp only [hdB]
    rw [if_neg (by decide), if_neg (by decide), if_pos (by decide), if_neg h]
  · have h := h3 (.inr rfl)
    show hdB (253 :: o :: t) = _
    simp only [hdB]
    rw [if_neg (by decide), if_neg (by decide), if_neg (by decide), if_pos (by decide), if_neg h]
theorem hd_at5 {p : Int} (hp : 5 ≤ p ∧ p ≤ 6) (x o : UInt8) (t : Str) : hdB (preS p ++ x :: o :: t) = some (p, o, x :: t) := by
  rcases (by omega : p = 5 ∨ p = 6) with rfl | rfl <;> rfl
theorem hd_some {p : Int} (hp : 0 ≤ p ∧ p ≤ 4) {o : UInt8} (t : Str) {x : En} (h : ratT p o.toNat = some x) : hdB (preS p ++ o :: t) = some (p, o, t) := by
  have hx := exP_of o.toNat_lt h
  have ne : ∀ n : Nat, n < 256 → o.toNat ≠ n → o ≠ UInt8.ofNat n := fun n hn hh e => hh (by rw [e, UInt8.toNat_ofNat_of_lt' hn])
  refine hd_at hp o t (fun h0 => ?_) (fun h3 => ne 203 (by decide) (hx.ind h3))
  obtain ⟨a, b, c, d⟩ := hx.main h0
  exact ⟨ne 203 (by decide) a, ne 221 (by decide) b, ne 237 (by decide) c, ne 253 (by decide) d⟩
theorem knd_of {p : Int} (hp : 0 ≤ p ∧ p ≤ 6) {o : UInt8} (h : ratT p o.toNat = none) :
    (rkindT p o.toNat = 2 ∧ p ≤ 4 ∧ ∃ p', pageT (preS p ++ [o]) = some p' ∧ preS p' = preS p ++ [o] ∧ 0 ≤ p' ∧ p' ≤ 6) ∨
    ((rkindT p o.toNat = 0 ∨ rkindT p o.toNat = 3 ∧ p = 2) ∧ (p ≤ 4 → ∀ t, hdB (preS p ++ o :: t) = some (p, o, t))) := by
  have hlt := o.toNat_lt
  have ho : o = UInt8.ofNat o.toNat := by simp
  have hk := knd_k ⟨p.toNat, by omega⟩ ⟨o.toNat, hlt⟩
  unfold kndB at hk
  simp only at hk
  rw [show ((p.toNat : Nat) : Int) = p by omega, h] at hk
  simp only [Option.isSome_none, Bool.false_or, Bool.or_eq_true, Bool.and_eq_true, decide_eq_true_eq, beq_iff_eq] at hk
  have two : ∀ q : Int, (q = 0 ∧ (o = 203 ∨ o = 221 ∨ o = 237 ∨ o = 253)) ∨ ((q = 3 ∨ q = 4) ∧ o = 203) → q = p → (rkindT p o.toNat = 2 ∧ p ≤ 4 ∧ ∃ p', pageT (preS p ++ [o]) = some p' ∧ preS p' = preS p ++ [o] ∧ 0 ≤ p' ∧ p' ≤ 6) := by
    intro q hq e
    subst e
    rcases hq with ⟨rfl, rfl | rfl | rfl | rfl⟩ | ⟨rfl | rfl, rfl⟩
    · exact ⟨rfl, by decide, 1, rfl, rfl, by decide, by decide⟩
    · exact ⟨rfl, by decide, 3, rfl, rfl, by decide, by decide⟩
    · exact ⟨rfl, by decide, 2, rfl, rfl, by decide, by decide⟩
    · exact ⟨rfl, by decide, 4, rfl, rfl, by decide, by decide⟩
    · exact ⟨rfl, by decide, 5, rfl, rfl, by decide, by decide⟩
    · exact ⟨rfl, by decide, 6, rfl, rfl, by decide, by decide⟩
  have on : ∀ n : Nat, n < 256 → o.toNat = n → o = UInt8.ofNat n := fun n hn e => by rw [ho, e]
  by_cases hpre : (p = 0 ∧ (o = 203 ∨ o = 221 ∨ o = 237 ∨ o = 253)) ∨ ((p = 3 ∨ p = 4) ∧ o = 203)
  · exact .inl (two p hpre rfl)
  · have hat : p ≤ 4 → ∀ t, hdB (preS p ++ o :: t) = some (p, o, t) := fun h4 t => hd_at ⟨hp.1, h4⟩ o t
      (fun h0 => ⟨fun e => hpre (.inl ⟨h0, .inl e⟩), fun e => hpre (.inl ⟨h0, .inr (.inl e)⟩), fun e => hpre (.inl ⟨h0, .inr (.inr (.inl e))⟩), fun e => hpre (.inl ⟨h0, .inr (.inr (.inr e))⟩)⟩)
      (fun h3 e => hpre (.inr ⟨h3, e⟩))
    refine .inr ⟨?_, hat⟩
    rcases hk with ((hk | ⟨hk, h2⟩) | ⟨h0, hk⟩) | ⟨h3, hk⟩
    · exact .inl hk
    · exact .inr ⟨hk, by omega⟩
    · exfalso
      refine hpre (.inl ⟨by omega, ?_⟩)
      rcases hk with ((hk | hk) | hk) | hk
      · exact .inl (on 203 (by decide) hk)
      · exact .inr (.inl (on 221 (by decide) hk))
      · exact .inr (.inr (.inl (on 237 (by decide) hk)))
      · exact .inr (.inr (.inr (on 253 (by decide) hk)))
    · exfalso
      exact hpre (.inr ⟨by omega, on 203 (by decide) hk⟩)
theorem miss4 {p : Int} (hp : 0 ≤ p ∧ p ≤ 4) : itR (preS p) = iteO 4 (preS p) ∧ needR (preS p) = (preS p).length + 1 := by
  rcases (by omega : p = 0 ∨ p = 1 ∨ p = 2 ∨ p = 3 ∨ p = 4) with rfl | rfl | rfl | rfl | rfl <;> exact ⟨rfl, rfl⟩
theorem miss5 {p : Int} (hp : 5 ≤ p ∧ p ≤ 6) {r : Str} (hr : r.length ≤ 1) : itR (preS p ++ r) = iteO 4 (preS p ++ r) ∧ needR (preS p ++ r) = 4 := by
  match r, hr with
  | [], _ => rcases (by omega : p = 5 ∨ p = 6) with rfl | rfl <;> exact ⟨rfl, rfl⟩
  | [x], _ => rcases (by omega : p = 5 ∨ p = 6) with rfl | rfl <;> exact ⟨rfl, rfl⟩
  | _ :: _ :: _, h => simp at h
theorem it_of {b : Str} {p : Int} {o : UInt8} {t : Str} (h : hdB b = some (p, o, t)) : itR b = match ratT p o.toNat with
      | none => if rkindT p o.toNat = 0 then iteO 2 (b.take 1) else iteO 3 (b.take 2)
      | some x => if b.length < sizeT p x.2.2.1 then iteO 4 b else ⟨1, b.take (sizeT p x.2.2.1), x.1, (fillV x.2.2.1 x.2.1 (numB x.2.2.1 t).1 (numB x.2.2.1 t).2).getD [], x.2.2.2⟩ := by
  unfold itR
  rw [h]
  try rfl
def mS (s0 : Int × Int) (ex : Str) (b : Str) (k : Nat) : Nat → Int × Int
  | 0 => s0
  | j + 1 => stepL (ex.getD j 0) (b.drop (k + sumN ex j)) (mS s0 ex b k j)
theorem mS_succ (s0 : Int × Int) {ex : Str} (b : Str) (k : Nat) {j : Nat} (hj : j < ex.length) : mS s0 ex b k (j + 1) = stepL ex[j] (b.drop (k + sumN ex j)) (mS s0 ex b k j) := by
  show stepL (ex.getD j 0) _ _ = _
  rw [List.getD_eq_getElem?_getD, List.getElem?_eq_getElem hj]
  rfl
theorem mS_num {g : Int} {i : Nat} {ex : Str} (hx : ExP g i ex) (b : Str) (k : Nat) : mS (0, 0) ex b k ex.length = numB ex (b.drop k) := by
  rcases hx.lst with rfl | rfl | rfl | rfl | rfl | rfl
  · rw [num_0]; rfl
  · rw [num_d]; rfl
  · rw [num_e]; rfl
  · rw [num_n]; rfl
  · rw [num_w]; rfl
  · rw [num_dn]
    show stepL 110 (b.drop (k + 1)) (stepL 100 (b.drop (k + 0)) (0, 0)) = _
    have e1 : stepL 100 (b.drop (k + 0)) (0, 0) = (sgB ((b.drop k).getD 0 0), 0) := by unfold stepL; rw [if_pos rfl]; rfl
    rw [e1]
    unfold stepL
    rw [if_neg (by decide), if_neg (by decide), if_pos rfl]
    simp only [getD_drop, Nat.add_zero]
theorem sumN_all (ex : Str) {j : Nat} (h : j ≤ ex.length) : sumN ex j ≤ sumN ex ex.length := by
  have e : ex = ex.take j ++ ex.drop j := (List.take_append_drop j ex).symm
  have h1 : sumN ex ex.length = sumN ex j + ((ex.drop j).map letN).sum := by
    unfold sumN
    rw [List.take_length]
    conv => lhs; rw [e]
    rw [List.map_append, List.sum_append]
  omega
theorem ex_let {g : Int} {i : Nat} {ex : Str} (hx : ExP g i ex) {j : Nat} (hj : j < ex.length) : ex[j] = 100 ∨ ex[j] = 101 ∨ ex[j] = 110 ∨ ex[j] = 119 := by
  have hm := List.getElem_mem hj
  generalize ex[j] = c at hm ⊢
  rcases hx.lst with rfl | rfl | rfl | rfl | rfl | rfl
  · cases hm
  · exact .inl (List.mem_singleton.1 hm)
  · exact .inr (.inl (List.mem_singleton.1 hm))
  · exact .inr (.inr (.inl (List.mem_singleton.1 hm)))
  · exact .inr (.inr (.inr (List.mem_singleton.1 hm)))
  · rcases List.mem_cons.1 hm with h | h
    · exact .inl h
    · exact .inr (.inr (.inl (List.mem_singleton.1 h)))
theorem ex_len {g : Int} {i : Nat} {ex : Str} (hx : ExP g i ex) : ex.length ≤ 2 := by
  rcases hx.lst with rfl | rfl | rfl | rfl | rfl | rfl <;> decide
theorem pre_5 {p : Int} (h : 5 ≤ p ∧ p ≤ 6) : (preS p).length = 2 := by
  rcases (by omega : p = 5 ∨ p = 6) with rfl | rfl <;> rfl
end Go.Proofs.YtmnleknehjkmgaaGreat
namespace Go.Proofs.YtmnleknehjkmgaaGreat
open Go.RowKit Go.Shelf
attribute [local go_sem] Oper.semAt_some
structure Dec (w0 : World) (D : Nat) (S : Value) (w : World) (k : Nat) (p nd d n : Int) : Prop where
  blk : w.heap[D]? = some (.cells #[S, .int .i64 k, .int .i64 p, .int .i64 nd, .int .i64 d, .int .i64 n] 116 (0, 0))
  bel : Below D w0 w
structure DK (D : Nat) (w w' : World) : Prop where
  size : w.heap.size ≤ w'.heap.size
  same : ∀ k, k < w.heap.size → k ≠ D → w'.heap[k]? = w.heap[k]?
section
variable {w0 w w' : World} {D : Nat} {S : Value} {k : Nat} {p nd d n : Int}
theorem Dec.lt (h : Dec w0 D S w k p nd d n) : D < w.heap.size := (Array.getElem?_eq_some_iff.1 h.blk).1
theorem Dec.all (h : Dec w0 D S w k p nd d n) (hb : Below w.heap.size w w') : Dec w0 D S w' k p nd d n :=
  ⟨(hb.block D h.lt).trans h.blk, h.bel.trans (hb.mono (Nat.le_of_lt h.lt))⟩
theorem Dec.cells (h : Dec w0 D S w k p nd d n) : w.cell? ⟨D, 0, none⟩ = some S ∧ w.cell? ⟨D, 1, none⟩ = some (.int .i64 k) ∧ w.cell? ⟨D, 2, none⟩ = some (.int .i64 p) ∧ w.cell? ⟨D, 3, none⟩ = some (.int .i64 nd) ∧ w.cell? ⟨D, 4, none⟩ = some (.int .i64 d) ∧ w.cell? ⟨D, 5, none⟩ = some (.int .i64 n) ∧ ∀ i, w.frozen? ⟨D, i, none⟩ = false :=
  ⟨Lib.cell_of_heap h.blk 0, Lib.cell_of_heap h.blk 1, Lib.cell_of_heap h.blk 2, Lib.cell_of_heap h.blk 3, Lib.cell_of_heap h.blk 4, Lib.cell_of_heap h.blk 5, fun i => Lib.frozen_of_heap h.blk i⟩
theorem Dec.set1 (h : Dec w0 D S w k p nd d n) (x : Nat) : Dec w0 D S (w.setCell ⟨D, 1, none⟩ (.int .i64 x)) x p nd d n :=
  ⟨heap_setCell_same w D 1 _ _ (.int .i64 x) h.blk, h.bel.setCell (p := ⟨D, 1, none⟩) (Nat.le_refl _) _⟩
theorem Dec.set2 (h : Dec w0 D S w k p nd d n) (x : Int) : Dec w0 D S (w.setCell ⟨D, 2, none⟩ (.int .i64 x)) k x nd d n :=
  ⟨heap_setCell_same w D 2 _ _ (.int .i64 x) h.blk, h.bel.setCell (p := ⟨D, 2, none⟩) (Nat.le_refl _) _⟩
theorem Dec.set3 (h : Dec w0 D S w k p nd d n) (x : Int) : Dec w0 D S (w.setCell ⟨D, 3, none⟩ (.int .i64 x)) k p x d n :=
  ⟨heap_setCell_same w D 3 _ _ (.int .i64 x) h.blk, h.bel.setCell (p := ⟨D, 3, none⟩) (Nat.le_refl _) _⟩
theorem Dec.set4 (h : Dec w0 D S w k p nd d n) (x : Int) : Dec w0 D S (w.setCell ⟨D, 4, none⟩ (.int .i64 x)) k p nd x n :=
  ⟨heap_setCell_same w D 4 _ _ (.int .i64 x) h.blk, h.bel.setCell (p := ⟨D, 4, none⟩) (Nat.le_refl _) _⟩
theorem Dec.set5 (h : Dec w0 D S w k p nd d n) (x : Int) : Dec w0 D S (w.setCell ⟨D, 5, none⟩ (.int .i64 x)) k p nd d x :=
  ⟨heap_setCell_same w D 5 _ _ (.int .i64 x) h.blk, h.bel.setCell (p := ⟨D, 5, none⟩) (Nat.le_refl _) _⟩
theorem DK.refl (D : Nat) (w : World) : DK D w w := ⟨Nat.le_refl _, fun _ _ _ => rfl⟩
theorem DK.of_below (h : Below w.heap.size w w') : DK D w w' := ⟨h.size, fun k hk _ => h.block k hk⟩
theorem DK.trans {w'' : World} (h : DK D w w') (h' : DK D w' w'') : DK D w w'' :=
  ⟨Nat.le_trans h.size h'.size, fun k hk hb => (h'.same k (Nat.lt_of_lt_of_le hk h.size) hb).trans (h.same k hk hb)⟩
theorem DK.set (h : DK D w w') (j : Nat) (u : Value) : DK D w (w'.setCell ⟨D, j, none⟩ u) :=
  ⟨by simpa using h.size, fun k hk hb => (heap_setCell_other w' ⟨D, j, none⟩ k u hb).trans (h.same k hk hb)⟩
theorem Dec.bytes {b : Str} {A : Option Addr} (h : Dec w0 D S w k p nd d n) (hD : w0.heap.size ≤ D) (H : BytesAt w0 A b) : BytesAt w A b := H.below (h.bel.mono hD)
end
def missE : List PanicEntry := [{ v := .iface 118 (.agg #[]), recovered := false }]
structure DH (w0 : World) (D : Nat) (b : Str) (A : Option Addr) (l cap : Nat) : Prop where
  hl : b.length = l
  hl2 : l ≤ 100000
  hD : w0.heap.size ≤ D
  H0 : BytesAt w0 A b
  hc : l ≤ cap
  hcm : cap ≤ maxLen
def DOk (w0 : World) (D : Nat) (S : Value) (w : World) (e : Ending) (w' : World) (v : Value) (k : Nat) (p nd d n : Int) : Prop := e = .returned v ∧ Dec w0 D S w' k p nd d n ∧ DK D w w'
def DMiss (w0 : World) (D : Nat) (S : Value) (w : World) (e : Ending) (w' : World) (l : Nat) (p nd : Int) : Prop := e = .panicked missE ∧ (∃ d n, Dec w0 D S w' l p nd d n) ∧ DK D w w'
theorem DH.byte {w0 : World} {D : Nat} {b : Str} {A : Option Addr} {l cap : Nat} (H : DH w0 D b A l cap) {k : Nat} (hk : k < l) {w : World} (h : Below D w0 w) : ∃ g off, A = some ⟨g, off, none⟩ ∧ w.cell? ⟨g, off + k, none⟩ = some (.int .u8 ((b.getD k 0).toNat : Int)) := by
  have hkb : k < b.length := by have := H.hl; omega
  obtain ⟨g, off, h1, h2⟩ := (H.H0.below (h.mono H.hD)).cellAt hkb
  refine ⟨g, off, h1, ?_⟩
  rw [h2, List.getD_eq_getElem?_getD, List.getElem?_eq_getElem hkb]
  rfl
theorem next_any {w0 : World} {D : Nat} {b : Str} {A : Option Addr} {l cap : Nat} (H : DH w0 D b A l cap) {w : World} {k : Nat} (hk : k ≤ l) {p nd d n : Int} (X : Dec w0 D (.slice A l cap) w k p nd d n) :
    Calls Tryz.prog 95 #[.pointer (some ⟨D, 0, none⟩)] w fun e w' =>
      (k < l ∧ DOk w0 D (.slice A l cap) w e w' (.int .u8 ((b.getD k 0).toNat : Int)) (k + 1) p nd d n) ∨ (k = l ∧ DMiss w0 D (.slice A l cap) w e w' l p nd) := by
  have hl2 := H.hl2
  have dq := fun q => below_drewN w w.heap.size q
  obtain ⟨e0, e1, e2, e3, e4, e5, e6⟩ := X.cells
  by_cases h : k < l
  · have HB := Lib.hid (fun w2 (h2 : Below D w0 w2) => H.byte h h2)
    obtain ⟨x, hx⟩ : ∃ z, b.getD k 0 = z := ⟨_, rfl⟩
    rw [hx] at HB ⊢
    have X2 : Hid (∀ q, Dec w0 D (.slice A l cap) ((w.drewN q).setCell ⟨D, 1, none⟩ (.int .i64 ((k : Int) + 1))) (k + 1) p nd d n) := fun q => (X.all (dq q)).set1 (k + 1)
    have K2 : Hid (∀ q, DK D w ((w.drewN q).setCell ⟨D, 1, none⟩ (.int .i64 ((k : Int) + 1)))) := fun q => (DK.of_below (dq q)).set 1 _
    have hkn : ((k : Int) == (l : Int)) = false := beq_eq_false_iff_ne.2 (by omega)
    clear H X dq hx
    go_enter Tryz.func95, Tryz.ntmps95
    go_wp2
    go_quiet (fail)
    go_upto_region 4 with fail
    have X3 := X2.out nq
    have K3 := Lib.hid (K2.out nq)
    obtain ⟨w2, hw2⟩ : ∃ z, (w.drewN nq).setCell ⟨D, 1, none⟩ (.int .i64 ((k : Int) + 1)) = z := ⟨_, rfl⟩
    rw [hw2] at X3 K3 ⊢
    clear e0 e1 e2 e3 e4 e5 e6 X2 K2 hw2
    obtain ⟨g, off, eA, kb⟩ := HB.out w2 X3.bel
    obtain ⟨e0, e1, e2, e3, e4, e5, e6⟩ := X3.cells
    have X3 := Lib.hid X3
    have dq := Lib.hid (fun q => below_drewN w2 w2.heap.size q)
    subst eA
    go_wp2
    go_quiet (fail)
    go_wp2
    go_ret
    exact .inl ⟨h, rfl, X3.out.all (dq.out _), K3.out.trans (DK.of_below (dq.out _))⟩
  · obtain rfl : k = l := by omega
    have X2 : Hid (∀ q, Dec w0 D (.slice A k cap) (w.drewN q) k p nd d n) := fun q => X.all (dq q)
    have K2 : Hid (∀ q, DK D w (w.drewN q)) := fun q => DK.of_below (dq q)
    have hkn : ((k : Int) == (k : Int)) = true := beq_iff_eq.2 rfl
    clear H X dq h
    go_enter Tryz.func95, Tryz.ntmps95
    go_wp2
    go_quiet (fail)
    go_wp2
    exact ⟨rfl, .inr ⟨trivial, rfl, ⟨d, n, X2.out _⟩, K2.out _⟩⟩
theorem dsigned_any {w0 : World} {D : Nat} {b : Str} {A : Option Addr} {l cap : Nat} (H : DH w0 D b A l cap) {w : World} {k : Nat} (hk : k ≤ l) {p nd d n : Int} (X : Dec w0 D (.slice A l cap) w k p nd d n) :
    Calls Tryz.prog 94 #[.pointer (some ⟨D, 0, none⟩)] w fun e w' =>
      (k < l ∧ DOk w0 D (.slice A l cap) w e w' (.int .i64 (sgB (b.getD k 0))) (k + 1) p nd d n) ∨ (k = l ∧ DMiss w0 D (.slice A l cap) w e w' l p nd) := by
  have N := next_any H hk X
  have hx := (b.getD k 0).toNat_lt
  have SG := Lib.hid (fun w => signed_any ((b.getD k 0).toNat : Int) (by omega) (by omega) w)
  clear H X hx
  go_enter Tryz.func94, Tryz.ntmps94
  go_wp2_with fail
  refine N.mono ?_
  rintro e w' (⟨h, rfl, h1, h2⟩ | ⟨h, rfl, h1, h2⟩)
  · have h1 := Lib.hid h1
    have h2 := Lib.hid h2
    clear N
    go_wp2_with fail
    refine (SG.out _).mono ?_
    rintro e w2 ⟨rfl, hw⟩
    clear SG
    go_wp2
    go_ret
    first | subst hw | (rw [← hw]) | skip
    exact .inl ⟨h, rfl, h1.out, h2.out⟩
  · clear N SG
    exact ⟨rfl, .inr ⟨h, rfl, h1, h2⟩⟩
theorem word_any {w0 : World} {D : Nat} {b : Str} {A : Option Addr} {l cap : Nat} (H : DH w0 D b A l cap) {w : World} {k : Nat} (hk : k ≤ l) {p nd d n : Int} (X : Dec w0 D (.slice A l cap) w k p nd d n) :
    Calls Tryz.prog 108 #[.pointer (some ⟨D, 0, none⟩)] w fun e w' =>
      (k + 1 < l ∧ DOk w0 D (.slice A l cap) w e w' (.int .i64 (((b.getD k 0).toNat : Int) + 256 * ((b.getD (k + 1) 0).toNat : Int))) (k + 2) p nd d n) ∨ (l ≤ k + 1 ∧ DMiss w0 D (.slice A l cap) w e w' l p nd) := by
  have N := next_any H hk X
  have HH := Lib.hid (fun w1 (hk1 : k + 1 ≤ l) (h1 : Dec w0 D (.slice A l cap) w1 (k + 1) p nd d n) => next_any H hk1 h1)
  have hx := (b.getD k 0).toNat_lt
  have hy := (b.getD (k + 1) 0).toNat_lt
  obtain ⟨x, hxx⟩ : ∃ z, (b.getD k 0).toNat = z := ⟨_, rfl⟩
  obtain ⟨y, hyy⟩ : ∃ z, (b.getD (k + 1) 0).toNat = z := ⟨_, rfl⟩
  rw [hxx] at N hx ⊢
  rw [hyy] at HH hy ⊢
  clear H X hxx hyy
  go_enter Tryz.func108, Tryz.ntmps108
  go_wp2_with fail
  refine N.mono ?_
  rintro e w1 (⟨h, rfl, h1, h2⟩ | ⟨h, rfl, h1, h2⟩)
  · have N1 := HH.out w1 (by omega) h1
    have h2 := Lib.hid h2
    clear N h1 HH
    go_wp2_with fail
    refine N1.mono ?_
    rintro e w2 (⟨g, rfl, g1, g2⟩ | ⟨g, rfl, g1, g2⟩)
    · have g1 := Lib.hid g1
      have g2 := Lib.hid (h2.out.trans g2)
      clear N1 h2
      go_wp2
      go_ret
      exact .inl ⟨g, rfl, g1.out, g2.out⟩
    · clear N1
      exact ⟨rfl, .inr ⟨by omega, rfl, g1, h2.out.trans g2⟩⟩
  · clear N HH
    exact ⟨rfl, .inr ⟨by omega, rfl, h1, h2⟩⟩
theorem keep_any {w0 : World} {D : Nat} {b : Str} {A : Option Addr} {l cap : Nat} (H : DH w0 D b A l cap) {w : World} {k : Nat} (hk : k ≤ l) {p nd d n : Int} (X : Dec w0 D (.slice A l cap) w k p nd d n) :
    Calls Tryz.prog 88 #[.pointer (some ⟨D, 0, none⟩)] w fun e w' => DOk w0 D (.slice A l cap) w e w' (.tuple #[]) 1 p nd d n := by
  obtain ⟨e0, e1, e2, e3, e4, e5, e6⟩ := X.cells
  have X1 := Lib.hid (X.set1 1)
  have K1 := Lib.hid ((DK.refl D w).set 1 (.int .i64 ((1 : Nat) : Int)))
  clear H X
  go_enter Tryz.func88, Tryz.ntmps88
  go_wp2
  go_end0
  exact ⟨rfl, X1.out, K1.out⟩
theorem isDisp_any {w0 : World} {D : Nat} {b : Str} {A : Option Addr} {l cap : Nat} (H : DH w0 D b A l cap) {w : World} {k : Nat} (hk : k ≤ l) {p nd d n : Int} (X : Dec w0 D (.slice A l cap) w k p nd d n) :
    Calls Tryz.prog 93 #[.pointer (some ⟨D, 0, none⟩)] w fun e w' => DOk w0 D (.slice A l cap) w e w' (.bool (decide (p = 5 ∨ p = 6))) k p nd d n := by
  obtain ⟨e0, e1, e2, e3, e4, e5, e6⟩ := X.cells
  have X1 := Lib.hid X
  clear H X
  by_cases h5 : p = 5
  · subst h5
    have h := Lib.hid (show decide ((5 : Int) = 5 ∨ (5 : Int) = 6) = true from rfl)
    go_enter Tryz.func93, Tryz.ntmps93
    go_wp2
    go_ret
    exact ⟨rfl, X1.out, DK.refl _ _⟩
  · have t5 : (p == 5) = false := beq_eq_false_iff_ne.2 h5
    have h := Lib.hid (show decide (p = 5 ∨ p = 6) = (p == 6) from by
      by_cases h6 : p = 6
      · subst h6; rfl
      · rw [decide_eq_false (by omega), beq_eq_false_iff_ne.2 h6])
    obtain ⟨t, ht⟩ : ∃ t, (p == 6) = t := ⟨_, rfl⟩
    rw [ht] at h
    clear h5
    go_enter Tryz.func93, Tryz.ntmps93
    go_wp2
    go_ret
    exact ⟨by rw [h.out]; rfl, X1.out, DK.refl _ _⟩
end Go.Proofs.YtmnleknehjkmgaaGreat
namespace Go.Proofs.YtmnleknehjkmgaaGreat
open Go.RowKit Go.Shelf
attribute [local go_sem] Oper.semAt_some
theorem bclone_any (A : Option Addr) (cap l : Nat) (xs : Str) (hl : xs.length = l) (hl2 : l ≤ 100000) (w : World) (hx : BytesAt w A xs) :
    Calls Tryz.prog 83 #[.slice A l cap] w fun e w' => ∃ A' c', e = .returned (.slice A' l c') ∧ TOwnB w' w.heap.size (.slice A' l c') xs ∧ Below w.heap.size w w' := by
  cases A with
  | none =>
    obtain rfl : xs = [] := by
      rcases hx with h | ⟨b, off, h, _⟩
      · exact h
      · cases h
    obtain rfl : l = 0 := hl.symm
    clear hx hl
    have hnil := fun w => Lib.run_eql_slice_nil (P := Tryz.prog) w 22 5 none 0 cap 0 0 Tryz.underlying22
    go_enter Tryz.func83, Tryz.ntmps83
    go_wp2
    go_ret
    exact ⟨none, 0, rfl, townB_nil _ _, Below.refl _ _⟩
  | some a =>
    have O1 := Lib.hid (own_lit w [] (by decide))
    have hb : Below w.heap.size w (w.alloc (.cells #[] 5)) := (Below.refl _ w).alloc (Nat.le_refl _) _
    have P1 := Lib.hid (hx.below hb)
    have B1 := Lib.hid hb
    have HL := Lib.hid hl
    clear hx hb hl
    go_enter Tryz.func83, Tryz.ntmps83
    have hnil := fun w => Lib.run_eql_slice_nil (P := Tryz.prog) w 22 5 (some a) l cap 0 0 Tryz.underlying22
    go_wp2_with (at_builtin; refine wpList_appBs (xs := []) (ys := xs) O1.out P1.out B1.out.size (by rw [HL.out]; simp; omega) rfl _ _ rfl rfl rfl l HL.out rfl l (by simp) ?_; intro A2 c2 w2 h1 h2; have O2 := Lib.hid h1; have B2 := Lib.hid h2; clear h1 h2)
    go_ret
    exact ⟨A2, c2, rfl, O2.out, B1.out.trans B2.out⟩
theorem taken_any {w0 : World} {D : Nat} {b : Str} {A : Option Addr} {l cap : Nat} (H : DH w0 D b A l cap) {w : World} {k : Nat} (hk : k ≤ l) {p nd d n : Int} (X : Dec w0 D (.slice A l cap) w k p nd d n) :
    Calls Tryz.prog 79 #[.pointer (some ⟨D, 0, none⟩)] w fun e w' => ∃ A' c', e = .returned (.slice A' k c') ∧ TOwnB w' w.heap.size (.slice A' k c') (b.take k) ∧ Below w.heap.size w w' := by
  obtain ⟨e0, e1, e2, e3, e4, e5, e6⟩ := X.cells
  have hl2 := H.hl2
  have hkc : ¬ cap < k := by have := H.hc; omega
  have hcm := H.hcm
  have LT : Hid ((b.take k).length = k) := by show _ = _; rw [List.length_take, H.hl]; omega
  obtain ⟨w1, hw1⟩ : ∃ z, w.drew = z := ⟨_, rfl⟩
  have dq : Below w.heap.size w w1 := by rw [← hw1]; exact below_drewN w _ 1
  have zq : w1.heap.size = w.heap.size := by rw [← hw1]; rfl
  have CL := Lib.hid (bclone_any A cap k (b.take k) LT.out (by omega) w1 (take_at ((X.bytes H.hD H.H0).below dq) k))
  have DQ := Lib.hid dq
  have ZQ := Lib.hid zq
  unfold maxLen at hcm
  clear H X dq zq
  go_enter Tryz.func79, Tryz.ntmps79
  go_wp2
  refine Mixed.wp_region_mixed (fun w' => w'.cell? ⟨D, 0, none⟩ = some (.slice A l cap) ∧ w'.cell? ⟨D, 1, none⟩ = some (.int .i64 (k : Int))) 9 [(0, true), (1, true), (2, true), (3, true), (4, true), (5, true), (6, true), (7, true), (8, true)] (by kernel_rfl) (by kernel_rfl) ⟨e0, e1⟩ ?_
  clear e0 e1 e2 e3 e4 e5 e6
  refine Mixed.mp rfl (.pointer (some ⟨D, 0, none⟩)) ?_
  refine Mixed.mp rfl (.pointer (some ⟨D, 0, none⟩)) ?_
  refine Mixed.mp rfl (.pointer (some ⟨D, 0, none⟩)) ?_
  refine Mixed.mo rfl (.slice A l cap) (fun w h => by obtain ⟨h1, h2⟩ := h; go_simp; try rfl) ?_
  refine Mixed.mp rfl (.pointer (some ⟨D, 0, none⟩)) ?_
  refine Mixed.mp rfl (.pointer (some ⟨D, 0, none⟩)) ?_
  refine Mixed.mp rfl (.pointer (some ⟨D, 1, none⟩)) ?_
  refine Mixed.mo rfl (.int .i64 (k : Int)) (fun w h => by obtain ⟨h1, h2⟩ := h; go_simp; try rfl) ?_
  refine Mixed.mo rfl (.slice A k cap) (fun w h => by clear h; go_simp; try rfl) ?_
  simp only [Mixed.wpMix, List.drop_succ_cons, List.drop_zero]
  rw [hw1]
  clear hw1
  go_wp2_with fail
  refine CL.out.mono ?_
  rintro e w2 ⟨A2, c2, rfl, hO, hb⟩
  rw [ZQ.out] at hO hb
  have O2 := Lib.hid hO
  have B2 := Lib.hid (DQ.out.trans hb)
  clear hO hb CL DQ
  go_wp2
  go_ret
  exact ⟨A2, c2, rfl, O2.out, B2.out⟩
theorem take_any {w0 : World} {D : Nat} {b : Str} {A : Option Addr} {l cap : Nat} (H : DH w0 D b A l cap) {w : World} {k : Nat} (hk : k ≤ l) {p nd d n : Int} (X : Dec w0 D (.slice A l cap) w k p nd d n) {c : UInt8} (hc : c = 100 ∨ c = 101 ∨ c = 110 ∨ c = 119) :
    Calls Tryz.prog 98 #[.pointer (some ⟨D, 0, none⟩), .int .i32 (c.toNat : Int)] w fun e w' =>
      (k + letN c ≤ l ∧ DOk w0 D (.slice A l cap) w e w' (.tuple #[]) (k + letN c) p nd (stepL c (b.drop k) (d, n)).1 (stepL c (b.drop k) (d, n)).2) ∨ (l < k + letN c ∧ DMiss w0 D (.slice A l cap) w e w' l p nd) := by
  have t0 : (b.drop k).getD 0 0 = b.getD k 0 := by rw [getD_drop]; rfl
  have t1 : (b.drop k).getD 1 0 = b.getD (k + 1) 0 := by rw [getD_drop]
  have hx := (b.getD k 0).toNat_lt
  have NX := Lib.hid (next_any H hk X)
  have SG := Lib.hid (dsigned_any H hk X)
  have WD := Lib.hid (word_any H hk X)
  clear H X
  rcases hc with rfl | rfl | rfl | rfl
  · have ST : stepL 100 (b.drop k) (d, n) = (sgB (b.getD k 0), n) := by unfold stepL; rw [if_pos rfl, t0]
    rw [ST, show letN 100 = 1 from rfl]
    obtain ⟨z, hz⟩ : ∃ z, sgB (b.getD k 0) = z := ⟨_, rfl⟩
    simp only [hz] at SG ⊢
    rw [show (((100 : UInt8).toNat : Nat) : Int) = 100 from rfl]
    clear ST hz t0 t1 NX WD
    go_enter Tryz.func98, Tryz.ntmps98
    go_wp2_with fail
    refine SG.out.mono ?_
    rintro e w1 (⟨h, rfl, h1, h2⟩ | ⟨h, rfl, h1, h2⟩)
    · obtain ⟨e0, e1, e2, e3, e4, e5, e6⟩ := h1.cells
      have X1 := Lib.hid (h1.set4 z)
      have K1 := Lib.hid (h2.set 4 (.int .i64 z))
      clear h1 h2 SG
      go_wp2
      go_end0
      exact .inl ⟨by omega, rfl, X1.out, K1.out⟩
    · clear SG
      exact ⟨rfl, .inr ⟨by omega, rfl, h1, h2⟩⟩
  · have ST : stepL 101 (b.drop k) (d, n) = (d, sgB (b.getD k 0)) := by unfold stepL; rw [if_neg (by decide), if_pos rfl, t0]
    rw [ST, show letN 101 = 1 from rfl]
    obtain ⟨z, hz⟩ : ∃ z, sgB (b.getD k 0) = z := ⟨_, rfl⟩
    simp only [hz] at SG ⊢
    rw [show (((101 : UInt8).toNat : Nat) : Int) = 101 from rfl]
    clear ST hz t0 t1 NX WD
    go_enter Tryz.func98, Tryz.ntmps98
    go_wp2_with fail
    refine SG.out.mono ?_
    rintro e w1 (⟨h, rfl, h1, h2⟩ | ⟨h, rfl, h1, h2⟩)
    · obtain ⟨e0, e1, e2, e3, e4, e5, e6⟩ := h1.cells
      have X1 := Lib.hid (h1.set5 z)
      have K1 := Lib.hid (h2.set 5 (.int .i64 z))
      clear h1 h2 SG
      go_wp2
      go_end0
      exact .inl ⟨by omega, rfl, X1.out, K1.out⟩
    · clear SG
      exact ⟨rfl, .inr ⟨by omega, rfl, h1, h2⟩⟩
  · have ST : stepL 110 (b.drop k) (d, n) = (d, ((b.getD k 0).toNat : Int)) := by unfold stepL; rw [if_neg (by decide), if_neg (by decide), if_pos rfl, t0]
    rw [ST, show letN 110 = 1 from rfl]
    obtain ⟨z, hz⟩ : ∃ z, (b.getD k 0).toNat = z := ⟨_, rfl⟩
    rw [hz] at NX hx ⊢
    rw [show (((110 : UInt8).toNat : Nat) : Int) = 110 from rfl]
    clear ST hz t0 t1 SG WD
    go_enter Tryz.func98, Tryz.ntmps98
    go_wp2_with fail
    refine NX.out.mono ?_
    rintro e w1 (⟨h, rfl, h1, h2⟩ | ⟨h, rfl, h1, h2⟩)
    · obtain ⟨e0, e1, e2, e3, e4, e5, e6⟩ := h1.cells
      have X1 := Lib.hid (h1.set5 (z : Int))
      have K1 := Lib.hid (h2.set 5 (.int .i64 (z : Int)))
      clear h1 h2 NX
      go_wp2
      go_end0
      exact .inl ⟨by omega, rfl, X1.out, K1.out⟩
    · clear NX
      exact ⟨rfl, .inr ⟨by omega, rfl, h1, h2⟩⟩
  · have ST : stepL 119 (b.drop k) (d, n) = (d, ((b.getD k 0).toNat : Int) + 256 * ((b.getD (k + 1) 0).toNat : Int)) := by unfold stepL; rw [if_neg (by decide), if_neg (by decide), if_neg (by decide), if_pos rfl, t0, t1]
    rw [ST, show letN 119 = 2 from rfl]
    obtain ⟨z, hz⟩ : ∃ z, ((b.getD k 0).toNat : Int) + 256 * ((b.getD (k + 1) 0).toNat : Int) = z := ⟨_, rfl⟩
    simp only [hz] at WD ⊢
    rw [show (((119 : UInt8).toNat : Nat) : Int) = 119 from rfl]
    clear ST hz t0 t1 SG NX
    go_enter Tryz.func98, Tryz.ntmps98
    go_wp2_with fail
    refine WD.out.mono ?_
    rintro e w1 (⟨h, rfl, h1, h2⟩ | ⟨h, rfl, h1, h2⟩)
    · obtain ⟨e0, e1, e2, e3, e4, e5, e6⟩ := h1.cells
      have X1 := Lib.hid (h1.set5 z)
      have K1 := Lib.hid (h2.set 5 (.int .i64 z))
      clear h1 h2 WD
      go_wp2
      go_end0
      exact .inl ⟨by omega, rfl, X1.out, K1.out⟩
    · clear WD
      exact ⟨rfl, .inr ⟨by omega, rfl, h1, h2⟩⟩
theorem opcode4_any {w0 : World} {D : Nat} {b : Str} {A : Option Addr} {l cap : Nat} (H : DH w0 D b A l cap) {w : World} {k : Nat} (hk : k ≤ l) {p nd d n : Int} (X : Dec w0 D (.slice A l cap) w k p nd d n) (hp : ¬ (p = 5 ∨ p = 6)) :
    Calls Tryz.prog 85 #[.pointer (some ⟨D, 0, none⟩)] w fun e w' =>
      (k < l ∧ DOk w0 D (.slice A l cap) w e w' (.int .u8 ((b.getD k 0).toNat : Int)) (k + 1) p ((k : Int) + 1) d n) ∨ (k = l ∧ DMiss w0 D (.slice A l cap) w e w' l p ((k : Int) + 1)) := by
  have hl2 := H.hl2
  obtain ⟨e0, e1, e2, e3, e4, e5, e6⟩ := X.cells
  have X1 := X.set3 ((k : Int) + 1)
  have K1 := (DK.refl D w).set 3 (.int .i64 ((k : Int) + 1))
  have DI := isDisp_any H hk X1
  rw [decide_eq_false hp] at DI
  have NX := Lib.hid (fun w1 h => next_any H hk (w := w1) (p := p) (nd := (k : Int) + 1) (d := d) (n := n) h)
  obtain ⟨x, hx⟩ : ∃ z, (b.getD k 0).toNat = z := ⟨_, rfl⟩
  rw [hx] at NX ⊢
  have K1 := Lib.hid K1
  clear H X X1 hx hp
  go_enter Tryz.func85, Tryz.ntmps85
  go_wp2_with fail
  refine DI.mono ?_
  rintro e w1 ⟨rfl, h1, h2⟩
  have NX1 := NX.out w1 h1
  have K2 := Lib.hid (K1.out.trans h2)
  clear DI h1 h2 K1 NX e0 e1 e2 e3 e4 e5 e6
  go_wp2_with fail
  refine NX1.mono ?_
  rintro e w2 (⟨h, rfl, h1, h2⟩ | ⟨h, rfl, h1, h2⟩)
  · have h1 := Lib.hid h1
    have h2 := Lib.hid (K2.out.trans h2)
    clear NX1 K2
    go_wp2
    go_ret
    exact .inl ⟨h, rfl, h1.out, h2.out⟩
  · clear NX1
    exact ⟨rfl, .inr ⟨h, rfl, h1, K2.out.trans h2⟩⟩
theorem opcode5_any {w0 : World} {D : Nat} {b : Str} {A : Option Addr} {l cap : Nat} (H : DH w0 D b A l cap) {w : World} {k : Nat} (hk : k ≤ l) {p nd d n : Int} (X : Dec w0 D (.slice A l cap) w k p nd d n) (hp : p = 5 ∨ p = 6) :
    Calls Tryz.prog 85 #[.pointer (some ⟨D, 0, none⟩)] w fun e w' =>
      (k + 1 < l ∧ DOk w0 D (.slice A l cap) w e w' (.int .u8 ((b.getD (k + 1) 0).toNat : Int)) (k + 2) p ((k : Int) + 2) (sgB (b.getD k 0)) n) ∨ (l ≤ k + 1 ∧ DMiss w0 D (.slice A l cap) w e w' l p ((k : Int) + 2)) := by
  have hl2 := H.hl2
  obtain ⟨e0, e1, e2, e3, e4, e5, e6⟩ := X.cells
  have X1 := X.set3 ((k : Int) + 1)
  have K1 := (DK.refl D w).set 3 (.int .i64 ((k : Int) + 1))
  have DI := isDisp_any H hk X1
  rw [decide_eq_true hp] at DI
  have SG := Lib.hid (fun w1 h => dsigned_any H hk (w := w1) (p := p) (nd := (k : Int) + 2) (d := d) (n := n) h)
  obtain ⟨y, hy⟩ : ∃ z, sgB (b.getD k 0) = z := ⟨_, rfl⟩
  rw [hy] at SG ⊢
  have NX := Lib.hid (fun w1 (h1 : k + 1 ≤ l) h => next_any H h1 (w := w1) (p := p) (nd := (k : Int) + 2) (d := y) (n := n) h)
  obtain ⟨x, hx⟩ : ∃ z, (b.getD (k + 1) 0).toNat = z := ⟨_, rfl⟩
  rw [hx] at NX ⊢
  have K1 := Lib.hid K1
  clear H X X1 hx hp hy
  go_enter Tryz.func85, Tryz.ntmps85
  go_wp2_with fail
  refine DI.mono ?_
  rintro e w1 ⟨rfl, h1, h2⟩
  obtain ⟨f0, f1, f2, f3, f4, f5, f6⟩ := h1.cells
  have SG1 := SG.out _ (show Dec w0 D (.slice A l cap) (w1.setCell ⟨D, 3, none⟩ (.int .i64 ((k : Int) + 2))) k p ((k : Int) + 2) d n from h1.set3 ((k : Int) + 2))
  have K2 := Lib.hid ((K1.out.trans h2).set 3 (.int .i64 ((k : Int) + 2)))
  clear DI h1 h2 K1 SG e0 e1 e2 e3 e4 e5 e6
  go_wp2_with fail
  refine SG1.mono ?_
  rintro e w2 (⟨h, rfl, h1, h2⟩ | ⟨h, rfl, h1, h2⟩)
  · obtain ⟨e0, e1, e2, e3, e4, e5, e6⟩ := h1.cells
    have NX1 := NX.out _ h (show Dec w0 D (.slice A l cap) (w2.setCell ⟨D, 4, none⟩ (.int .i64 y)) (k + 1) p ((k : Int) + 2) y n from h1.set4 y)
    have K3 := Lib.hid ((K2.out.trans h2).set 4 (.int .i64 y))
    clear SG1 h1 h2 K2 NX f0 f1 f2 f3 f4 f5 f6
    go_wp2_with fail
    refine NX1.mono ?_
    rintro e w3 (⟨g, rfl, g1, g2⟩ | ⟨g, rfl, g1, g2⟩)
    · have g1 := Lib.hid g1
      have g2 := Lib.hid (K3.out.trans g2)
      clear NX1 K3
      go_wp2
      go_ret
      exact .inl ⟨g, rfl, g1.out, g2.out⟩
    · clear NX1
      exact ⟨rfl, .inr ⟨by omega, rfl, g1, K3.out.trans g2⟩⟩
  · clear SG1 NX
    exact ⟨rfl, .inr ⟨by omega, rfl, h1, K2.out.trans h2⟩⟩
theorem newDec_any (b : Str) (A : Option Addr) (l cap : Nat) (w : World) :
    Calls Tryz.prog 64 #[.slice A l cap] w fun e w' => e = .returned (.pointer (some ⟨w.heap.size, 0, none⟩)) ∧ Dec w w.heap.size (.slice A l cap) w' 0 0 0 0 0 ∧ Below w.heap.size w w' := by
  have X : Hid (Dec w w.heap.size (.slice A l cap) (w.alloc (.cells #[.slice A l cap, .int .i64 0, .int .i64 0, .int .i64 0, .int .i64 0, .int .i64 0] 116)) 0 0 0 0 0) := ⟨World.alloc_heap_new w _, (Below.refl _ w).alloc (Nat.le_refl _) _⟩
  go_enter Tryz.func64, Tryz.ntmps64
  go_wp2
  go_ret
  exact ⟨rfl, X.out, X.out.bel⟩
end Go.Proofs.YtmnleknehjkmgaaGreat
namespace Go.Proofs.YtmnleknehjkmgaaGreat
open Go.RowKit Go.Shelf
attribute [local go_sem] Oper.semAt_some
theorem trimD_sl (w : World) : Calls Tryz.prog 107 #[.string ⟨#[100]⟩, .string ⟨#[100]⟩] w fun e w' => e = .returned (.string ⟨#[]⟩) ∧ w' = w := by
  have hp := fun w => hasPrefix_any ⟨#[100]⟩ ⟨#[100]⟩ (by decide) (by decide) w
  rw [show preB (⟨#[100]⟩ : ByteArray) ⟨#[100]⟩ = true from by decide +kernel] at hp
  go_enter Tryz.func107, Tryz.ntmps107
  go_wp2_with fail
  refine (hp w).mono ?_
  rintro e w' ⟨rfl, rfl⟩
  clear hp
  go_wp2
  go_ret
  exact ⟨rfl, rfl⟩
theorem trimD_any (w : World) : Calls Tryz.prog 97 #[.string ⟨#[100]⟩, .string ⟨#[100]⟩] w fun e w' => e = .returned (.string ⟨#[]⟩) ∧ w' = w := by
  go_enter Tryz.func97, Tryz.ntmps97
  go_wp2_with fail
  refine (trimD_sl w).mono ?_
  rintro e w' ⟨rfl, rfl⟩
  go_wp2
  go_ret
  exact ⟨rfl, rfl⟩
def behS (page : Int) (ex : Str) : Str := if 5 ≤ page then [] else ex
theorem next_at {w : World} {it : Nat} {s2 : Str} {j : Nat} (hk : w.heap[it]? = some (.stringIter (sB s2) j)) (hj : j < s2.length) (c : Nat) (hc : s2[j].toNat = c) (h : c < 128) :
    ∀ ty, (Instr.next (.pointer (some ⟨it, 0, none⟩)) true ty).run Tryz.prog w = .ok (.tuple #[.bool true, .int .i64 j, .int .i32 (c : Int)]) (w.iterAt it (sB s2) (j + 1)) := fun ty => by
  have hz : j < (sB s2).size := by rw [sB_size]; exact hj
  have e : (sB s2)[j] = s2[j] := sB_at s2 j hz hj
  have hc2 : ((sB s2)[j]).toNat = c := (congrArg UInt8.toNat e).trans hc
  rw [Lib.run_next_ascii_at w it (sB s2) j ty hk hz (by rw [hc2]; exact h), hc2]
end Go.Proofs.YtmnleknehjkmgaaGreat
