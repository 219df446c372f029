/-
  Plain facts on the lines of the assembler: the texts of tokens are read as these tokens again.
-/
import Derived.Test.YtcmcikcagpkocaaDoorLxB
namespace Go.Proofs.YtcmcikcagpkocaaDoor
set_option linter.unusedVariables false

/-! ### Numbers and their texts -/
theorem fold_bd (base : Int) (hb : 0 ≤ base) (l : List UInt8) : ∀ (n x : Int), 0 ≤ n → n ≤ 65535 → l.foldl (rdStep base) (some n) = some x → 0 ≤ x ∧ x ≤ 65535 := by
  induction l with
  | nil => intro n x h0 h1 h; simp at h; subst h; exact ⟨h0, h1⟩
  | cons c l ih =>
    intro n x h0 h1 h
    rw [List.foldl_cons] at h
    by_cases hv : hexV (c.toNat : Int) < 0 ∨ base ≤ hexV (c.toNat : Int)
    · have e : rdStep base (some n) c = none := by unfold rdStep; simp only [Option.bind_some]; rw [if_pos hv]
      rw [e, rdL_none] at h
      cases h
    · by_cases hle : n * base + hexV (c.toNat : Int) ≤ 65535
      · have e : rdStep base (some n) c = some (n * base + hexV (c.toNat : Int)) := by unfold rdStep; simp only [Option.bind_some]; rw [if_neg hv, if_pos hle]
        rw [e] at h
        have hm : 0 ≤ n * base := Int.mul_nonneg h0 hb
        exact ih _ x (by omega) hle h
      · have e : rdStep base (some n) c = none := by unfold rdStep; simp only [Option.bind_some]; rw [if_neg hv, if_neg hle]
        rw [e, rdL_none] at h
        cases h
theorem step_lt (base n x : Int) (c : UInt8) (h : rdStep base (some n) c = some x) : x = n * base + hexV (c.toNat : Int) ∧ hexV (c.toNat : Int) < base := by
  unfold rdStep at h
  simp only [Option.bind_some] at h
  split at h
  · cases h
  · split at h
    · cases h; exact ⟨rfl, by omega⟩
    · cases h
theorem two_bd (base : Int) (hb : base = 2 ∨ base = 10 ∨ base = 16) (l : List UInt8) (hl : l.length ≤ 2) (x : Int) (h : rdL base l = some x) : x ≤ 255 := by
  match l, hl with
  | [], _ => cases h; decide
  | [a], _ =>
    have := step_lt base 0 x a h
    rcases hb with rfl | rfl | rfl <;> omega
  | [a, b], _ =>
    have h' : rdStep base (rdStep base (some 0) a) b = some x := h
    cases hy : rdStep base (some 0) a with
    | none => rw [hy] at h'; cases h'
    | some y =>
      rw [hy] at h'
      have h1 := step_lt base 0 y a hy
      have h2 := step_lt base y x b h'
      rcases hb with rfl | rfl | rfl <;> omega
theorem first_att (u : ByteArray) (x : Int) : ∀ m, firstO u m = some x → ∃ k, attO k u = some x := by
  intro m
  induction m with
  | zero => intro h; cases h
  | succ m ih =>
    intro h
    rw [firstO] at h
    cases hm : firstO u m with
    | some y => rw [hm] at h; exact ih (by rw [hm]; exact h)
    | none => rw [hm] at h; exact ⟨m, h⟩
theorem par_bd (s : ByteArray) (x : Int) (h : parO s = some x) : 0 ≤ x ∧ x ≤ 65535 ∧ (s.size ≤ 2 → x ≤ 255) := by
  obtain ⟨k, hk⟩ := first_att (upB s) x 6 h
  unfold attO at hk
  split at hk
  · unfold rdO at hk
    split at hk
    · cases hk
    · have hb : baseW k = 2 ∨ baseW k = 10 ∨ baseW k = 16 := by unfold baseW; split <;> simp
      have h1 := fold_bd (baseW k) (by omega) _ 0 x (by omega) (by omega) hk
      refine ⟨h1.1, h1.2, fun hs => two_bd _ hb _ ?_ x hk⟩
      have := cutW_size k (upB s)
      rw [upB_size] at this
      have e : (cutW k (upB s)).data.toList.length = (cutW k (upB s)).size := by simp
      omega
  · cases hk
theorem par_one : ∀ n : Fin 256, (match parO (sOf [UInt8.ofNat n.val]) with | some x => decide (x ≤ 9) | none => true) = true := by decide +kernel
theorem par_bd1 (c : UInt8) (x : Int) (h : parO (sOf [c]) = some x) : x ≤ 9 := by
  have := par_one ⟨c.toNat, c.toNat_lt⟩
  simp only [UInt8.ofNat_toNat, h] at this
  simpa using this
theorem hexU_wrd : ∀ x : Fin 16, wrdU (hexU (x.val : Int)) = true ∧ (decB ((hexU (x.val : Int)).toNat : Int) = true → dgtU (hexU (x.val : Int)) = true) := by decide +kernel
theorem hexU_w (n : Int) (i : Nat) : wrdU (hexU (digI n i)) = true ∧ (decB ((hexU (digI n i)).toNat : Int) = true → dgtU (hexU (digI n i)) = true) := by
  have b := digI_bd n i
  have h := hexU_wrd ⟨(digI n i).toNat, by omega⟩
  have e : (((digI n i).toNat : Nat) : Int) = digI n i := by omega
  simp only [e] at h
  exact h
theorem small_wrd : ∀ x : Fin 10, dgtU (hexU (x.val : Int)) = true := by decide +kernel
theorem text_list (n : Int) (h0 : 0 ≤ n) (h1 : n ≤ 65535) : ∃ c q, (textS n).data.toList = c :: q ∧ dgtU c = true ∧ (∀ x ∈ q, wrdU x = true) ∧ q.length ≤ 5 ∧ (n < 10 → q = []) ∧ (n ≤ 255 → q.length ≤ 3) := by
  by_cases h2 : n < 10
  · have h := small_wrd ⟨n.toNat, by omega⟩
    have e : ((n.toNat : Nat) : Int) = n := by omega
    simp only [e] at h
    exact ⟨hexU n, [], by unfold textS; rw [if_neg (by omega), if_pos h2], h, by simp, by simp, fun _ => rfl, by simp⟩
  · have key : ∃ d ds, (digS n).data.toList = d :: ds ∧ (∀ x ∈ d :: ds, wrdU x = true) ∧ (decB (d.toNat : Int) = true → dgtU d = true) ∧ ds.length ≤ 3 ∧ (n ≤ 255 → ds.length ≤ 1) := by
      have w := fun i => hexU_w n i
      rcases digS_cases n (by omega) h1 with ⟨_, h, _⟩ | ⟨_, _, h, _⟩ | ⟨_, _, h, _⟩ | ⟨_, h, _⟩
      · exact ⟨_, _, h, by simp; exact ⟨(w _).1, (w _).1, (w _).1, (w _).1⟩, (w _).2, by simp, fun _ => by omega⟩
      · exact ⟨_, _, h, by simp; exact ⟨(w _).1, (w _).1, (w _).1⟩, (w _).2, by simp, fun _ => by omega⟩
      · exact ⟨_, _, h, by simp; exact ⟨(w _).1, (w _).1⟩, (w _).2, by simp, by simp⟩
      · exact ⟨_, _, h, by simp; exact (w _).1, (w _).2, by simp, by simp⟩
    obtain ⟨d, ds, hd, hw, hc, hl, hl2⟩ := key
    unfold textS
    rw [if_neg (by omega), if_neg h2, hd]
    have w72 : wrdU 72 = true := by decide
    split
    · next hh =>
      refine ⟨d, ds ++ [72], rfl, hc (by simpa using hh), ?_, by simp; omega, fun e => absurd e h2, fun e => by have := hl2 e; simp; omega⟩
      intro x hx
      rcases List.mem_append.1 hx with hx | hx
      · exact hw x (by simp [hx])
      · simp at hx; subst hx; exact w72
    · refine ⟨48, (d :: ds) ++ [72], rfl, by decide, ?_, by simp; omega, fun e => absurd e h2, fun e => by have := hl2 e; simp; omega⟩
      intro x hx
      rcases List.mem_append.1 hx with hx | hx
      · exact hw x hx
      · simp at hx; subst hx; exact w72

/-! ### The form of a string -/
def dblL (m : UInt8) : List UInt8 → List UInt8
  | [] => []
  | c :: r => if c = m then m :: m :: dblL m r else c :: dblL m r
theorem dbl_len (m : UInt8) (l : List UInt8) : (dblL m l).length ≤ 2 * l.length := by
  induction l with
  | nil => simp [dblL]
  | cons c l ih => rw [dblL]; split <;> simp <;> omega
theorem quo_dbl (m : UInt8) (t r : List UInt8) (hr : r.head? ≠ some m) : quoN m (dblL m t ++ m :: r) = some (t, (dblL m t).length + 1) := by
  induction t with
  | nil =>
    show quoN m (m :: r) = _
    cases r with
    | nil => rw [quoN, if_pos rfl]; rfl
    | cons d r => rw [quoN, if_pos rfl, if_neg (fun e => hr (by rw [e]; rfl))]; rfl
  | cons c t ih =>
    by_cases hc : c = m
    · subst hc
      rw [dblL, if_pos rfl, List.cons_append, List.cons_append, quoN, if_pos rfl, if_pos rfl, ih]
      rfl
    · rw [dblL, if_neg hc, List.cons_append]
      obtain ⟨d, q, hd⟩ : ∃ d q, dblL m t ++ m :: r = d :: q := by
        cases h : dblL m t ++ m :: r with
        | nil => simp at h
        | cons d q => exact ⟨d, q, rfl⟩
      rw [hd] at ih ⊢
      rw [quoN, if_neg hc, ih]
      rfl
/-- The form of a string with a mark. -/
def quoL (m : UInt8) (t : List UInt8) : List UInt8 := m :: (dblL m t ++ [m])
theorem nxt_quo (m : UInt8) (hm : m = 34 ∨ m = 39) (t r : List UInt8) (hr : r.head? ≠ some m) : nxt (quoL m t ++ r) = .tok 3 t 0 (quoL m t).length := by
  have h := quo_dbl m t r hr
  have e : quoL m t ++ r = m :: (dblL m t ++ m :: r) := by unfold quoL; simp
  rw [e]
  have h1 : wordN (m :: (dblL m t ++ m :: r)) = 0 := by
    rw [word_cons]
    rw [if_neg (by rcases hm with rfl | rfl <;> decide)]
  have h2 : numN (m :: (dblL m t ++ m :: r)) = 0 := by
    rw [num_cons]
    rw [if_neg]
    rcases hm with rfl | rfl
    · rw [show dgtU 34 = false by decide]; simp
    · rw [show dgtU 39 = false by decide]; simp
  simp only [nxt]
  rw [if_neg (by rcases hm with rfl | rfl <;> decide), if_neg (by omega), if_neg (by omega), if_pos hm, h]
  unfold quoL
  simp

/-! ### The texts of tokens -/
def prT (t : Tk) : List UInt8 := if t.k = 1 ∨ t.k = 4 then t.t else if t.k = 2 then (textS t.n).data.toList else if t.k = 3 then quoL 34 t.t else []
def prL : List Tk → List UInt8
  | [] => []
  | [t] => prT t
  | t :: u :: r => prT t ++ 32 :: prL (u :: r)
theorem word_shape (l : List UInt8) (h : 0 < wordN l) : ∃ c w, l.takeWhile wrdU = c :: w ∧ letU c = true ∧ ((wordN l = (c :: w).length ∧ l.take (wordN l) = c :: w) ∨ (isAF (c :: w) = true ∧ wordN l = (c :: w).length + 1 ∧ l.take (wordN l) = (c :: w) ++ [39])) := by
  cases l with
  | nil => cases h
  | cons c r =>
    by_cases hc : letU c = true
    · have hw : wrdU c = true := by unfold wrdU; rw [hc]; rfl
      have e1 : (c :: r).takeWhile wrdU = c :: r.takeWhile wrdU := List.takeWhile_cons_of_pos hw
      have e2 : partN (c :: r) = (c :: r.takeWhile wrdU).length := by unfold partN; rw [e1]
      have e3 := tw_take wrdU (c :: r)
      have e4 := tw_split wrdU (c :: r)
      rw [e1] at e3 e4
      refine ⟨c, r.takeWhile wrdU, e1, hc, ?_⟩
      rw [word_cons]
      rw [if_pos hc]
      by_cases hx : (isAF ((c :: r).takeWhile wrdU) && ((c :: r).drop (partN (c :: r))).head? == some 39) = true
      · rw [if_pos hx]
        refine .inr ?_
        rw [Bool.and_eq_true] at hx
        refine ⟨by rw [← e1]; exact hx.1, by rw [e2], ?_⟩
        obtain ⟨q, hq⟩ : ∃ q, (c :: r).drop (partN (c :: r)) = 39 :: q := by
          cases hd : (c :: r).drop (partN (c :: r)) with
          | nil => rw [hd] at hx; simp at hx
          | cons y q => rw [hd] at hx; simp at hx; exact ⟨q, by rw [hx.2]⟩
        rw [e2] at hq ⊢
        rw [hq] at e4
        conv => lhs; rw [← e4]
        rw [List.take_append, List.take_of_length_le (by omega)]
        simp
      · rw [if_neg hx]
        exact .inl ⟨e2, by rw [e2]; exact e3⟩
    · exfalso
      rw [word_cons] at h
      rw [if_neg hc] at h
      exact Nat.lt_irrefl 0 h
theorem word_again (l r : List UInt8) (h : 0 < wordN l) : wordN (l.take (wordN l) ++ 32 :: r) = wordN l := by
  obtain ⟨c, w, hw, hc, hh⟩ := word_shape l h
  have hm : ∀ x ∈ c :: w, wrdU x = true := by rw [← hw]; exact tw_mem wrdU l
  rcases hh with ⟨e1, e2⟩ | ⟨e0, e1, e2⟩
  · rw [e2, e1]
    have h1 : ((c :: w) ++ 32 :: r).takeWhile wrdU = c :: w := tw_app wrdU _ _ hm (fun x hx => by cases hx; decide)
    show wordN (c :: (w ++ 32 :: r)) = _
    rw [word_cons]
    unfold partN
    rw [List.cons_append] at h1
    rw [if_pos hc, h1]
    have h2 : (c :: (w ++ 32 :: r)).drop (c :: w).length = 32 :: r := by simp
    rw [h2]
    simp
  · rw [e2, e1]
    have e3 : (c :: w) ++ [39] ++ 32 :: r = c :: (w ++ 39 :: 32 :: r) := by simp
    have h1 : ((c :: w) ++ 39 :: 32 :: r).takeWhile wrdU = c :: w := tw_app wrdU _ _ hm (fun x hx => by cases hx; decide)
    rw [e3]
    rw [word_cons]
    unfold partN
    rw [List.cons_append] at h1
    rw [if_pos hc, h1]
    have h2 : (c :: (w ++ 39 :: 32 :: r)).drop (c :: w).length = 39 :: 32 :: r := by simp
    rw [h2, e0]
    rfl
theorem sign_again (r : List UInt8) : ∀ s ∈ signsL, nxt (s ++ 32 :: r) = .tok 4 s 0 s.length ∧ blkU (s.headD 0) = false ∧ s.length ≤ 2 := by
  intro s hs
  simp only [signsL, List.mem_cons, List.not_mem_nil, or_false] at hs
  rcases hs with rfl | rfl | rfl | rfl | rfl | rfl | rfl | rfl | rfl | rfl | rfl | rfl | rfl | rfl | rfl | rfl <;> exact ⟨rfl, rfl, by decide⟩
/-- A token's text, with a space behind it, begins with this token. -/
theorem nxt_print {l : List UInt8} {k : Int} {t : List UInt8} {n : Int} {z : Nat} (h : nxt l = .tok k t n z) (hk : k ≠ 0) (p : Int) (r : List UInt8) :
    nxt (prT ⟨k, t, n, p⟩ ++ 32 :: r) = .tok k t n (prT ⟨k, t, n, p⟩).length ∧ skN (prT ⟨k, t, n, p⟩ ++ 32 :: r) = 0 ∧ (prT ⟨k, t, n, p⟩).length + 1 ≤ 3 * z := by
  cases l with
  | nil => cases h; exact absurd rfl hk
  | cons m l =>
    simp only [nxt] at h
    split at h
    · cases h; exact absurd rfl hk
    split at h
    · next h1 =>
      cases h
      have hw := word_again (m :: l) r h1
      have hz := word_le (m :: l)
      obtain ⟨c, w, e, hc, hh⟩ := word_shape (m :: l) h1
      have he : prT ⟨1, (m :: l).take (wordN (m :: l)), 0, p⟩ = (m :: l).take (wordN (m :: l)) := rfl
      have hl : ((m :: l).take (wordN (m :: l))).length = wordN (m :: l) := by rw [List.length_take]; omega
      rw [he, hl]
      obtain ⟨q, hq⟩ : ∃ q, (m :: l).take (wordN (m :: l)) = c :: q := by
        rcases hh with ⟨_, e2⟩ | ⟨_, _, e2⟩
        · exact ⟨_, e2⟩
        · exact ⟨_, e2⟩
      have hf := let_facts c
      rw [hc] at hf
      simp only [Bool.not_true, Bool.false_or, Bool.and_eq_true, Bool.not_eq_true', bne_iff_ne] at hf
      refine ⟨?_, ?_, by omega⟩
      · have hx : (m :: l).take (wordN (m :: l)) ++ 32 :: r = c :: (q ++ 32 :: r) := by rw [hq]; rfl
        rw [hx] at hw ⊢
        simp only [nxt]
        rw [if_neg hf.1.1.1.1.2, hw, if_pos h1]
        rw [← hx, List.take_append_of_le_length (by omega), List.take_take, Nat.min_self]
      · rw [hq]; exact sk_head c _ hf.1.1.1.1.1.1
    split at h
    · next h0 h1 =>
      split at h
      · next x hx =>
        cases h
        have hz := num_le (m :: l)
        obtain ⟨b0, b1, b2⟩ := par_bd _ _ hx
        obtain ⟨c, q, e, hc, hq, hl, hs, hs2⟩ := text_list n b0 b1
        have he : prT ⟨2, [], n, p⟩ = c :: q := e
        rw [he]
        have hf := dgt_facts c
        rw [hc] at hf
        simp only [Bool.not_true, Bool.false_or, Bool.and_eq_true, Bool.not_eq_true', bne_iff_ne] at hf
        have hsz : (sOf ((m :: l).take (numN (m :: l)))).size = numN (m :: l) := by rw [sOf_size, List.length_take]; omega
        have hp : partN (q ++ 32 :: r) = q.length := by unfold partN; rw [tw_app wrdU _ _ hq (fun x hx => by cases hx; decide)]
        have hn : numN (c :: (q ++ 32 :: r)) = (c :: q).length := by
          rw [num_cons]
          rw [if_pos (by rw [hc]; rfl), hp]
          simp; omega
        have hw : wordN (c :: (q ++ 32 :: r)) = 0 := by rw [word_cons]; rw [if_neg (by rw [hf.1.1.1.1.1.2]; decide)]
        refine ⟨?_, sk_head c _ hf.1.1.1.1.1.1, ?_⟩
        · rw [List.cons_append]
          simp only [nxt]
          rw [if_neg hf.1.1.1.1.2, hw, if_neg (Nat.lt_irrefl 0), hn, if_pos (by simp)]
          have ht : (c :: (q ++ 32 :: r)).take (c :: q).length = c :: q := by simp
          have hq2 : sOf (c :: q) = textS n := by rw [← e]; exact sOf_of _
          rw [ht, hq2, par_text n b0 b1]
        · rcases Nat.lt_or_ge (numN (m :: l)) 3 with hlt | hge
          · rcases Nat.lt_or_ge (numN (m :: l)) 2 with hlt2 | hge2
            · have h1z : numN (m :: l) = 1 := by omega
              rw [h1z] at hx ⊢
              have := par_bd1 m n hx
              rw [hs (by omega)]
              simp
            · have := hs2 (b2 (by omega))
              simp
              omega
          · simp
            omega
      · cases h
    split at h
    · split at h
      · next pq hp =>
        cases h
        have hz := quo_le m l pq hp
        have he : prT ⟨3, pq.1, 0, p⟩ = quoL 34 pq.1 := rfl
        rw [he]
        refine ⟨nxt_quo 34 (.inl rfl) pq.1 (32 :: r) (by simp), sk_head 34 _ (by decide), ?_⟩
        have := dbl_len 34 pq.1
        unfold quoL
        simp
        omega
      · cases h
    split at h
    · next s hs =>
      cases h
      have he : prT ⟨4, t, 0, p⟩ = t := rfl
      rw [he]
      obtain ⟨a1, a2, a3⟩ := sign_again r t (sign_mem hs).1
      have hp := sign_pos hs
      refine ⟨a1, ?_, by omega⟩
      cases t with
      | nil => cases hp
      | cons c q => exact sk_head c _ a2
    · cases h
theorem tok_again {l : List UInt8} {a : Nat} {c : Int} {T : List Tk} (h : TokR l a c T) : c = 0 → (∀ a', ∃ T', TokR (prL T) a' 0 T' ∧ T'.map Tk.core = T.map Tk.core) ∧ (prL T).length ≤ 3 * l.length := by
  induction h with
  | fin l a h => exact fun _ => ⟨fun a' => ⟨_, .fin [] a' rfl, rfl⟩, by simp [prL, prT]⟩
  | bad l a c h => intro e; rcases nxt_code h with rfl | rfl <;> cases e
  | more l a k t n z c T h hk h3 ih =>
    intro e
    subst e
    obtain ⟨ih1, ih2⟩ := ih rfl
    have hz := nxt_size h hk
    have hs := sk_le l
    simp at hz
    rw [if_pos rfl]
    obtain ⟨u, U, rfl⟩ := List.exists_cons_of_ne_nil ((tok_facts h3).2.1 rfl)
    obtain ⟨p1, p2, p3⟩ := nxt_print h hk ((a + skN l : Nat) : Int) (prL (u :: U))
    have e1 : prL (⟨k, t, n, ((a + skN l : Nat) : Int)⟩ :: u :: U) = prT ⟨k, t, n, ((a + skN l : Nat) : Int)⟩ ++ 32 :: prL (u :: U) := rfl
    rw [e1]
    constructor
    · intro a'
      obtain ⟨T', q1, q2⟩ := ih1 (a' + 0 + (prT ⟨k, t, n, ((a + skN l : Nat) : Int)⟩).length + 1)
      have q3 := tok_pre (b := [32]) (fun x hx => by simp at hx; subst hx; decide) (a := a' + 0 + (prT ⟨k, t, n, ((a + skN l : Nat) : Int)⟩).length) q1
      refine ⟨_, .more _ a' k t n (prT ⟨k, t, n, ((a + skN l : Nat) : Int)⟩).length 0 T' ?_ hk ?_, ?_⟩
      · rw [p2]; exact p1
      · rw [p2, Nat.zero_add, List.drop_left]; exact q3
      · rw [if_pos rfl]; simp only [List.map_cons, ← q2]; rfl
    · rw [List.length_drop] at ih2
      rw [List.length_append, List.length_cons]
      omega
end Go.Proofs.YtcmcikcagpkocaaDoor
