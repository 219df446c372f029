/-
  Plain facts on the lines of the assembler: blanks around a line and a comment behind it leave its tokens as they are.
-/
import Derived.Test.YtcmcikcagpkocaaDoorLxA
namespace Go.Proofs.YtcmcikcagpkocaaDoor
set_option linter.unusedVariables false

theorem tk_app (l r : List UInt8) : (l ++ 32 :: r).takeWhile wrdU = l.takeWhile wrdU := by
  induction l with
  | nil => rfl
  | cons c l ih =>
    rw [List.cons_append, List.takeWhile_cons, List.takeWhile_cons, ih]
theorem part_app (l r : List UInt8) : partN (l ++ 32 :: r) = partN l := by unfold partN; rw [tk_app]
theorem head_app32 (l r : List UInt8) (m : UInt8) (hm : m ≠ 32) : ((l ++ 32 :: r).head? == some m) = (l.head? == some m) := by
  cases l with
  | nil => simp; exact fun e => hm e.symm
  | cons c l => rfl
theorem word_app (c : UInt8) (l r : List UInt8) : wordN (c :: (l ++ 32 :: r)) = wordN (c :: l) := by
  have h1 : (c :: (l ++ 32 :: r)).takeWhile wrdU = (c :: l).takeWhile wrdU := tk_app (c :: l) r
  have h2 : partN (c :: (l ++ 32 :: r)) = partN (c :: l) := part_app (c :: l) r
  have h3 : (c :: (l ++ 32 :: r)).drop (partN (c :: l)) = (c :: l).drop (partN (c :: l)) ++ 32 :: r := List.drop_append_of_le_length (part_le (c :: l)) (l₂ := 32 :: r)
  rw [word_cons, word_cons]
  rw [h1, h2, h3, head_app32 _ _ _ (by decide)]
theorem num_app (c : UInt8) (l r : List UInt8) : numN (c :: (l ++ 32 :: r)) = numN (c :: l) := by
  rw [num_cons, num_cons, part_app]
theorem quo_app (m : UInt8) (hm : m ≠ 32) (r l : List UInt8) (p : List UInt8 × Nat) (h : quoN m l = some p) : quoN m (l ++ 32 :: r) = some p := by
  fun_induction quoN m l generalizing p with
  | case1 => cases h
  | case2 =>
    cases h
    show quoN m (m :: 32 :: r) = _
    rw [quoN, if_pos rfl, if_neg (fun e => hm e.symm)]
  | case3 c hc => cases h
  | case4 r' ih =>
    obtain ⟨q, hq, rfl⟩ := Option.map_eq_some_iff.1 h
    have := ih q hq
    rw [List.cons_append, List.cons_append, quoN, if_pos rfl, if_pos rfl, this]
    rfl
  | case5 d r' hd =>
    cases h
    rw [List.cons_append, List.cons_append, quoN, if_pos rfl, if_neg hd]
  | case6 c d r' hc ih =>
    obtain ⟨q, hq, rfl⟩ := Option.map_eq_some_iff.1 h
    have := ih q hq
    rw [List.cons_append] at this
    rw [List.cons_append, List.cons_append, quoN, if_neg hc, this]
    rfl
theorem pre_app (s l r : List UInt8) (h : ∀ x ∈ s, x ≠ 32) : s.isPrefixOf (l ++ 32 :: r) = s.isPrefixOf l := by
  induction s generalizing l with
  | nil => simp
  | cons a s ih =>
    have ha := h a (by simp)
    cases l with
    | nil =>
      show ((a == 32) && _) = false
      rw [show (a == 32) = false by simpa using ha]
      rfl
    | cons c l =>
      show ((a == c) && s.isPrefixOf (l ++ 32 :: r)) = ((a == c) && s.isPrefixOf l)
      rw [ih l fun x hx => h x (by simp [hx])]
theorem find_cong {α : Type} (L : List α) (p q : α → Bool) (h : ∀ x ∈ L, p x = q x) : L.find? p = L.find? q := by
  induction L with
  | nil => rfl
  | cons a L ih => rw [List.find?_cons, List.find?_cons, h a (by simp), ih fun x hx => h x (by simp [hx])]
theorem sign_app (l r : List UInt8) : signO (l ++ 32 :: r) = signO l := by
  have t : ∀ s ∈ signsL, ∀ x ∈ s, x ≠ 32 := by decide
  exact find_cong _ _ _ fun s hs => pre_app s l r (t s hs)
theorem nxt_app (l r : List UInt8) (hl : l ≠ []) (hq : (∃ k t n z, nxt l = .tok k t n z) ∨ ∀ x ∈ l, x ≠ 34 ∧ x ≠ 39) : nxt (l ++ 32 :: r) = nxt l := by
  cases l with
  | nil => exact absurd rfl hl
  | cons m l =>
    have e1 := word_app m l r
    have e2 := num_app m l r
    have e3 := word_le (m :: l)
    have e4 := num_le (m :: l)
    have e5 : ∀ z, z ≤ (m :: l).length → (m :: (l ++ 32 :: r)).take z = (m :: l).take z := fun z hz => List.take_append_of_le_length (l₁ := m :: l) hz
    have e6 : signO (m :: (l ++ 32 :: r)) = signO (m :: l) := sign_app (m :: l) r
    rw [List.cons_append]
    simp only [nxt, e1, e2, e5 _ e3, e5 _ e4, e6]
    by_cases h1 : m = 59
    · rw [if_pos h1, if_pos h1]
    rw [if_neg h1, if_neg h1]
    by_cases h2 : 0 < wordN (m :: l)
    · rw [if_pos h2, if_pos h2]
    rw [if_neg h2, if_neg h2]
    by_cases h3 : 0 < numN (m :: l)
    · rw [if_pos h3, if_pos h3]
    rw [if_neg h3, if_neg h3]
    by_cases h4 : m = 34 ∨ m = 39
    · rw [if_pos h4, if_pos h4]
      cases hp : quoN m l with
      | some p =>
        have : m ≠ 32 := by rcases h4 with rfl | rfl <;> decide
        rw [quo_app m this r l p hp]
      | none =>
        exfalso
        rcases hq with ⟨k, t, n, z, hq⟩ | hq
        · simp only [nxt, if_neg h1, if_neg h2, if_neg h3, if_pos h4, hp] at hq
          cases hq
        · have := hq m (by simp)
          rcases h4 with rfl | rfl
          · exact this.1 rfl
          · exact this.2 rfl
    · rw [if_neg h4, if_neg h4]
theorem sk_app (l x : List UInt8) (h : l.drop (skN l) ≠ []) : skN (l ++ x) = skN l := by
  have e := tw_split blkU l
  have f := tw_drop blkU l
  unfold skN at h ⊢
  obtain ⟨y, d, hy⟩ := List.exists_cons_of_ne_nil h
  rw [hy] at e f
  conv => lhs; rw [← e]
  rw [List.append_assoc, tw_app blkU _ _ (tw_mem _ _)]
  intro z hz
  cases hz
  exact f _ rfl
theorem sk_all (l : List UInt8) (h : l.drop (skN l) = []) : ∀ x ∈ l, blkU x = true := by
  have e := tw_split blkU l
  unfold skN at h
  rw [h, List.append_nil] at e
  intro x hx
  exact tw_mem blkU l x (by rw [e]; exact hx)
/-- What a token is, apart from its place. -/
def Tk.core (t : Tk) : Int × List UInt8 × Int := (t.k, t.t, t.n)
theorem tok_pre {b l : List UInt8} (hb : ∀ x ∈ b, blkU x = true) {a : Nat} {c : Int} {T : List Tk} (h : TokR l (a + b.length) c T) : TokR (b ++ l) a c T := by
  have e := sk_blank b l hb
  have d : ∀ j, (b ++ l).drop (skN (b ++ l) + j) = l.drop (skN l + j) := fun j => by
    rw [e, Nat.add_assoc, List.drop_append]
    simp
  cases h with
  | fin _ _ h =>
    have := TokR.fin (b ++ l) a (by have := d 0; simp only [Nat.add_zero] at this; rw [this]; exact h)
    rw [e] at this
    rw [show a + b.length + skN l = a + (b.length + skN l) by omega]
    exact this
  | bad _ _ _ h => exact .bad _ a c (by have := d 0; simp only [Nat.add_zero] at this; rw [this]; exact h)
  | more _ _ k t n z _ T h hk h3 =>
    have := TokR.more (b ++ l) a k t n z c T (by have := d 0; simp only [Nat.add_zero] at this; rw [this]; exact h) hk (by rw [d z, e, show a + (b.length + skN l) + z = a + b.length + skN l + z by omega]; exact h3)
    rw [e] at this
    rw [show a + b.length + skN l = a + (b.length + skN l) by omega]
    exact this
theorem tok_move {l : List UInt8} {a : Nat} {c : Int} {T : List Tk} (h : TokR l a c T) : ∀ a', ∃ T', TokR l a' c T' ∧ T'.map Tk.core = T.map Tk.core := by
  induction h with
  | fin l a h => exact fun a' => ⟨_, .fin l a' h, rfl⟩
  | bad l a c h => exact fun a' => ⟨_, .bad l a' c h, rfl⟩
  | more l a k t n z c T h hk h3 ih =>
    intro a'
    obtain ⟨T', h1, h2⟩ := ih (a' + skN l + z)
    refine ⟨_, .more l a' k t n z c T' h hk h1, ?_⟩
    split
    · simp only [List.map_cons, h2]; rfl
    · rfl
theorem tok_blank {l : List UInt8} {a : Nat} {c : Int} {T : List Tk} (h : TokR l a c T) (r : List UInt8) : (c = 0 ∨ ∀ x ∈ l, x ≠ 34 ∧ x ≠ 39) → ∀ a', ∃ T', TokR (l ++ 32 :: 9 :: 59 :: r) a' c T' ∧ T'.map Tk.core = T.map Tk.core := by
  have mem : ∀ {l : List UInt8} {j : Nat}, (∀ x ∈ l, x ≠ 34 ∧ x ≠ 39) → ∀ x ∈ l.drop j, x ≠ 34 ∧ x ≠ 39 := fun h x hx => h x (List.mem_of_mem_drop hx)
  induction h with
  | fin l a h =>
    intro _ a'
    by_cases hn : l.drop (skN l) = []
    · have e : TokR (59 :: r) (a' + (l ++ [32, 9]).length) 0 _ := .fin (59 :: r) _ (by rw [sk_head 59 r (by decide)]; rfl)
      have := tok_pre (b := l ++ [32, 9]) (l := 59 :: r) (by
        intro x hx
        rcases List.mem_append.1 hx with hx | hx
        · exact sk_all l hn x hx
        · simp at hx; rcases hx with rfl | rfl <;> decide) e
      rw [List.append_assoc] at this
      exact ⟨_, this, rfl⟩
    · have e := sk_app l (32 :: 9 :: 59 :: r) hn
      refine ⟨_, .fin _ a' ?_, rfl⟩
      rw [e, List.drop_append_of_le_length (sk_le l), nxt_app _ _ hn (.inl ⟨_, _, _, _, h⟩), h]
  | bad l a c h =>
    intro hq a'
    have hq : ∀ x ∈ l, x ≠ 34 ∧ x ≠ 39 := hq.resolve_left (by rcases nxt_code h with rfl | rfl <;> decide)
    have hn : l.drop (skN l) ≠ [] := fun e => by rw [e] at h; cases h
    refine ⟨[], .bad _ a' c ?_, rfl⟩
    rw [sk_app l _ hn, List.drop_append_of_le_length (sk_le l), nxt_app _ _ hn (.inr (mem hq)), h]
  | more l a k t n z c T h hk h3 ih =>
    intro hq a'
    have hz := nxt_size h hk
    have hs := sk_le l
    simp at hz
    have hn : l.drop (skN l) ≠ [] := fun e => by rw [e] at h; cases h; exact hk rfl
    obtain ⟨T', h1, h2⟩ := ih (hq.imp id mem) (a' + skN l + z)
    have e := sk_app l (32 :: 9 :: 59 :: r) hn
    refine ⟨_, .more _ a' k t n z c T' ?_ hk ?_, ?_⟩
    · rw [e, List.drop_append_of_le_length hs, nxt_app _ _ hn (.inl ⟨_, _, _, _, h⟩), h]
    · rw [e, List.drop_append_of_le_length (by omega)]; exact h1
    · split
      · simp only [List.map_cons, h2]; rfl
      · rfl
/-- Blanks in front, a blank and a comment behind. -/
theorem blanks_ok {l : List UInt8} {c : Int} {T : List Tk} (h : TokR l 0 c T) (b r : List UInt8) (hb : ∀ x ∈ b, blkU x = true) (hq : c = 0 ∨ ∀ x ∈ l, x ≠ 34 ∧ x ≠ 39) : ∃ T', TokR (b ++ (l ++ 32 :: 9 :: 59 :: r)) 0 c T' ∧ T'.map Tk.core = T.map Tk.core := by
  obtain ⟨T', h1, h2⟩ := tok_blank h r hq (0 + b.length)
  exact ⟨T', tok_pre hb h1, h2⟩
end Go.Proofs.YtcmcikcagpkocaaDoor
