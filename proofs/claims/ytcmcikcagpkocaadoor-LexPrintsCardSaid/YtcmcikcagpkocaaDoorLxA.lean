/-
  Plain facts on the lines of the assembler: with which token some bytes begin, and the tokens of a line.
-/
import Derived.Test.YtcmcikcagpkocaaDoorNumL
namespace Go.Proofs.YtcmcikcagpkocaaDoor
set_option linter.unusedVariables false

/-- A string of bytes. -/
def sOf (l : List UInt8) : ByteArray := ⟨l.toArray⟩
theorem sOf_list (l : List UInt8) : (sOf l).data.toList = l := by simp [sOf]
theorem sOf_of (s : ByteArray) : sOf s.data.toList = s := bytes_ext (sOf_list _)
theorem sOf_size (l : List UInt8) : (sOf l).size = l.length := by
  show (l.toArray).size = _
  simp
theorem sOf_inj {a b : List UInt8} : sOf a = sOf b ↔ a = b := ⟨fun h => by rw [← sOf_list a, h, sOf_list], fun h => by rw [h]⟩

def letU (c : UInt8) : Bool := (decide (65 ≤ c.toNat) && decide (c.toNat ≤ 90)) || (decide (97 ≤ c.toNat) && decide (c.toNat ≤ 122)) || c == 95 || c == 46 || c == 63 || c == 64
def dgtU (c : UInt8) : Bool := decide (48 ≤ c.toNat) && decide (c.toNat ≤ 57)
def wrdU (c : UInt8) : Bool := letU c || dgtU c
def blkU (c : UInt8) : Bool := c == 32 || c == 9
theorem byteT (p : UInt8 → Bool) (h : ∀ n : Fin 256, p (UInt8.ofNat n.val) = true) (c : UInt8) : p c = true := by
  have := h ⟨c.toNat, c.toNat_lt⟩
  simpa using this
theorem let_facts (c : UInt8) : (!letU c || (!blkU c && !dgtU c && c != 59 && c != 37 && c != 36 && c != 34 && c != 39)) = true := byteT (fun c => !letU c || (!blkU c && !dgtU c && c != 59 && c != 37 && c != 36 && c != 34 && c != 39)) (by decide +kernel) c
theorem dgt_facts (c : UInt8) : (!dgtU c || (!blkU c && !letU c && c != 59 && c != 37 && c != 36 && c != 34 && c != 39)) = true := byteT (fun c => !dgtU c || (!blkU c && !letU c && c != 59 && c != 37 && c != 36 && c != 34 && c != 39)) (by decide +kernel) c

/-- How many letters and digits stand first. -/
def partN (l : List UInt8) : Nat := (l.takeWhile wrdU).length
/-- Is it AF in letters of any case? -/
def isAF (l : List UInt8) : Bool := l.map capU == [65, 70]
/-- The size of the word that stands first, or 0. -/
def wordN : List UInt8 → Nat
  | [] => 0
  | c :: r => if letU c = true then (if isAF ((c :: r).takeWhile wrdU) && ((c :: r).drop (partN (c :: r))).head? == some 39 then partN (c :: r) + 1 else partN (c :: r)) else 0
/-- The size of what is to be the number that stands first, or 0. -/
def numN : List UInt8 → Nat
  | [] => 0
  | c :: r => if (dgtU c || c == 37 || (c == 36 && decide (0 < partN r))) = true then 1 + partN r else 0
theorem word_cons (c : UInt8) (r : List UInt8) : wordN (c :: r) = if letU c = true then (if isAF ((c :: r).takeWhile wrdU) && ((c :: r).drop (partN (c :: r))).head? == some 39 then partN (c :: r) + 1 else partN (c :: r)) else 0 := rfl
theorem num_cons (c : UInt8) (r : List UInt8) : numN (c :: r) = if (dgtU c || c == 37 || (c == 36 && decide (0 < partN r))) = true then 1 + partN r else 0 := rfl
/-- Behind a mark: the bytes of the string and how many bytes it takes, with the mark that ends it. -/
def quoN (m : UInt8) : List UInt8 → Option (List UInt8 × Nat)
  | [] => none
  | [c] => if c = m then some ([], 1) else none
  | c :: d :: r => if c = m then (if d = m then (quoN m r).map fun p => (m :: p.1, p.2 + 2) else some ([], 1)) else (quoN m (d :: r)).map fun p => (c :: p.1, p.2 + 1)
def signsL : List (List UInt8) := [[60, 60], [62, 62], [44], [40], [41], [43], [45], [42], [47], [38], [124], [94], [126], [58], [61], [36]]
def signO (l : List UInt8) : Option (List UInt8) := signsL.find? fun s => s.isPrefixOf l
/-- What stands first: a token of a kind with a text, a number and a size; or a code. -/
inductive Nx where
  | bad (c : Int)
  | tok (k : Int) (t : List UInt8) (n : Int) (z : Nat)
def nxt : List UInt8 → Nx
  | [] => .tok 0 [] 0 0
  | m :: r =>
    if m = 59 then .tok 0 [] 0 0
    else if 0 < wordN (m :: r) then .tok 1 ((m :: r).take (wordN (m :: r))) 0 (wordN (m :: r))
    else if 0 < numN (m :: r) then (match parO (sOf ((m :: r).take (numN (m :: r)))) with | some x => .tok 2 [] x (numN (m :: r)) | none => .bad 3)
    else if m = 34 ∨ m = 39 then (match quoN m r with | some p => .tok 3 p.1 0 (p.2 + 1) | none => .bad 3)
    else match signO (m :: r) with | some s => .tok 4 s 0 s.length | none => .bad 20
def skN (l : List UInt8) : Nat := (l.takeWhile blkU).length
structure Tk where
  k : Int
  t : List UInt8
  n : Int
  p : Int
  deriving DecidableEq
/-- The tokens of some bytes, of which the first stands at a, or a code. -/
inductive TokR : List UInt8 → Nat → Int → List Tk → Prop
  | fin (l : List UInt8) (a : Nat) : nxt (l.drop (skN l)) = .tok 0 [] 0 0 → TokR l a 0 [⟨0, [], 0, ((a + skN l : Nat) : Int)⟩]
  | bad (l : List UInt8) (a : Nat) (c : Int) : nxt (l.drop (skN l)) = .bad c → TokR l a c []
  | more (l : List UInt8) (a : Nat) (k : Int) (t : List UInt8) (n : Int) (z : Nat) (c : Int) (T : List Tk) : nxt (l.drop (skN l)) = .tok k t n z → k ≠ 0 → TokR (l.drop (skN l + z)) (a + skN l + z) c T → TokR l a c (if c = 0 then ⟨k, t, n, ((a + skN l : Nat) : Int)⟩ :: T else [])

/-! ### Runs of bytes -/
theorem tw_app (p : UInt8 → Bool) (a b : List UInt8) (ha : ∀ x ∈ a, p x = true) (hb : ∀ x, b.head? = some x → p x = false) : (a ++ b).takeWhile p = a := by
  rw [List.takeWhile_append_of_pos ha]
  cases b with
  | nil => simp
  | cons y r => rw [List.takeWhile_cons_of_neg (by rw [hb y rfl]; simp)]; simp
theorem tw_mem (p : UInt8 → Bool) (l : List UInt8) : ∀ x ∈ l.takeWhile p, p x = true := by
  induction l with
  | nil => simp
  | cons a l ih =>
    intro x hx
    rw [List.takeWhile_cons] at hx
    split at hx
    · rcases List.mem_cons.1 hx with rfl | h
      · assumption
      · exact ih x h
    · cases hx
theorem tw_drop (p : UInt8 → Bool) (l : List UInt8) : ∀ x, (l.drop (l.takeWhile p).length).head? = some x → p x = false := by
  induction l with
  | nil => intro x h; cases h
  | cons a l ih =>
    intro x h
    rw [List.takeWhile_cons] at h
    split at h
    · exact ih x (by simpa using h)
    · next hn => simp at h; subst h; exact Bool.eq_false_iff.2 hn
theorem tw_split (p : UInt8 → Bool) (l : List UInt8) : l.takeWhile p ++ l.drop (l.takeWhile p).length = l := by
  induction l with
  | nil => rfl
  | cons a l ih =>
    rw [List.takeWhile_cons]
    split
    · simpa using ih
    · rfl
theorem tw_take (p : UInt8 → Bool) (l : List UInt8) : l.take (l.takeWhile p).length = l.takeWhile p := by
  have e := tw_split p l
  have h : (l.takeWhile p ++ l.drop (l.takeWhile p).length).take (l.takeWhile p).length = l.takeWhile p := List.take_left' rfl
  rw [e] at h
  exact h
theorem tw_len (p : UInt8 → Bool) (l : List UInt8) : (l.takeWhile p).length ≤ l.length := by
  have := congrArg List.length (tw_split p l)
  simp at this
  omega
theorem sk_blank (b l : List UInt8) (h : ∀ x ∈ b, blkU x = true) : skN (b ++ l) = b.length + skN l := by
  unfold skN
  rw [List.takeWhile_append_of_pos h, List.length_append]
theorem sk_le (l : List UInt8) : skN l ≤ l.length := tw_len _ _
theorem sk_head (c : UInt8) (r : List UInt8) (h : blkU c = false) : skN (c :: r) = 0 := by
  unfold skN; rw [List.takeWhile_cons_of_neg (by rw [h]; simp)]; rfl
theorem sk_not (l : List UInt8) : ∀ x, (l.drop (skN l)).head? = some x → blkU x = false := tw_drop _ _

/-! ### Sizes -/
theorem part_le (l : List UInt8) : partN l ≤ l.length := tw_len _ _
theorem word_le (l : List UInt8) : wordN l ≤ l.length := by
  cases l with
  | nil => exact Nat.le_refl _
  | cons c r =>
    have h := part_le (c :: r)
    show (if letU c = true then _ else _) ≤ _
    split
    · split
      · next h2 =>
        rw [Bool.and_eq_true] at h2
        have h3 : (c :: r).drop (partN (c :: r)) ≠ [] := fun e => by rw [e] at h2; simp at h2
        have h4 : partN (c :: r) < (c :: r).length := by
          rcases Nat.lt_or_ge (partN (c :: r)) (c :: r).length with h | h
          · exact h
          · exact absurd (List.drop_eq_nil_of_le h) h3
        exact h4
      · exact h
    · exact Nat.zero_le _
theorem num_le (l : List UInt8) : numN l ≤ l.length := by
  cases l with
  | nil => exact Nat.le_refl _
  | cons c r =>
    have h := part_le r
    show (if (dgtU c || c == 37 || (c == 36 && decide (0 < partN r))) = true then 1 + partN r else 0) ≤ (c :: r).length
    split
    · simp only [List.length_cons]; omega
    · exact Nat.zero_le _
theorem quo_le (m : UInt8) (l : List UInt8) (p : List UInt8 × Nat) (h : quoN m l = some p) : p.1.length + 1 ≤ p.2 ∧ p.2 ≤ l.length := by
  fun_induction quoN m l generalizing p with
  | case1 => cases h
  | case2 => cases h; simp
  | case3 c hc => cases h
  | case4 r ih =>
    obtain ⟨q, hq, rfl⟩ := Option.map_eq_some_iff.1 h
    have := ih q hq
    simp
    omega
  | case5 d r hd => cases h; simp
  | case6 c d r hc ih =>
    obtain ⟨q, hq, rfl⟩ := Option.map_eq_some_iff.1 h
    have := ih q hq
    simp at this ⊢
    omega
theorem sign_mem {l s : List UInt8} (h : signO l = some s) : s ∈ signsL ∧ s.isPrefixOf l = true := ⟨List.mem_of_find?_eq_some h, by have := List.find?_some h; simpa using this⟩
theorem sign_pre {l s : List UInt8} (h : signO l = some s) : ∃ r, l = s ++ r := by
  obtain ⟨r, hr⟩ := List.isPrefixOf_iff_prefix.1 (sign_mem h).2
  exact ⟨r, hr.symm⟩
theorem sign_pos {l s : List UInt8} (h : signO l = some s) : 0 < s.length := by
  have t : ∀ x ∈ signsL, 0 < x.length := by decide
  exact t s (sign_mem h).1
theorem nxt_size {l : List UInt8} {k : Int} {t : List UInt8} {n : Int} {z : Nat} (h : nxt l = .tok k t n z) (hk : k ≠ 0) : 0 < z ∧ z ≤ l.length := by
  cases l with
  | nil => cases h; exact absurd rfl hk
  | cons m r =>
    simp only [nxt] at h
    split at h
    · cases h; exact absurd rfl hk
    split at h
    · next h1 => cases h; exact ⟨h1, word_le _⟩
    split at h
    · next h1 =>
      split at h
      · cases h; exact ⟨h1, num_le _⟩
      · cases h
    split at h
    · split at h
      · next p hp => cases h; have := quo_le m r p hp; simp; omega
      · cases h
    split at h
    · next s hs =>
      cases h
      obtain ⟨q, hq⟩ := sign_pre hs
      exact ⟨sign_pos hs, by rw [hq]; simp⟩
    · cases h
theorem nxt_kind {l : List UInt8} {k : Int} {t : List UInt8} {n : Int} {z : Nat} (h : nxt l = .tok k t n z) (hk : k = 0) : k = 0 ∧ t = [] ∧ n = 0 ∧ z = 0 := by
  cases l with
  | nil => cases h; exact ⟨rfl, rfl, rfl, rfl⟩
  | cons m r =>
    simp only [nxt] at h
    split at h
    · cases h; exact ⟨rfl, rfl, rfl, rfl⟩
    split at h
    · cases h; cases hk
    split at h
    · split at h
      · cases h; cases hk
      · cases h
    split at h
    · split at h
      · cases h; cases hk
      · cases h
    split at h
    · cases h; cases hk
    · cases h
theorem nxt_code {l : List UInt8} {c : Int} (h : nxt l = .bad c) : c = 3 ∨ c = 20 := by
  cases l with
  | nil => cases h
  | cons m r =>
    simp only [nxt] at h
    split at h
    · cases h
    split at h
    · cases h
    split at h
    · split at h
      · cases h
      · cases h; exact .inl rfl
    split at h
    · split at h
      · cases h
      · cases h; exact .inl rfl
    split at h
    · cases h
    · cases h; exact .inr rfl

/-! ### The tokens of a line -/
theorem tok_ex : ∀ (m : Nat) (l : List UInt8) (a : Nat), l.length ≤ m → ∃ c T, TokR l a c T := by
  intro m
  induction m with
  | zero =>
    intro l a h
    obtain rfl : l = [] := List.length_eq_zero_iff.1 (by omega)
    exact ⟨_, _, .fin [] a rfl⟩
  | succ m ih =>
    intro l a h
    cases hx : nxt (l.drop (skN l)) with
    | bad c => exact ⟨_, _, .bad l a c hx⟩
    | tok k t n z =>
      by_cases hk : k = 0
      · obtain ⟨rfl, rfl, rfl, rfl⟩ := nxt_kind hx hk
        exact ⟨_, _, .fin l a hx⟩
      · have hz := nxt_size hx hk
        have hs := sk_le l
        simp at hz
        obtain ⟨c, T, hT⟩ := ih (l.drop (skN l + z)) (a + skN l + z) (by simp; omega)
        exact ⟨_, _, .more l a k t n z c T hx hk hT⟩
theorem tok_all (l : List UInt8) (a : Nat) : ∃ c T, TokR l a c T := tok_ex l.length l a (Nat.le_refl _)
theorem tok_one {l : List UInt8} {a : Nat} {c : Int} {T : List Tk} (h : TokR l a c T) : ∀ {c' : Int} {T' : List Tk}, TokR l a c' T' → c = c' ∧ T = T' := by
  induction h with
  | fin l a h =>
    intro c' T' h'
    cases h' with
    | fin _ _ h2 => exact ⟨rfl, rfl⟩
    | bad _ _ _ h2 => rw [h] at h2; cases h2
    | more _ _ k t n z c T h2 hk h3 => rw [h] at h2; cases h2; exact absurd rfl hk
  | bad l a c h =>
    intro c' T' h'
    cases h' with
    | fin _ _ h2 => rw [h] at h2; cases h2
    | bad _ _ _ h2 => rw [h] at h2; cases h2; exact ⟨rfl, rfl⟩
    | more _ _ k t n z c T h2 hk h3 => rw [h] at h2; cases h2
  | more l a k t n z c T h hk h3 ih =>
    intro c' T' h'
    cases h' with
    | fin _ _ h2 => rw [h] at h2; cases h2; exact absurd rfl hk
    | bad _ _ _ h2 => rw [h] at h2; cases h2
    | more _ _ k' t' n' z' c' T' h2 hk' h3' =>
      rw [h] at h2
      cases h2
      obtain ⟨rfl, rfl⟩ := ih h3'
      exact ⟨rfl, rfl⟩
theorem tok_facts {l : List UInt8} {a : Nat} {c : Int} {T : List Tk} (h : TokR l a c T) : (c = 0 ∨ c = 3 ∨ c = 20) ∧ (c = 0 → T ≠ []) ∧ (c ≠ 0 → T = []) ∧ T.length ≤ l.length + 1 := by
  induction h with
  | fin l a h => exact ⟨.inl rfl, fun _ => by simp, fun e => absurd rfl e, by simp⟩
  | bad l a c h =>
    refine ⟨.inr (nxt_code h), fun e => ?_, fun _ => rfl, by simp⟩
    rcases nxt_code h with rfl | rfl <;> cases e
  | more l a k t n z c T h hk h3 ih =>
    have hz := nxt_size h hk
    have hs := sk_le l
    simp at hz ih
    refine ⟨ih.1, fun e => by rw [if_pos e]; simp, fun e => by rw [if_neg e], ?_⟩
    split
    · simp; omega
    · simp
end Go.Proofs.YtcmcikcagpkocaaDoor
