/-
  The chapter's example of lex, the comparison of lists of tokens, and IsWord.
-/
import Derived.Test.YtcmcikcagpkocaaDoorLxP
import Derived.Test.YtcmcikcagpkocaaDoorLxV
import Derived.Test.YtcmcikcagpkocaaDoorLxQ
import Derived.Test.YtcmcikcagpkocaaDoorLxD
namespace Go.Proofs.YtcmcikcagpkocaaDoor
open Go.RowKit
set_option linter.unusedVariables false
attribute [local go_sem] Oper.semAt_some

/-- The tokens, computed. -/
def tokF : Nat → List UInt8 → Nat → Option (List Tk)
  | 0, _, _ => none
  | f + 1, l, a => match nxt (l.drop (skN l)) with
    | .bad _ => none
    | .tok k t n z => if k = 0 then (if t = [] ∧ n = 0 ∧ z = 0 then some [⟨0, [], 0, ((a + skN l : Nat) : Int)⟩] else none) else (tokF f (l.drop (skN l + z)) (a + skN l + z)).map fun T => ⟨k, t, n, ((a + skN l : Nat) : Int)⟩ :: T
theorem tokF_ok : ∀ (f : Nat) (l : List UInt8) (a : Nat) (T : List Tk), tokF f l a = some T → TokR l a 0 T := by
  intro f
  induction f with
  | zero => intro l a T h; cases h
  | succ f ih =>
    intro l a T h
    rw [tokF] at h
    cases hx : nxt (l.drop (skN l)) with
    | bad c => rw [hx] at h; cases h
    | tok k t n z =>
      rw [hx] at h
      simp only at h
      by_cases hk : k = 0
      · rw [if_pos hk] at h
        by_cases h3 : t = [] ∧ n = 0 ∧ z = 0
        · rw [if_pos h3] at h
          obtain ⟨rfl, rfl, rfl⟩ := h3
          subst hk
          cases h
          exact .fin l a hx
        · rw [if_neg h3] at h; cases h
      · rw [if_neg hk] at h
        obtain ⟨T', h1, rfl⟩ := Option.map_eq_some_iff.1 h
        exact .more l a k t n z 0 T' hx hk (ih _ _ _ h1)
def exL : List UInt8 := [120, 58, 32, 76, 68, 32, 65, 44, 40, 73, 88, 43, 48, 70, 72, 41, 32, 59, 32, 99]
def exT : List Tk := [⟨1, [120], 0, 0⟩, ⟨4, [58], 0, 1⟩, ⟨1, [76, 68], 0, 3⟩, ⟨1, [65], 0, 6⟩, ⟨4, [44], 0, 7⟩, ⟨4, [40], 0, 8⟩, ⟨1, [73, 88], 0, 9⟩, ⟨4, [43], 0, 11⟩, ⟨2, [], 15, 12⟩, ⟨4, [41], 0, 15⟩, ⟨0, [], 0, 17⟩]
theorem ex_tok : TokR exL 0 0 exT := tokF_ok 12 exL 0 exT (by decide +kernel)
/-- The world behind Tokens: what was there stands. -/
theorem SgAt.lt {w : World} (h : SgAt w) : 0 < w.heap.size := by
  obtain ⟨T, fr, h⟩ := h
  exact (Array.getElem?_eq_some_iff.1 h).1
theorem SgAt.up {w w' : World} (h : SgAt w) (hb : Below w.heap.size w w') : SgAt w' := h.below hb h.lt
/-- What Tokens returns of a line that isn't too long, in a form to read from. -/
theorem ret_read {e : TypeId} {w w' : World} {l : List UInt8} {en : Ending} (h : RetTk e w l en w') (hl : l.length ≤ 1024) {c : Int} {T : List Tk} (hT : TokR l 0 c T) : ∃ A cap, en = .returned (.tuple #[.slice A T.length cap, .int .i64 c]) ∧ KsP w' A T ∧ Below w.heap.size w w' := by
  obtain ⟨c', T', A, cap, h1, h2, h3, h4⟩ := h
  rw [if_neg (by omega)] at h1
  obtain ⟨rfl, rfl⟩ := tok_one hT h1
  obtain ⟨A', c', e1, e2, -⟩ := h3.ks
  simp only [Value.slice.injEq] at e1
  obtain ⟨rfl, -, rfl⟩ := e1
  exact ⟨A, cap, h2, e2, h4⟩
set_option maxRecDepth 100000 in
set_option maxHeartbeats 4000000 in
theorem lalive_any (w : World) (SG : SgAt w) : Calls Tryd.prog 9 #[] w fun e w' => e = .returned (.bool true) ∧ Below w.heap.size w w' := by
  have T0 := Lib.hid (tokens_any ⟨#[120, 58, 32, 76, 68, 32, 65, 44, 40, 73, 88, 43, 48, 70, 72, 41, 32, 59, 32, 99]⟩ (by decide) w SG SG.lt)
  clear SG
  go_enter Tryd.func9, Tryd.ntmps9
  go_wp2_with fail
  refine T0.out.mono ?_
  rintro e w2 h
  obtain ⟨A, cap, rfl, K, hb⟩ := ret_read h (by decide) ex_tok
  have B := Lib.hid hb
  obtain ⟨b, off, rfl, -, c60, c61, c62, c63⟩ := K.at_ (k := 6) (by decide)
  obtain ⟨b', off', e8, -, c80, c81, c82, c83⟩ := K.at_ (k := 8) (by decide)
  obtain ⟨b2, off2, e10, -, c100, c101, c102, c103⟩ := K.at_ (k := 10) (by decide)
  simp only [Option.some.injEq, Addr.mk.injEq, and_true] at e8 e10
  obtain ⟨rfl, rfl⟩ := e8
  obtain ⟨rfl, rfl⟩ := e10
  have d61 : w2.cell? ⟨b, off + 6 * 4 + 1, none⟩ = some (.string ⟨#[73, 88]⟩) := c61
  have d80 : w2.cell? ⟨b, off + 8 * 4, none⟩ = some (.int .i64 2) := c80
  have d82 : w2.cell? ⟨b, off + 8 * 4 + 2, none⟩ = some (.int .i64 15) := c82
  have d100 : w2.cell? ⟨b, off + 10 * 4, none⟩ = some (.int .i64 0) := c100
  have hlen : exT.length = 11 := rfl
  rw [hlen]
  clear hb h K c60 c61 c62 c63 c80 c81 c82 c83 c100 c101 c102 c103 T0 hlen
  go_wp2
  go_ret
  exact ⟨rfl, B.out⟩
set_option maxRecDepth 100000 in
set_option maxHeartbeats 1000000 in
theorem lsame_any (A1 A2 : Option Addr) (k c1 c2 : Nat) (T : List Tk) (hT : T.length = k) (hk : k ≤ 10000) (w : World) (K1 : KsP w A1 T) (K2 : KsP w A2 T) :
    Calls Tryd.prog 12 #[.slice A1 k c1, .slice A2 k c2] w fun e w' => e = .returned (.bool true) ∧ Below w.heap.size w w' := by
  have C := Lib.hid (eqf24_any (g := 30) (enters_of Tryd.func30 (by kernel_rfl) rfl) A1 A2 k c1 c2 T T hT hT hk w K1 K2 (fun j h1 h2 w' => sameF_any T[j] w'))
  clear K1 K2
  go_enter Tryd.func12, Tryd.ntmps12
  go_wp2_with fail
  refine C.out.mono ?_
  rintro e w2 ⟨rfl, hb⟩
  have B := Lib.hid hb
  clear hb
  go_wp2
  go_ret
  exact ⟨rfl, B.out⟩
theorem isWd_iff (s : ByteArray) : (s.toList.isEmpty = true → isWd s.data.toList = false) ∧ (s.toList.isEmpty = false → isWd s.data.toList = decide ((wordN s.data.toList : Int) = (s.size : Int))) := by
  have hl : s.data.toList.length = s.size := by simp
  constructor
  · intro h
    rw [(bz_iff s).1 h]
    rfl
  · intro h
    have hne : s.data.toList ≠ [] := fun e => by rw [(bz_iff s).2 e] at h; cases h
    unfold isWd
    rw [decide_eq_true hne, hl, Bool.true_and, decide_eq_decide]
    omega
set_option maxRecDepth 100000 in
set_option maxHeartbeats 1000000 in
theorem isWord_any (s : ByteArray) (hs : s.size ≤ 100000) (w : World) :
    Calls Tryd.prog 17 #[.string s] w fun e w' => e = .returned (.bool (isWd s.data.toList)) ∧ Below w.heap.size w w' := by
  have I := isWd_iff s
  have W := Lib.hid (wordSize_any s hs w)
  cases he : s.toList.isEmpty
  case true =>
    have E := Lib.hid (I.1 he)
    clear I W
    go_enter Tryd.func17, Tryd.ntmps17
    go_wp2
    go_ret
    exact ⟨ret_bool E.out.symm, Below.refl _ _⟩
  case false =>
    have E := I.2 he
    obtain ⟨z, hz⟩ : ∃ z, wordN s.data.toList = z := ⟨_, rfl⟩
    rw [hz] at E W
    have E1 := Lib.hid E
    clear I E hz
    go_enter Tryd.func17, Tryd.ntmps17
    go_wp2_with fail
    refine W.out.mono ?_
    rintro e w2 ⟨rfl, hb⟩
    have B := Lib.hid hb
    clear hb
    go_wp2
    go_ret
    exact ⟨ret_bool (by rw [E1.out, Bool.eq_iff_iff]; simp), B.out⟩
set_option maxRecDepth 100000 in
set_option maxHeartbeats 1000000 in
theorem risWord_any (s : ByteArray) (hs : s.size ≤ 100000) (w : World) :
    Calls Tryd.prog 18 #[.string s] w fun e w' => e = .returned (.bool (isWd s.data.toList)) ∧ Below w.heap.size w w' := by
  have I := isWd_iff s
  cases he : s.toList.isEmpty
  case true =>
    have E := Lib.hid (I.1 he)
    clear I
    go_enter Tryd.func18, Tryd.ntmps18
    go_wp2
    go_ret
    exact ⟨ret_bool E.out.symm, Below.refl _ _⟩
  case false =>
    have E := I.2 he
    have h0 := size_pos he
    have W0 := rword_any s 0 hs h0 w
    rw [Nat.zero_add] at W0
    have W : Hid (Calls Tryd.prog 35 #[.string s, .int .i64 0] w fun e w' => e = .returned (.int .i64 ((wordN s.data.toList : Nat) : Int)) ∧ Below w.heap.size w w') := W0
    obtain ⟨z, hz⟩ : ∃ z, wordN s.data.toList = z := ⟨_, rfl⟩
    rw [hz] at E W
    have E1 := Lib.hid E
    clear I E hz W0
    go_enter Tryd.func18, Tryd.ntmps18
    go_wp2_with fail
    refine W.out.mono ?_
    rintro e w2 ⟨rfl, hb⟩
    have B := Lib.hid hb
    clear hb
    go_wp2
    go_ret
    exact ⟨ret_bool (by rw [E1.out, Bool.eq_iff_iff]; simp), B.out⟩
end Go.Proofs.YtcmcikcagpkocaaDoor
