/-
  A lexer's next token.
-/
import Derived.Test.YtcmcikcagpkocaaDoorLxN
namespace Go.Proofs.YtcmcikcagpkocaaDoor
open Go.RowKit
set_option linter.unusedVariables false
attribute [local go_sem] Oper.semAt_some

theorem nx_end {l : List UInt8} (h : endB l = true) : nxt l = .tok 0 [] 0 0 := by
  cases l with
  | nil => rfl
  | cons m r =>
    have : m = 59 := by unfold endB at h; simpa using h
    simp only [nxt, if_pos this]
theorem nx_word {l : List UInt8} (h : endB l = false) (hw : 0 < wordN l) : nxt l = .tok 1 (l.take (wordN l)) 0 (wordN l) := by
  cases l with
  | nil => cases h
  | cons m r =>
    have : ¬ m = 59 := by unfold endB at h; simpa using h
    simp only [nxt, if_neg this, if_pos hw]
theorem nx_num {l : List UInt8} (h : endB l = false) (hw : wordN l = 0) (hn : 0 < numN l) : nxt l = (match parO (sOf (l.take (numN l))) with | some x => .tok 2 [] x (numN l) | none => .bad 3) := by
  cases l with
  | nil => cases h
  | cons m r =>
    have : ¬ m = 59 := by unfold endB at h; simpa using h
    simp only [nxt, if_neg this, hw, Nat.lt_irrefl, if_false, if_pos hn]
    rfl
theorem nx_quo {m : UInt8} {r : List UInt8} (h : endB (m :: r) = false) (hw : wordN (m :: r) = 0) (hn : numN (m :: r) = 0) (hm : m = 34 ∨ m = 39) : nxt (m :: r) = (match quoN m r with | some p => .tok 3 p.1 0 (p.2 + 1) | none => .bad 3) := by
  have : ¬ m = 59 := by unfold endB at h; simpa using h
  simp only [nxt, if_neg this, hw, hn, Nat.lt_irrefl, if_false, if_pos hm]
  rfl
theorem nx_sign {l : List UInt8} (h : endB l = false) (hw : wordN l = 0) (hn : numN l = 0) (hm : mkB l = false) : nxt l = (match signO l with | some s => .tok 4 s 0 s.length | none => .bad 20) := by
  cases l with
  | nil => cases h
  | cons m r =>
    have h1 : ¬ m = 59 := by unfold endB at h; simpa using h
    have h2 : ¬ (m = 34 ∨ m = 39) := by
      unfold mkB at hm
      simp at hm
      rintro (e | e)
      · exact hm.1 e
      · exact hm.2 e
    simp only [nxt, if_neg h1, hw, hn, Nat.lt_irrefl, if_false, if_neg h2]
    rfl
/-- The readers before j found nothing. -/
def Cnd (l : List UInt8) (j : Nat) : Prop := (1 ≤ j → endB l = false) ∧ (2 ≤ j → wordN l = 0) ∧ (3 ≤ j → numN l = 0) ∧ (4 ≤ j → mkB l = false) ∧ (5 ≤ j → signO l = none)
theorem cnd_bad {l : List UInt8} (h : Cnd l 5) : nxt l = .bad 20 := by
  obtain ⟨h1, h2, h3, h4, h5⟩ := h
  rw [nx_sign (h1 (by omega)) (h2 (by omega)) (h3 (by omega)) (h4 (by omega)), h5 (by omega)]
/-- What the reader j returns. -/
def RdJ (w0 : World) (D : Nat) (s : ByteArray) (p : Nat) (j : Nat) (w : World) (e : Ending) (w' : World) : Prop :=
  (∃ k t x z, nxt (rst s p) = .tok k t x z ∧ Rd w0 D s w e w' 0 k t x (p + z)) ∨ (nxt (rst s p) = .bad 3 ∧ ∃ q, Rd w0 D s w e w' 3 0 [] 0 q) ∨ (Cnd (rst s p) (j + 1) ∧ Rd w0 D s w e w' 20 0 [] 0 p)
section
variable {w0 : World} {D : Nat} {s : ByteArray} {w : World} {p : Nat}
theorem rd0 (hs : s.size ≤ 100000) (hp : p ≤ s.size) (X : Lxr w0 D s w p) : Calls Tryd.prog 46 #[.pointer (some ⟨D, 0, none⟩)] w (RdJ w0 D s p 0 w) := by
  refine (end_any hs hp X).mono ?_
  rintro e w' (⟨h1, h2⟩ | ⟨h1, h2⟩)
  · exact .inl ⟨0, [], 0, 0, nx_end h1, h2⟩
  · exact .inr (.inr ⟨⟨fun _ => h1, fun h => by omega, fun h => by omega, fun h => by omega, fun h => by omega⟩, h2⟩)
theorem rd1 (hs : s.size ≤ 100000) (hp : p ≤ s.size) (X : Lxr w0 D s w p) (C : Cnd (rst s p) 1) : Calls Tryd.prog 47 #[.pointer (some ⟨D, 0, none⟩)] w (RdJ w0 D s p 1 w) := by
  refine (word_any hs hp X).mono ?_
  rintro e w' (⟨h1, h2⟩ | ⟨h1, h2⟩)
  · exact .inl ⟨_, _, _, _, nx_word (C.1 (by omega)) h1, h2⟩
  · exact .inr (.inr ⟨⟨fun _ => C.1 (by omega), fun _ => h1, fun h => by omega, fun h => by omega, fun h => by omega⟩, h2⟩)
theorem rd2 (hs : s.size ≤ 100000) (hp : p ≤ s.size) (X : Lxr w0 D s w p) (C : Cnd (rst s p) 2) : Calls Tryd.prog 48 #[.pointer (some ⟨D, 0, none⟩)] w (RdJ w0 D s p 2 w) := by
  refine (number_any hs hp X).mono ?_
  rintro e w' (⟨h1, h2⟩ | ⟨h1, x, h2, h3⟩ | ⟨h1, h2, h3⟩)
  · exact .inr (.inr ⟨⟨fun _ => C.1 (by omega), fun _ => C.2.1 (by omega), fun _ => h1, fun h => by omega, fun h => by omega⟩, h2⟩)
  · exact .inl ⟨2, [], x, _, by rw [nx_num (C.1 (by omega)) (C.2.1 (by omega)) h1, h2], h3⟩
  · exact .inr (.inl ⟨by rw [nx_num (C.1 (by omega)) (C.2.1 (by omega)) h1, h2], _, h3⟩)
theorem rd3 (hs : s.size ≤ 100000) (hp : p ≤ s.size) (X : Lxr w0 D s w p) (C : Cnd (rst s p) 3) : Calls Tryd.prog 49 #[.pointer (some ⟨D, 0, none⟩)] w (RdJ w0 D s p 3 w) := by
  refine (quoted_any hs hp X).mono ?_
  rintro e w' (⟨h1, h2⟩ | ⟨m, r, h1, hm, ⟨x, h2, h3⟩ | ⟨h2, q, h3⟩⟩)
  · exact .inr (.inr ⟨⟨fun _ => C.1 (by omega), fun _ => C.2.1 (by omega), fun _ => C.2.2.1 (by omega), fun _ => h1, fun h => by omega⟩, h2⟩)
  all_goals
    have c1 := C.1 (by omega)
    have c2 := C.2.1 (by omega)
    have c3 := C.2.2.1 (by omega)
    rw [h1] at c1 c2 c3
  · exact .inl ⟨3, x.1, 0, x.2 + 1, by rw [h1, nx_quo c1 c2 c3 hm, h2], h3⟩
  · exact .inr (.inl ⟨by rw [h1, nx_quo c1 c2 c3 hm, h2], q, h3⟩)
theorem rd4 (hs : s.size ≤ 100000) (hp : p ≤ s.size) (X : Lxr w0 D s w p) (C : Cnd (rst s p) 4) (SG : SgAt w0) (hg : 0 < D) : Calls Tryd.prog 50 #[.pointer (some ⟨D, 0, none⟩)] w (RdJ w0 D s p 4 w) := by
  refine (sign_any hs hp X SG hg).mono ?_
  rintro e w' (⟨x, h1, h2⟩ | ⟨h1, h2⟩)
  · exact .inl ⟨4, x, 0, x.length, by rw [nx_sign (C.1 (by omega)) (C.2.1 (by omega)) (C.2.2.1 (by omega)) (C.2.2.2.1 (by omega)), h1], h2⟩
  · exact .inr (.inr ⟨⟨fun _ => C.1 (by omega), fun _ => C.2.1 (by omega), fun _ => C.2.2.1 (by omega), fun _ => C.2.2.2.1 (by omega), fun _ => h1⟩, h2⟩)
end
theorem fn_index (cs : Array Value) (i : Int) (h0 : 0 ≤ i) (h1 : i < 5) (hc : cs.size = 5) (w : World) : (Instr.index 82 (.agg cs) (.int .i64 i)).run Tryd.prog w = .ok (cs.getD i.toNat undef) w := by
  have hj : (0 : Int) ≤ i ∧ i < ((5 : Nat) : Int) := by omega
  have hk : i.toNat < cs.size := by omega
  simp [Instr.index, run_underlying Tryd.underlying82, asIntOf, go_sem, part]
  rw [if_pos (by omega), Array.getElem?_eq_getElem hk]
  show Result.ok _ _ = _
  simp [Array.getD, hk]
/-- The readers, in their order. -/
def fsA (D : Nat) : Array Value := #[.func (Fn.func 46) #[.pointer (some ⟨D, 0, none⟩)] #[], .func (Fn.func 47) #[.pointer (some ⟨D, 0, none⟩)] #[], .func (Fn.func 48) #[.pointer (some ⟨D, 0, none⟩)] #[],
  .func (Fn.func 49) #[.pointer (some ⟨D, 0, none⟩)] #[], .func (Fn.func 50) #[.pointer (some ⟨D, 0, none⟩)] #[]]
theorem rdr_all {w0 : World} {D : Nat} {s : ByteArray} {w : World} {p j : Nat} (hj : j < 5) (hs : s.size ≤ 100000) (hp : p ≤ s.size) (X : Lxr w0 D s w p) (C : Cnd (rst s p) j) (SG : SgAt w0) (hg : 0 < D) :
    ∃ f, (∀ w, (Instr.index 82 (.agg (fsA D)) (.int .i64 (j : Int))).run Tryd.prog w = .ok (.func (Fn.func f) #[.pointer (some ⟨D, 0, none⟩)] #[]) w) ∧ (∀ args w, (callFunc f args).run Tryd.prog w = .ok (.enter f args) w) ∧ Calls Tryd.prog f #[.pointer (some ⟨D, 0, none⟩)] w (RdJ w0 D s p j w) := by
  have ix : ∀ w, (Instr.index 82 (.agg (fsA D)) (.int .i64 (j : Int))).run Tryd.prog w = .ok ((fsA D).getD (j : Int).toNat undef) w := fun w => fn_index (fsA D) j (by omega) (by omega) rfl w
  have hcase : j = 0 ∨ j = 1 ∨ j = 2 ∨ j = 3 ∨ j = 4 := by omega
  rcases hcase with h | h | h | h | h
  · subst h; exact ⟨46, ix, enters_of Tryd.func46 (by kernel_rfl) rfl, rd0 hs hp X⟩
  · subst h; exact ⟨47, ix, enters_of Tryd.func47 (by kernel_rfl) rfl, rd1 hs hp X C⟩
  · subst h; exact ⟨48, ix, enters_of Tryd.func48 (by kernel_rfl) rfl, rd2 hs hp X C⟩
  · subst h; exact ⟨49, ix, enters_of Tryd.func49 (by kernel_rfl) rfl, rd3 hs hp X C⟩
  · subst h; exact ⟨50, ix, enters_of Tryd.func50 (by kernel_rfl) rfl, rd4 hs hp X C SG hg⟩
/-- What next returns, where q is the place behind the blanks. -/
def NxtR (w0 : World) (D : Nat) (s : ByteArray) (q : Nat) (w : World) (e : Ending) (w' : World) : Prop :=
  LK D w w' ∧ ((∃ k t x z, nxt (rst s q) = .tok k t x z ∧ e = .returned (.tuple #[.agg #[.int .i64 k, .string (sOf t), .int .i64 x, .int .i64 q], .int .i64 0]) ∧ Lxr w0 D s w' (q + z)) ∨
    (∃ c, nxt (rst s q) = .bad c ∧ e = .returned (.tuple #[.agg #[.int .i64 0, .string (sOf []), .int .i64 0, .int .i64 0], .int .i64 c]) ∧ ∃ q', Lxr w0 D s w' q'))
set_option maxRecDepth 100000 in
set_option maxHeartbeats 4000000 in
theorem next_any {w0 : World} {D : Nat} {s : ByteArray} {w : World} {p q : Nat} (hs : s.size ≤ 100000) (hp : p ≤ s.size) (hq : p + skN (rst s p) = q) (X : Lxr w0 D s w p) (SG : SgAt w0) (hg : 0 < D) :
    Calls Tryd.prog 28 #[.pointer (some ⟨D, 0, none⟩)] w (NxtR w0 D s q w) := by
  obtain ⟨n, hn⟩ : ∃ z, w.heap.size = z := ⟨_, rfl⟩
  have hD : D < n := by rw [← hn]; exact X.lt
  obtain ⟨w1, hw1, T1, y1, z1⟩ := tk_start 33 w n hn 0 ⟨#[]⟩ 0 0
  have X1 := X.all y1
  have SK := skip_any hs hp X1
  rw [hq] at SK
  have hql : q ≤ s.size := by have := sk_le (rst s p); rw [rst_len] at this; omega
  have SK1 := Lib.hid SK
  have T2 := Lib.hid T1
  have Y1 : Hid (Below n w w1) := by rw [← hn]; exact y1
  have HN := Lib.hid hn
  have HS : Hid (SgAt w0 ∧ 0 < D) := ⟨SG, hg⟩
  clear X X1 T1 y1 SK SG hg hq
  go_enter Tryd.func28, Tryd.ntmps28
  go_wp2_with fail
  refine SK1.out.mono ?_
  rintro e w2 ⟨rfl, X3, K3⟩
  have T4 := Lib.hid (T2.out.lk K3 (by omega))
  have K4 := Lib.hid ((LK.of_below (D := D) (by rw [HN.out]; exact Y1.out)).trans K3)
  have X4 := Lib.hid X3
  have z3 := K3.size
  obtain ⟨c0, c1, c2⟩ := X3.cells
  clear X3 K3 T2 Y1 SK1 c2
  go_wp2
  go_loopw [29] (fun iv wr => ∃ j : Nat, j ≤ 5 ∧ iv = .int .i64 j ∧ n < wr.heap.size ∧ Hid (Lxr w0 D s wr q) ∧ Hid (TkB 33 wr n 0 ⟨#[]⟩ 0 0) ∧ Hid (LK D w wr) ∧ Hid (Cnd (rst s q) j)) (fun iv _ => 5 - (intOf iv).toNat)
  case atStart => exact ⟨0, by omega, rfl, by omega, X4, T4, K4, ⟨fun h => by omega, fun h => by omega, fun h => by omega, fun h => by omega, fun h => by omega⟩⟩
  case round =>
    clear X4 T4 K4 c0 c1 z3 z1
    obtain ⟨j, hj, rfl, hnw, X1, T1, K1, C1⟩ := hrel
    by_cases hj5 : j < 5
    · obtain ⟨f, hix, he, CC0⟩ := rdr_all hj5 hs hql X1.out C1.out HS.out.1 HS.out.2
      have CC := Lib.hid CC0
      unfold fsA at hix
      clear C1 HS CC0
      go_wp2_with fail
      refine CC.out.mono ?_
      rintro e w2 (⟨k, t, x, z, hx, rfl, X2, K2⟩ | ⟨hx, q', rfl, X2, K2⟩ | ⟨C2, rfl, X2, K2⟩)
      · have T2 := T1.out.lk K2 (by omega)
        have K3 := K1.out.trans K2
        have z2 := K2.size
        obtain ⟨b, hb⟩ : ∃ b, w2.heap.size = b := ⟨_, rfl⟩
        obtain ⟨w4, hw4, T4, y4, z4⟩ := tk_start 33 w2 b hb k (sOf t) x q
        obtain ⟨w5, hw5, T5, X5, K5⟩ := rd_put (T2.all y4) (X2.all y4) (K3.trans (LK.of_below y4)) HN.out hD k (sOf t) x q
        obtain ⟨g0, g1, g2, g3, -⟩ := T5.cells
        obtain ⟨h0, h1, h2, h3, hf⟩ := T4.cells
        obtain ⟨q0, q1, q2, q3, qf⟩ := (T2.all y4).cells
        have F : Hid (NxtR w0 D s q w (.returned (.tuple #[.agg #[.int .i64 k, .string (sOf t), .int .i64 x, .int .i64 q], .int .i64 0])) w5) := ⟨K5, .inl ⟨k, t, x, z, hx, rfl, X5⟩⟩
        clear T2 K3 T4 y4 T5 X5 K5 X2 K2 T1 X1 K1 CC hx
        go_wp2
        refine bodyPost_ret (v := .tuple #[.agg #[.int .i64 k, .string (sOf t), .int .i64 x, .int .i64 q], .int .i64 0]) ?_ rfl F.out
        simp [results, Tryd.results28, go_sem, g0, g1, g2, g3]
      · have T2 := T1.out.lk K2 (by omega)
        have K3 := K1.out.trans K2
        have z2 := K2.size
        obtain ⟨w5, hw5, T5, X5, K5⟩ := rd_put T2 X2 K3 HN.out hD 0 ⟨#[]⟩ 0 0
        have y5 : ∀ o, Below w5.heap.size w5 (w5.alloc o) := fun o => (Below.refl _ w5).alloc (Nat.le_refl _) _
        have nlt5 : n < w5.heap.size := T5.lt
        have nlt : n < w2.heap.size := T2.lt
        obtain ⟨q0, q1, q2, q3, qf⟩ := T2.cells
        have gg := fun o => (T5.all (y5 o)).cells
        have F : ∀ o, Hid (NxtR w0 D s q w (.returned (.tuple #[.agg #[.int .i64 0, .string (sOf []), .int .i64 0, .int .i64 0], .int .i64 3])) (w5.alloc o)) := fun o => ⟨K5.trans (LK.of_below (y5 o)), .inr ⟨3, hx, rfl, q', X5.all (y5 o)⟩⟩
        have GG := Lib.hid gg
        clear T2 K3 y5 T5 X5 K5 X2 K2 T1 X1 K1 CC hx gg
        go_wp2
        refine bodyPost_ret (v := .tuple #[.agg #[.int .i64 0, .string (sOf []), .int .i64 0, .int .i64 0], .int .i64 3]) ?_ rfl (F _).out
        obtain ⟨g0, g1, g2, g3, -⟩ := GG.out (.cells #[.int .i64 0, .string (sOf []), .int .i64 0, .int .i64 0] 33)
        simp [results, Tryd.results28, go_sem, g0, g1, g2, g3]
        rfl
      · have T2 := T1.out.lk K2 (by omega)
        have K3 := K1.out.trans K2
        have z2 := K2.size
        have y3 : ∀ o, Below w2.heap.size w2 (w2.alloc o) := fun o => (Below.refl _ w2).alloc (Nat.le_refl _) _
        have TN3 := fun o => Lib.hid (T2.all (y3 o))
        have X3 := fun o => Lib.hid (X2.all (y3 o))
        have K4 := fun o => Lib.hid (K3.trans (LK.of_below (y3 o)))
        have CN := Lib.hid C2
        clear T2 K3 y3 X2 K2 T1 X1 K1 CC C2
        go_wp2
        go_roundw
        case rel => exact ⟨j + 1, by omega, by go_num, by simp; omega, X3 _, TN3 _, K4 _, CN⟩
        case measure => simp [intOf]; omega
    · obtain rfl : j = 5 := by omega
      clear hj5 HS
      obtain ⟨w5, hw5, T5, X5, K5⟩ := rd_put T1.out X1.out K1.out HN.out hD 0 ⟨#[]⟩ 0 0
      obtain ⟨g0, g1, g2, g3, -⟩ := T5.cells
      obtain ⟨q0, q1, q2, q3, qf⟩ := T1.out.cells
      have F : Hid (NxtR w0 D s q w (.returned (.tuple #[.agg #[.int .i64 0, .string (sOf []), .int .i64 0, .int .i64 0], .int .i64 20])) w5) := ⟨K5, .inr ⟨20, cnd_bad C1.out, rfl, q, X5⟩⟩
      clear T5 X5 K5 T1 X1 K1 C1
      go_wp2
      refine bodyPost_ret (v := .tuple #[.agg #[.int .i64 0, .string (sOf []), .int .i64 0, .int .i64 0], .int .i64 20]) ?_ rfl F.out
      simp [results, Tryd.results28, go_sem, g0, g1, g2, g3]
      rfl
end Go.Proofs.YtcmcikcagpkocaaDoor
