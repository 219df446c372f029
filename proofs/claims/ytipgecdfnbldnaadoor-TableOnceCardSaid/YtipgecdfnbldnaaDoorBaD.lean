/-
  OpI, NumM, NumN, NumO, InA, InB, InD, InE, InF: texts joined to one.
-/
import Derived.Test.YtipgecdfnbldnaaDoorBaC
import Derived.Test.YtipgecdfnbldnaaDoorBaB
import Derived.Test.YtipgecdfnbldnaaDoorBaA
import Derived.Deep.Draws
import Derived.RegionTactic
import Derived.Deep.QuietTactic
import Derived.BigQuiet
import Derived.Laws.BytesArg
import Derived.RangeFuncNested
/-
  Walks over the document's own answers (package breadboardref06): signed, Text, Index.
-/
namespace Go.Proofs.YtipgecdfnbldnaaDoor
open Go.RowKit
set_option linter.unusedVariables false

theorem txt_yes (k r n : Int) (h : vldB k r n = true) : txtS k r n = formS k.toNat (nmS k.toNat r) n := by unfold txtS; rw [h]; rfl
theorem brS_4 (r : Int) (h : neB (nmS 4 r) = true) : brS (nmS 4 r) = atS (rnK 4) r := by
  by_cases hr : 0 ≤ r ∧ r < 9
  · obtain ⟨j, rfl⟩ : ∃ j : Nat, r = j := ⟨r.toNat, by omega⟩
    have hd : ∀ i : Fin 9, neB (nmS 4 ((i.val : Nat) : Int)) = true → (brS (nmS 4 ((i.val : Nat) : Int))).data = (atS (rnK 4) ((i.val : Nat) : Int)).data := by decide +kernel
    have := hd ⟨j, by omega⟩ h
    exact ByteArray.ext this
  · unfold nmS at h
    rw [atS_out _ r (by show r < 0 ∨ (9 : Int) ≤ r; omega), neB_nil] at h
    cases h
attribute [local irreducible] Go.Mixed.wpMix
theorem vld_kind (k r n : Int) (h : vldB k r n = true) : k = 1 ∨ k = 2 ∨ k = 3 ∨ k = 4 ∨ k = 5 ∨ k = 6 ∨ k = 7 ∨ k = 8 ∨ k = 9 ∨ k = 10 := by
  unfold vldB at h
  simp only [Bool.and_eq_true, decide_eq_true_eq] at h
  omega
end Go.Proofs.YtipgecdfnbldnaaDoor
/-
  Slices of bytes that read as a list; the walk over slices.Equal at []byte: for every two such slices, whether the lists are equal.
-/
namespace Go.Proofs.YtipgecdfnbldnaaDoor
open Go.RowKit
set_option linter.unusedVariables false

/-- A slice of bytes that reads as xs. -/
def BytesB (w : World) (A : Option Addr) (xs : List UInt8) : Prop :=
  xs = [] ∨ ∃ b off, A = some ⟨b, off, none⟩ ∧ ∀ j (h : j < xs.length), w.cell? ⟨b, off + j, none⟩ = some (.int .u8 (xs[j].toNat : Int))
theorem BytesB.at_ {w : World} {A : Option Addr} {xs : List UInt8} (h : BytesB w A xs) {k : Nat} (hk : k < xs.length) : ∃ b off, A = some ⟨b, off, none⟩ ∧ w.cell? ⟨b, off + k, none⟩ = some (.int .u8 (xs[k].toNat : Int)) := by
  rcases h with rfl | ⟨b, off, rfl, hc⟩
  · simp at hk
  · exact ⟨b, off, rfl, hc k hk⟩
theorem BytesB.below {w w' : World} {A : Option Addr} {xs : List UInt8} (h : BytesB w A xs) (hb : Below w.heap.size w w') : BytesB w' A xs := by
  rcases h with rfl | ⟨b, off, rfl, hc⟩
  · exact .inl rfl
  · exact .inr ⟨b, off, rfl, fun j hj => (hb.cell (p := ⟨b, off + j, none⟩) (World.block_lt_of_cell? w _ (hc j hj))).trans (hc j hj)⟩
theorem BytesB.drewN {w : World} {A : Option Addr} {xs : List UInt8} (h : BytesB w A xs) (n : Nat) : BytesB (w.drewN n) A xs := by
  rcases h with rfl | ⟨b, off, rfl, hc⟩
  · exact .inl rfl
  · exact .inr ⟨b, off, rfl, fun j hj => by simpa using hc j hj⟩
theorem BytesB.of_own {w : World} {base : Nat} {e : TypeId} {v : Value} {n : Nat} {xs : List UInt8} (h : w.ownsRow base e 1 v n (xs.map fun b => Value.int .u8 (b.toNat : Int))) :
    n = xs.length ∧ ∃ A cap, v = .slice A n cap ∧ BytesB w A xs := by
  have hl : n = xs.length := by have := h.1; simp at this; omega
  refine ⟨hl, ?_⟩
  rcases h.2 with ⟨rfl, h0⟩ | ⟨g, cap, cur, rfl, _⟩
  · subst h0
    exact ⟨none, 0, rfl, .inl (List.eq_nil_of_length_eq_zero hl.symm)⟩
  · refine ⟨_, cap, rfl, .inr ⟨g, 0, rfl, fun j hj => ?_⟩⟩
    rw [Nat.zero_add, h.cellAt j (by omega)]
    simp [List.getElem?_eq_getElem hj]
theorem beq_byte (a b : UInt8) : ((a.toNat : Int) == (b.toNat : Int)) = decide (a = b) := by
  by_cases h : a = b
  · subst h; simp
  · rw [decide_eq_false h, beq_eq_false_iff_ne]
    intro e
    exact h (UInt8.toNat_inj.1 (by omega))
theorem take_next (xs ys : List UInt8) (k : Nat) (hx : k < xs.length) (hy : k < ys.length) (h : xs.take k = ys.take k) (e : xs[k] = ys[k]) : xs.take (k + 1) = ys.take (k + 1) := by
  rw [List.take_succ_eq_append_getElem hx, List.take_succ_eq_append_getElem hy, h, e]
theorem ne_of_at (xs ys : List UInt8) (k : Nat) (hx : k < xs.length) (hy : k < ys.length) (e : ¬ xs[k] = ys[k]) : decide (xs = ys) = false := by
  apply decide_eq_false
  intro h
  subst h
  exact e rfl
def SomeDraws (w : World) (b : Bool) (e : Ending) (w' : World) : Prop := e = .returned (.bool b) ∧ ∃ q, w' = w.drewN q

set_option maxHeartbeats 1000000 in
theorem equal_any (A1 A2 : Option Addr) (c1 c2 : Nat) (xs ys : List UInt8) (hx : xs.length ≤ maxLen) (hy : ys.length ≤ maxLen) (w : World) (h1 : BytesB w A1 xs) (h2 : BytesB w A2 ys) :
    Calls Tryd.prog 10 #[.slice A1 xs.length c1, .slice A2 ys.length c2] w (SomeDraws w (decide (xs = ys))) := by
  unfold maxLen at hx hy
  have H1 := Lib.hid h1
  have H2 := Lib.hid h2
  clear h1 h2
  by_cases hl : xs.length = ys.length
  · obtain ⟨n, hn⟩ : ∃ n, n = xs.length := ⟨_, rfl⟩
    have hn2 : n = ys.length := by omega
    have L1 := Lib.hid hn
    have L2 := Lib.hid hn2
    rw [← hn, ← hn2]
    rw [← hn] at hx
    clear hn hn2 hl hy
    go_enter Tryd.func10, Tryd.ntmps10
    go_wp2
    go_loopw [13] (fun i wr => ∃ k q : Nat, k ≤ n ∧ i = .int .i64 k ∧ wr = w.drewN q ∧ Hid (xs.take k = ys.take k)) (fun i _ => n - (intOf i).toNat)
    case atStart => exact ⟨0, 0, Nat.zero_le _, rfl, rfl, rfl⟩
    case round =>
      obtain ⟨k, q, hk, rfl, rfl, E⟩ := hrel
      by_cases hlt : k < n
      · have k1 : k < xs.length := by have := L1.out; omega
        have k2 : k < ys.length := by have := L2.out; omega
        obtain ⟨b1, o1, hA1, g1⟩ := H1.out.at_ k1
        obtain ⟨b2, o2, hA2, g2⟩ := H2.out.at_ k2
        subst hA1 hA2
        by_cases hxy : xs[k] = ys[k]
        · have N := Lib.hid (take_next xs ys k k1 k2 E.out hxy)
          rw [← hxy] at g2
          clear hxy
          go_wp2_with fail
          go_quiet (fail)
          go_wp2
          go_roundw
          case rel => exact ⟨k + 1, _, by omega, by go_num, rfl, N⟩
          case measure => simp [intOf]; omega
        · have hb : ((xs[k].toNat : Int) != (ys[k].toNat : Int)) = true := by unfold bne; rw [beq_byte, decide_eq_false hxy]; rfl
          have hb2 : ((xs[k].toNat : Int) == (ys[k].toNat : Int)) = false := by rw [beq_byte, decide_eq_false hxy]
          have N := Lib.hid (ne_of_at xs ys k k1 k2 hxy)
          clear hxy
          go_wp2_with fail
          go_quiet (fail)
          go_wp2
          go_ret
          exact ⟨ret_bool N.out.symm, _, by simp only [World.drewN_drewN]; rfl⟩
      · have N : Hid (decide (xs = ys) = true) := by
          have e := E.out
          rw [show k = n by omega, List.take_of_length_le (by have := L1.out; omega), List.take_of_length_le (by have := L2.out; omega)] at e
          exact decide_eq_true e
        go_wp2
        go_ret
        exact ⟨ret_bool N.out.symm, _, rfl⟩
  · have hl' : ((xs.length : Int) != (ys.length : Int)) = true := by
      unfold bne; rw [beq_eq_false_iff_ne.2 (by omega)]; rfl
    have N : Hid (decide (xs = ys) = false) := decide_eq_false (fun e => hl (by rw [e]))
    clear hl
    go_enter Tryd.func10, Tryd.ntmps10
    go_wp2
    go_ret
    exact ⟨ret_bool N.out.symm, 0, rfl⟩
end Go.Proofs.YtipgecdfnbldnaaDoor
/-
  Walks over num.Low and breadboardref01.Low: for every slice of integers the bytes that are equal to them modulo 256, in new memory; breadboardref01.Fits.
-/
namespace Go.Proofs.YtipgecdfnbldnaaDoor
open Go.RowKit
set_option linter.unusedVariables false

theorem IntsAt.below {w w' : World} {A : Option Addr} {xs : List Int} (h : IntsAt w A xs) (hb : Below w.heap.size w w') : IntsAt w' A xs := by
  rcases h with rfl | ⟨b, off, rfl, hc⟩
  · exact .inl rfl
  · exact .inr ⟨b, off, rfl, fun j hj => (hb.cell (p := ⟨b, off + j, none⟩) (World.block_lt_of_cell? w _ (hc j hj))).trans (hc j hj)⟩
/-- The call returns a slice that reads as xs; nothing that was there is changed. -/
def RetBytes (w : World) (xs : List UInt8) (e : Ending) (w' : World) : Prop := ∃ A cap, e = .returned (.slice A xs.length cap) ∧ BytesB w' A xs ∧ Below w.heap.size w w'
/-- The slice lies in a new block, or is nil. -/
def NewA (w : World) (A : Option Addr) : Prop := ∀ a, A = some a → w.heap.size ≤ a.block
/-- The same, in a new block. -/
def RetBytesN (w : World) (xs : List UInt8) (e : Ending) (w' : World) : Prop := ∃ A cap, e = .returned (.slice A xs.length cap) ∧ BytesB w' A xs ∧ xs.length ≤ cap ∧ NewA w A ∧ Below w.heap.size w w'
theorem RetBytesN.ret {w : World} {xs : List UInt8} {e : Ending} {w' : World} (h : RetBytesN w xs e w') : RetBytes w xs e w' := by
  obtain ⟨A, cap, h1, h2, _, _, h3⟩ := h
  exact ⟨A, cap, h1, h2, h3⟩
/-- The byte that is equal to n modulo 256. -/
def lowU (n : Int) : UInt8 := (n % 256).toNat.toUInt8
theorem lowU_nat (n : Int) : ((lowU n).toNat : Int) = n % 256 := by
  unfold lowU
  rw [UInt8.toNat_ofNat_of_lt' (show (n % 256).toNat < 256 by omega)]
  omega
def u8V (b : UInt8) : Value := .int .u8 (b.toNat : Int)

/-- What holds at the head of round k: the first k bytes of the row are laid, the others are 0. -/
def LowRel (w : World) (zs : List Int) (k : Nat) (wr : World) : Prop :=
  (∀ j (h : j < zs.length), wr.cell? ⟨w.heap.size, j, none⟩ = some (.int .u8 (if j < k then zs[j] % 256 else 0))) ∧ (∀ j, j < zs.length → wr.frozen? ⟨w.heap.size, j, none⟩ = false) ∧ Below w.heap.size w wr
theorem lowRel_start (w : World) (zs : List Int) (e : TypeId) : LowRel w zs 0 (w.alloc (.cells (madeCells #[.int .u8 0] zs.length) e)) := by
  refine ⟨fun j h => ?_, fun j h => ?_, (Below.refl _ _).alloc (Nat.le_refl _) _⟩
  · rw [if_neg (by omega)]
    simp [go_sem, madeCells, h, Nat.mod_one]
  · simp [go_sem]
theorem lowRel_next (w wr : World) (zs : List Int) (k : Nat) (hk : k < zs.length) (hr : LowRel w zs k wr) : LowRel w zs (k + 1) (wr.setCell ⟨w.heap.size, k, none⟩ (.int .u8 (zs[k] % 256))) := by
  obtain ⟨r1, r2, r3⟩ := hr
  refine ⟨fun j hj => ?_, fun j hj => ?_, r3.setCell (by simp) _⟩
  · by_cases e : j = k
    · subst e
      have := r1 _ hj
      rw [if_pos (by omega)]
      simp [go_sem, this]
    · rw [World.cell?_setCell_other _ _ _ _ (by simp), r1 j hj]
      by_cases h1 : j < k
      · rw [if_pos h1, if_pos (by omega)]
      · rw [if_neg h1, if_neg (by omega)]
  · simp [go_sem, r2 j hj]
theorem lowRel_end (w wr : World) (zs : List Int) (hr : LowRel w zs zs.length wr) : RetBytesN w (zs.map lowU) (.returned (.slice (some ⟨w.heap.size, 0, none⟩) zs.length zs.length)) wr := by
  refine ⟨some ⟨w.heap.size, 0, none⟩, zs.length, by rw [List.length_map], .inr ⟨_, 0, rfl, fun j hj => ?_⟩, by rw [List.length_map]; exact Nat.le_refl _, fun a h => (by cases h; exact Nat.le_refl _), hr.2.2⟩
  have hj' : j < zs.length := by simpa using hj
  rw [Nat.zero_add, hr.1 j hj', if_pos hj']
  simp [lowU_nat]

/-- The row of bytes that the call itself appends to. -/
def OwnB (w wr : World) (v : Value) (xs : List UInt8) : Prop := wr.ownsRow w.heap.size 5 1 v xs.length (xs.map u8V) ∧ Below w.heap.size w wr
theorem ownB_start (w : World) : OwnB w w (.slice none 0 0) [] := ⟨World.ownsRow_nil _ _ _ _, Below.refl _ _⟩
theorem ownB_snoc {w wr w1 : World} {v v' : Value} {xs : List UInt8} {o : Obj} (h : OwnB w wr v xs) (b : UInt8) (x : Int) (hx : x = (b.toNat : Int))
    (h1 : w1.ownsRow w.heap.size 5 1 v' (xs.length + 1) (xs.map u8V ++ [.int .u8 x])) (hg : (wr.alloc o).grownBy w1 v.ownBlock) : OwnB w w1 v' (xs ++ [b]) := by
  obtain ⟨h2, h3⟩ := h
  refine ⟨?_, (h3.alloc h3.size o).grown hg (by have := h3.size; simp; omega) (fun j hj => (h2.lt j hj).1)⟩
  subst hx
  simpa [u8V] using h1
theorem ownB_end {w wr : World} {v : Value} {xs : List UInt8} (h : OwnB w wr v xs) : RetBytes w xs (.returned v) wr := by
  obtain ⟨_, A, cap, rfl, hb⟩ := BytesB.of_own h.1
  exact ⟨A, cap, rfl, hb, h.2⟩
theorem and255 (x : Int) : bits .and .i64 x 255 = x % 256 := by
  show IntKind.i64.wrap ((BitVec.ofInt 64 x &&& BitVec.ofInt 64 255).toNat : Int) = _
  rw [BitVec.toNat_and, show (BitVec.ofInt 64 255).toNat = 2 ^ 8 - 1 from rfl, Nat.and_two_pow_sub_one_eq_mod, BitVec.toNat_ofInt, IntKind.wrap_i64]
  omega
theorem map_take_snoc (zs : List Int) (k : Nat) (h : k < zs.length) : (zs.take (k + 1)).map lowU = (zs.take k).map lowU ++ [lowU zs[k]] := by
  rw [List.take_succ_eq_append_getElem h, List.map_append]; rfl

end Go.Proofs.YtipgecdfnbldnaaDoor
/-
  Walks over breadboardref01.Upper, num.Bytes and breadboardref01.Bytes.
-/
namespace Go.Proofs.YtipgecdfnbldnaaDoor
open Go.RowKit
set_option linter.unusedVariables false

theorem ownB_string {w wr : World} {v : Value} {xs : List UInt8} (h : OwnB w wr v xs) (s : ByteArray) (hs : s.data.toList = xs) :
    (convert 34 9 v).run Tryd.prog wr = .ok (.string s) wr := by
  have e : s = ⟨xs.toArray⟩ := bytes_ext (by simpa using hs)
  subst e
  rcases h.1.2 with ⟨rfl, h0⟩ | ⟨g, cap, cur, rfl, _⟩
  · have hx : xs = [] := List.eq_nil_of_length_eq_zero h0
    subst hx
    rw [run_convert_bytes_nil (P := Tryd.prog) wr 34 5 Tryd.underlying34 Tryd.underlying5 0 0 9 Tryd.underlying9]
    rfl
  · refine run_convert_bytes_back wr 34 9 5 ⟨g, 0, none⟩ cap xs Tryd.underlying34 Tryd.underlying5 Tryd.underlying9 (fun j hj => ?_)
    have h1 := h.1.cells (g := g) rfl j (u8V xs[j]) (by simp [List.getElem?_eq_getElem hj])
    exact h1
/-- 'out = append(out, x)' at a row of bytes of the call's own. -/
theorem wpList_app1 {w wr : World} {v : Value} {xs : List UInt8} (R : OwnB w wr v xs) {ops : Array Oper} {rest : List Oper} {o : Oper} {a : Act} {Q : Exit → Act → World → Prop} (hgd : o.guard = none) (s x : Operand)
    (ho : o.op = .call { callee := .builtin .append, args := #[s, x], argTypes := #[34, 34] }) (hs : a.eval s = v) (hx : a.eval x = .slice (some ⟨wr.heap.size, 0, none⟩) 1 1)
    (y : Int) (b : UInt8) (hy : y = (b.toNat : Int)) (hlen : xs.length < 140737488355328)
    (h : ∀ v' w1, OwnB w w1 v' (xs ++ [b]) → wpList Tryd.prog ops Q rest (a.put o.dst v') w1) : wpList Tryd.prog ops Q (o :: rest) a (wr.alloc (.cells #[.int .u8 y] 5)) := by
  obtain ⟨i0, hi, hz0, hz1, hz2⟩ := info_parts info_u8
  have hB := R.2.size
  refine wpList_append_own _ hgd s x 34 ho w.heap.size 5 i0 (.int .u8 0) 1 1 Tryd.underlying34 hi hz0 hz1 hz2 rfl (by decide) v xs.length _ hs (R.1.alloc _) ⟨wr.heap.size, 0, none⟩ 1 1 [.int .u8 y] hx rfl ?_ ?_ ?_ ?_ ?_ ?_
  · intro j u hj
    match j, hj with
    | 0, hj => simp at hj; subst hj; simp [Addr.add, go_sem]
  · intro u hu; simp at hu; subst hu; rfl
  · unfold maxLen; omega
  · omega
  · simp; omega
  · intro v' w1 hown' hgrow _
    exact h v' w1 (ownB_snoc R b y hy hown' hgrow)
theorem map_take_cap (s : ByteArray) (k : Nat) (h : k < s.size) : (s.data.toList.take (k + 1)).map capU = (s.data.toList.take k).map capU ++ [capU s[k]] := by
  rw [take_snoc s k h, List.map_append]; rfl

end Go.Proofs.YtipgecdfnbldnaaDoor
/-
  What the texts on instructions import.
-/
/-
  Marks and numbers of operands: the walks over mark, hasNumber, and the document's own mark and number.
-/
namespace Go.Proofs.YtipgecdfnbldnaaDoor
open Go.RowKit
set_option linter.unusedVariables false

/-- The mark of an operand. -/
def mrkS (k r n : Int) : ByteArray :=
  if k = 5 then (if r = 5 then ⟨#[40, 73, 88, 43, 100, 41]⟩ else ⟨#[40, 73, 89, 43, 100, 41]⟩) else if k = 6 then ⟨#[110]⟩ else if k = 7 then ⟨#[40, 110, 41]⟩ else if k = 10 then ⟨#[101]⟩ else txtS k r n
def nbB (k : Int) : Bool := decide (k = 5) || decide (k = 6) || decide (k = 7) || decide (k = 10)
theorem mrk_5a (k r n : Int) (h : k = 5) (h1 : r = 5) : mrkS k r n = ⟨#[40, 73, 88, 43, 100, 41]⟩ := by unfold mrkS; rw [if_pos h, if_pos h1]
theorem mrk_5b (k r n : Int) (h : k = 5) (h1 : ¬ r = 5) : mrkS k r n = ⟨#[40, 73, 89, 43, 100, 41]⟩ := by unfold mrkS; rw [if_pos h, if_neg h1]
theorem mrk_6 (r n : Int) : mrkS 6 r n = ⟨#[110]⟩ := rfl
theorem mrk_7 (r n : Int) : mrkS 7 r n = ⟨#[40, 110, 41]⟩ := rfl
theorem mrk_10 (r n : Int) : mrkS 10 r n = ⟨#[101]⟩ := rfl
theorem mrk_o (k r n : Int) (h5 : ¬ k = 5) (h6 : ¬ k = 6) (h7 : ¬ k = 7) (h10 : ¬ k = 10) : mrkS k r n = txtS k r n := by unfold mrkS; rw [if_neg h5, if_neg h6, if_neg h7, if_neg h10]
set_option maxHeartbeats 1000000 in
theorem mark_any (k r n : Int) (w : World) :
    Calls Tryd.prog 26 #[.agg #[.int .i64 k, .int .i64 r, .int .i64 n]] w fun e w' => e = .returned (.string (mrkS k r n)) ∧ Below w.heap.size w w' := by
  have hb : Below w.heap.size w (w.alloc (.cells #[.int .i64 k, .int .i64 r, .int .i64 n] 53)) := (Below.refl _ _).alloc (Nat.le_refl _) _
  have HB := Lib.hid hb
  clear hb
  have TX := Lib.hid (otext_any k r n)
  by_cases h6 : k = 6
  · have HE := Lib.hid (mrk_6 r n)
    subst h6
    go_enter Tryd.func26, Tryd.ntmps26
    go_wp2
    go_ret
    exact ⟨ret_str HE.out.symm, HB.out⟩
  by_cases h7 : k = 7
  · have HE := Lib.hid (mrk_7 r n)
    subst h7
    clear h6
    go_enter Tryd.func26, Tryd.ntmps26
    go_wp2
    go_ret
    exact ⟨ret_str HE.out.symm, HB.out⟩
  by_cases h10 : k = 10
  · have HE := Lib.hid (mrk_10 r n)
    subst h10
    clear h6 h7
    go_enter Tryd.func26, Tryd.ntmps26
    go_wp2
    go_ret
    exact ⟨ret_str HE.out.symm, HB.out⟩
  by_cases h5 : k = 5
  · by_cases hr : r = 5
    · have HE := Lib.hid (mrk_5a k r n h5 hr)
      subst h5 hr
      go_enter Tryd.func26, Tryd.ntmps26
      go_wp2
      go_ret
      exact ⟨ret_str HE.out.symm, HB.out⟩
    · have HE := Lib.hid (mrk_5b k r n h5 hr)
      subst h5
      go_enter Tryd.func26, Tryd.ntmps26
      go_wp2
      go_ret
      exact ⟨ret_str HE.out.symm, HB.out⟩
  · have HE := Lib.hid (mrk_o k r n h5 h6 h7 h10)
    go_enter Tryd.func26, Tryd.ntmps26
    go_wp2_with fail
    refine (TX.out _).mono ?_
    rintro e w1 ⟨rfl, h1⟩
    have B1 := Lib.hid (HB.out.trans (h1.mono (by simp)))
    clear h1
    go_wp2
    go_ret
    exact ⟨ret_str HE.out.symm, B1.out⟩
end Go.Proofs.YtipgecdfnbldnaaDoor
/-
  The walks over Numbers, by both texts; whether rows of numbers are equal.
-/
namespace Go.Proofs.YtipgecdfnbldnaaDoor
open Go.RowKit
set_option linter.unusedVariables false

/-! ### Rows of numbers -/
def i64V (n : Int) : Value := .int .i64 n
theorem info_intD : (Tryd.prog.info? 3).map (fun i => (i.zero, i.size, i.bytes)) = some (some (.int .i64 0), 1, 8) := by kernel_rfl
/-- A row of numbers of the call's own; below the start all is as it was. -/
def OwnI (w wr : World) (v : Value) (xs : List Int) : Prop := wr.ownsRow w.heap.size 3 1 v xs.length (xs.map i64V) ∧ Below w.heap.size w wr
theorem below_row {w w' : World} {n : Nat} {e : TypeId} {s k : Nat} {v : Value} {xs : List Value} (h : w.ownsRow n e s v k xs) (b : Below w.heap.size w w') : w'.ownsRow n e s v k xs :=
  World.ownsRow.kept h (row := none) ⟨b.os, b.tape, b.output, b.size, fun i hi _ => b.block i hi⟩ (by
    cases e : v.ownBlock with
    | none => exact .inl rfl
    | some g => exact .inr (by simp))
theorem OwnI.below {w wr w' : World} {v : Value} {xs : List Int} (h : OwnI w wr v xs) (k : Below wr.heap.size wr w') : OwnI w w' v xs := ⟨below_row h.1 k, h.2.trans (k.mono h.2.size)⟩
theorem OwnI.start (w wr : World) (h : Below w.heap.size w wr) : OwnI w wr (.slice none 0 0) [] := ⟨World.ownsRow_nil _ _ _ _, h⟩
theorem OwnI.ints {w wr : World} {v : Value} {xs : List Int} (h : OwnI w wr v xs) : ∃ A cap, v = .slice A xs.length cap ∧ IntsAt wr A xs ∧ xs.length ≤ cap := by
  rcases h.1.2 with ⟨rfl, h0⟩ | ⟨g, cap, cur, rfl, _, _, hle, _⟩
  · have : xs = [] := List.eq_nil_of_length_eq_zero h0
    subst this
    exact ⟨none, 0, rfl, .inl rfl, Nat.le_refl _⟩
  · refine ⟨_, cap, rfl, .inr ⟨g, 0, rfl, fun j hj => ?_⟩, hle⟩
    rw [Nat.zero_add, h.1.cellAt j (by omega)]
    simp [i64V, List.getElem?_eq_getElem hj]
theorem OwnI.lift {w w1 wr : World} {v : Value} {xs : List Int} (h : OwnI w1 wr v xs) (k : Below w.heap.size w w1) : OwnI w wr v xs := ⟨row_mono h.1 k.size, k.trans (h.2.mono k.size)⟩
/-- 'out = append(out, n)' at a row of numbers of the call's own. -/
theorem wpList_appI {w wr : World} {v : Value} {xs : List Int} (R : OwnI w wr v xs) {ops : Array Oper} {rest : List Oper} {o : Oper} {a : Act} {Q : Exit → Act → World → Prop} (hgd : o.guard = none) (s x : Operand)
    (ho : o.op = .call { callee := .builtin .append, args := #[s, x], argTypes := #[106, 106] }) (hs : a.eval s = v) (hx : a.eval x = .slice (some ⟨wr.heap.size, 0, none⟩) 1 1)
    (y : Int) (hlen : xs.length < 10000)
    (h : ∀ v' w1, OwnI w w1 v' (xs ++ [y]) → wpList Tryd.prog ops Q rest (a.put o.dst v') w1) : wpList Tryd.prog ops Q (o :: rest) a (wr.alloc (.cells #[.int .i64 y] 3)) := by
  obtain ⟨i0, hi, hz0, hz1, hz2⟩ := info_parts info_intD
  have hB := R.2.size
  have hb : Below w.heap.size w (wr.alloc (.cells #[.int .i64 y] 3)) := R.2.alloc R.2.size _
  have hown := R.1.alloc (.cells #[.int .i64 y] 3)
  refine wpList_append_own _ hgd s x 106 ho w.heap.size 3 i0 (.int .i64 0) 1 8 Tryd.underlying106 hi hz0 hz1 hz2 rfl (by decide) v xs.length _ hs hown ⟨wr.heap.size, 0, none⟩ 1 1 [.int .i64 y] hx rfl ?_ ?_ ?_ ?_ ?_ ?_
  · intro j u hj
    match j, hj with
    | 0, hj => simp at hj; subst hj; simp [Addr.add, go_sem]
  · intro u hu; simp at hu; subst hu; rfl
  · unfold maxLen; omega
  · omega
  · simp; omega
  · intro v' w1 hown' hgrow _
    refine h v' w1 ⟨?_, hb.grown hgrow hb.size fun k hk => (hown.lt k hk).1⟩
    rw [List.length_append, List.map_append]
    exact hown'
/-! ### The numbers of an instruction -/
def nbT (t : Tr) : Bool := nbB t.1
def numsL (L : List Tr) : List Int := (L.filter nbT).map fun t => t.2.2
theorem nums_yes (L : List Tr) (k : Nat) (h : k < L.length) (hb : nbT L[k] = true) : numsL (L.take (k + 1)) = numsL (L.take k) ++ [L[k].2.2] := by
  unfold numsL
  rw [List.take_succ_eq_append_getElem h, List.filter_append, List.map_append]
  simp [List.filter_cons, hb]
theorem nums_no (L : List Tr) (k : Nat) (h : k < L.length) (hb : nbT L[k] = false) : numsL (L.take (k + 1)) = numsL (L.take k) := by
  unfold numsL
  rw [List.take_succ_eq_append_getElem h, List.filter_append, List.map_append]
  simp [List.filter_cons, hb]
theorem nums_le (L : List Tr) : (numsL L).length ≤ L.length := by
  unfold numsL
  rw [List.length_map]
  exact List.length_filter_le _ _
theorem nums_take_le (L : List Tr) (k : Nat) : (numsL (L.take k)).length ≤ k := by
  have h1 := nums_le (L.take k)
  have h2 : (L.take k).length ≤ k := by rw [List.length_take]; omega
  omega
/-- What a call returns: numbers in new memory. -/
def RetInts (w : World) (xs : List Int) (e : Ending) (w' : World) : Prop := ∃ v, e = .returned v ∧ OwnI w w' v xs
end Go.Proofs.YtipgecdfnbldnaaDoor
/-
  The walks over Shape with its closure, and over the document's own Shape: the shape of an instruction, or nothing.
-/
namespace Go.Proofs.YtipgecdfnbldnaaDoor
open Go.RowKit
set_option linter.unusedVariables false

theorem txt_le (k r n : Int) : (txtS k r n).size ≤ 60 := by
  cases hv : vldB k r n
  · rw [txt_no k r n hv]; decide
  · have hk := vld_kind k r n hv
    have q : ∀ j : Fin 11, (nmS j.val r).size ≤ 50 := fun j => nmS_le j r
    have q4 : (nmS 4 r).size ≤ 50 := q 4
    have q5 : (nmS 5 r).size ≤ 50 := q 5
    have z1 := offS_le n
    have z2 := offS_le (n + 2)
    have z3 := textS_le n
    have br : ∀ s : ByteArray, (brS s).size = 1 + s.size + 1 := fun s => by unfold brS; rw [ByteArray.size_append, ByteArray.size_append]; rfl
    rw [txt_yes k r n hv]
    rcases hk with rfl | rfl | rfl | rfl | rfl | rfl | rfl | rfl | rfl | rfl
    · show (nmS 1 r).size ≤ _; exact Nat.le_trans (q 1) (by decide)
    · show (nmS 2 r).size ≤ _; exact Nat.le_trans (q 2) (by decide)
    · show (nmS 3 r).size ≤ _; exact Nat.le_trans (q 3) (by decide)
    · show (brS (nmS 4 r)).size ≤ _; rw [br]; omega
    · show (brS (nmS 5 r ++ offS n)).size ≤ _; rw [br, ByteArray.size_append]; omega
    · show (if n < 0 then offS n else textS n).size ≤ _; split <;> omega
    · show (brS (textS n)).size ≤ _; rw [br]; omega
    · show (nmS 8 r).size ≤ _; exact Nat.le_trans (q 8) (by decide)
    · show (nmS 9 r).size ≤ _; exact Nat.le_trans (q 9) (by decide)
    · show (⟨#[36]⟩ ++ offS (n + 2)).size ≤ _; rw [ByteArray.size_append]; show 1 + _ ≤ _; omega
theorem mrk_le (k r n : Int) : (mrkS k r n).size ≤ 60 := by
  unfold mrkS
  split
  · split <;> decide
  · split
    · decide
    · split
      · decide
      · split
        · decide
        · exact txt_le k r n
def mrkT (t : Tr) : ByteArray := mrkS t.1 t.2.1 t.2.2
/-- What stands ahead of mark number k. -/
def sepB (k : Nat) : ByteArray := if k = 0 then ⟨#[32]⟩ else ⟨#[44]⟩
theorem sepB_le (k : Nat) : (sepB k).size = 1 := by unfold sepB; split <;> rfl
/-- The mnemonic and the first marks. -/
def shpK (s : ByteArray) (L : List Tr) : Nat → ByteArray
  | 0 => s
  | k + 1 => shpK s L k ++ (sepB k ++ mrkT (L.getD k (0, 0, 0)))
theorem shpK_le (s : ByteArray) (L : List Tr) : ∀ k, (shpK s L k).size ≤ s.size + k * 61
  | 0 => by show s.size ≤ _; omega
  | k + 1 => by
    have h1 := shpK_le s L k
    have h2 := sepB_le k
    have h3 := mrk_le (L.getD k (0, 0, 0)).1 (L.getD k (0, 0, 0)).2.1 (L.getD k (0, 0, 0)).2.2
    show (shpK s L k ++ (sepB k ++ mrkT _)).size ≤ _
    rw [ByteArray.size_append, ByteArray.size_append]
    unfold mrkT
    omega
theorem shpK_step (s : ByteArray) (L : List Tr) (k : Nat) (h : k < L.length) : shpK s L k ++ (sepB k ++ mrkS L[k].1 L[k].2.1 L[k].2.2) = shpK s L (k + 1) := by
  show _ = shpK s L k ++ (sepB k ++ mrkT (L.getD k (0, 0, 0)))
  rw [List.getD_eq_getElem?_getD, List.getElem?_eq_getElem h]
  rfl
/-- The shape of an instruction, or nothing. -/
def shpS (s : ByteArray) (L : List Tr) : ByteArray := if codeI s L = 0 then shpK s L L.length else ⟨#[]⟩
theorem shp_no (s : ByteArray) (L : List Tr) (h : ¬ codeI s L = 0) : (⟨#[]⟩ : ByteArray) = shpS s L := by unfold shpS; rw [if_neg h]
theorem shp_yes (s : ByteArray) (L : List Tr) (h : codeI s L = 0) : shpK s L L.length = shpS s L := by unfold shpS; rw [if_pos h]
theorem code_short (s : ByteArray) (L : List Tr) (h : codeI s L = 0) : L.length ≤ 3 := by
  unfold codeI at h
  split at h
  · omega
  · split at h
    · omega
    · omega
/-- What the closure leaves: both boxes written, all else as it was. -/
def RetCl (w : World) (bs bb : Nat) (s : ByteArray) (w' : World) : Prop := Boxed w' bs 9 (.string s) ∧ Boxed w' bb 9 (.string ⟨#[44]⟩) ∧ ∀ B, B ≤ bs → B ≤ bb → Below B w w'
attribute [local irreducible] Go.Mixed.wpMix
set_option maxRecDepth 100000 in
set_option maxHeartbeats 4000000 in
theorem closure_any (bs bb : Nat) (sh be : ByteArray) (k r n : Int) (h1 : sh.size ≤ 100000) (h2 : be.size ≤ 1) (hne : bs ≠ bb) (w : World) (X : Boxed w bs 9 (.string sh)) (Y : Boxed w bb 9 (.string be)) :
    Calls Tryd.prog 25 #[.agg #[.int .i64 k, .int .i64 r, .int .i64 n], .pointer (some ⟨bs, 0, none⟩), .pointer (some ⟨bb, 0, none⟩)] w fun e w' => (∃ v, e = .returned v) ∧ RetCl w bs bb (sh ++ (be ++ mrkS k r n)) w' := by
  have hx := X.lt
  have hy := Y.lt
  have hm := mrk_le k r n
  have MK := Lib.hid (mark_any k r n)
  obtain ⟨m, hmm⟩ : ∃ m, mrkS k r n = m := ⟨_, rfl⟩
  rw [hmm] at hm MK ⊢
  have B0 : Hid (Below w.heap.size w (w.alloc (.cells #[.int .i64 k, .int .i64 r, .int .i64 n] 53))) := (Below.refl _ _).alloc (Nat.le_refl _) _
  have X0 := Lib.hid (X.alloc (.cells #[.int .i64 k, .int .i64 r, .int .i64 n] 53))
  have Y0 := Lib.hid (Y.alloc (.cells #[.int .i64 k, .int .i64 r, .int .i64 n] 53))
  have c0 : (w.alloc (.cells #[.int .i64 k, .int .i64 r, .int .i64 n] 53)).cell? ⟨w.heap.size, 0, none⟩ = some (.int .i64 k) := by simp [go_sem]
  have c1 : (w.alloc (.cells #[.int .i64 k, .int .i64 r, .int .i64 n] 53)).cell? ⟨w.heap.size, 1, none⟩ = some (.int .i64 r) := by simp [go_sem]
  have c2 : (w.alloc (.cells #[.int .i64 k, .int .i64 r, .int .i64 n] 53)).cell? ⟨w.heap.size, 2, none⟩ = some (.int .i64 n) := by simp [go_sem]
  have CC : Hid (∀ w', Below (w.alloc (.cells #[.int .i64 k, .int .i64 r, .int .i64 n] 53)).heap.size (w.alloc (.cells #[.int .i64 k, .int .i64 r, .int .i64 n] 53)) w' → Boxed w' bs 9 (.string sh) ∧ Boxed w' bb 9 (.string be) ∧ w'.cell? ⟨w.heap.size, 0, none⟩ = some (.int .i64 k) ∧ w'.cell? ⟨w.heap.size, 1, none⟩ = some (.int .i64 r) ∧ w'.cell? ⟨w.heap.size, 2, none⟩ = some (.int .i64 n)) := fun w' hb =>
    ⟨(hb.block _ X0.out.lt).trans X0.out, (hb.block _ Y0.out.lt).trans Y0.out, (hb.cell (by simp)).trans c0, (hb.cell (by simp)).trans c1, (hb.cell (by simp)).trans c2⟩
  clear X Y c0 c1 c2 X0 Y0 hmm
  go_enter Tryd.func25, Tryd.ntmps25
  go_wp2
  refine Mixed.wp_region_mixed (fun w' => Boxed w' bs 9 (.string sh) ∧ Boxed w' bb 9 (.string be) ∧ w'.cell? ⟨w.heap.size, 0, none⟩ = some (.int .i64 k) ∧ w'.cell? ⟨w.heap.size, 1, none⟩ = some (.int .i64 r) ∧ w'.cell? ⟨w.heap.size, 2, none⟩ = some (.int .i64 n)) 5 [(0, true), (1, true), (2, true), (3, false), (4, true)] (by kernel_rfl) (by kernel_rfl) (CC.out _ (below_drewN _ _ 1)) ?_
  refine Mixed.wpMix_pure rfl (by kernel_rfl) (.string sh) (fun w h => by obtain ⟨h1, h2, h3⟩ := h; have h1 := h1.cell; go_simp; try rfl) ?_
  refine Mixed.wpMix_pure rfl (by kernel_rfl) (.string be) (fun w h => by obtain ⟨h1, h2, h3⟩ := h; have h2 := h2.cell; go_simp; try rfl) ?_
  refine Mixed.wpMix_pure rfl (by kernel_rfl) (.agg #[.int .i64 k, .int .i64 r, .int .i64 n]) (fun w h => by obtain ⟨h1, h2, h3, h4, h5⟩ := h; go_simp; try rfl) ?_
  refine Mixed.wpMix_loudG rfl (by kernel_rfl) ?_
  go_wp2_with fail
  refine (MK.out _).mono ?_
  rintro e w1 ⟨rfl, hb⟩
  have hb2 := (below_drewN _ _ 1).trans hb
  have X2 := CC.out w1 hb2
  have xx := X2
  have x0 := X2.1.cell
  have f0 := X2.1.frozen
  have y0 := X2.2.1.cell
  have g0 := X2.2.1.frozen
  have hne2 := hne.symm
  have F : Hid (RetCl w bs bb (sh ++ (be ++ m)) ((w1.setCell ⟨bs, 0, none⟩ (.string (sh ++ (be ++ m)))).setCell ⟨bb, 0, none⟩ (.string ⟨#[44]⟩))) := by
    have hB : Below w.heap.size w w1 := B0.out.trans (hb2.mono (by simp))
    exact ⟨(X2.1.set _).other hne _, (X2.2.1.other hne2 _).set _, fun B h1 h2 => ((hB.mono (by omega)).setCell (p := ⟨bs, 0, none⟩) h1 _).setCell (p := ⟨bb, 0, none⟩) h2 _⟩
  clear hb hb2 X2 CC B0 MK
  go_wp2
  refine ⟨xx, ?_⟩
  refine Mixed.wpMix_pure rfl (by kernel_rfl) (.string (be ++ m)) (fun w h => by clear h; go_simp; try omega) ?_
  simp only [Mixed.wpMix, List.drop_succ_cons, List.drop_zero]
  clear xx
  go_wp2
  refine bodyPost_end (v := .tuple #[]) ?_ rfl ⟨⟨_, rfl⟩, F.out⟩
  simp [results, Tryd.results25, go_sem]
end Go.Proofs.YtipgecdfnbldnaaDoor
/-
  The walks over Shape and over the document's own Shape: the shape of an instruction, or nothing.
-/
namespace Go.Proofs.YtipgecdfnbldnaaDoor
open Go.RowKit
set_option linter.unusedVariables false

set_option maxRecDepth 100000 in
set_option maxHeartbeats 4000000 in
theorem shape_any (s : ByteArray) (A : Option Addr) (cap : Nat) (L : List Tr) (hs : s.size ≤ 1000) (hL : L.length ≤ 1000) (w : World) (H : OpsP w A L) :
    Calls Tryd.prog 16 #[.agg #[.string s, .slice A L.length cap]] w fun e w' => e = .returned (.string (shpS s L)) ∧ Below w.heap.size w w' := by
  have X := Lib.hid H
  have CK := Lib.hid (check_any s A cap L (by unfold maxLen; omega) hL)
  have NO := Lib.hid (shp_no s L)
  have YES := Lib.hid (shp_yes s L)
  have SL := fun k => Lib.hid (shpK_le s L k)
  have SB := fun k => Lib.hid (sepB_le k)
  have CS := Lib.hid (code_short s L)
  obtain ⟨c, hc⟩ : ∃ c, codeI s L = c := ⟨_, rfl⟩
  rw [hc] at CK NO YES CS
  obtain ⟨n, hn⟩ : ∃ n, L.length = n := ⟨_, rfl⟩
  have HN := Lib.hid hn
  rw [hn] at hL CK YES CS ⊢
  have T0 := Lib.hid (Bx.new w s A n cap 25)
  have B0 : Hid (Below w.heap.size w (w.alloc (.cells #[.string s, .slice A n cap] 25))) := (Below.refl _ _).alloc (Nat.le_refl _) _
  have X0 := Lib.hid (H.below B0.out)
  obtain ⟨t0, t1⟩ := T0.out
  clear H hn hc
  go_enter Tryd.func16, Tryd.ntmps16
  go_wp2_with fail
  refine (CK.out _ X0.out).mono ?_
  rintro e w1 ⟨rfl, h1⟩
  have T1 := Lib.hid (T0.out.all h1)
  have B1 : Hid (Below w.heap.size w w1) := B0.out.trans (h1.mono (by simp))
  clear h1 CK t0 t1 X0 B0 T0
  by_cases hc0 : c = 0
  · subst hc0
    have hn3 := (CS.out rfl)
    obtain ⟨t0, t1⟩ := T1.out
    have BA := Lib.hid (Boxed.new w1 9 (.string s))
    have BC := Lib.hid (BA.out.alloc (.cells #[.string ⟨#[32]⟩] 9))
    have BD := Lib.hid (Boxed.new (w1.alloc (.cells #[.string s] 9)) 9 (.string ⟨#[32]⟩))
    have BB : Hid (Below w.heap.size w ((w1.alloc (.cells #[.string s] 9)).alloc (.cells #[.string ⟨#[32]⟩] 9))) := (B1.out.alloc B1.out.size _).alloc (by have := B1.out.size; simp; omega) _
    have hz := T1.out.lt
    have hz1 : w.heap.size ≠ w1.heap.size := by omega
    have hz2 : w.heap.size ≠ w1.heap.size + 1 := by omega
    have HZ := Lib.hid hz
    go_wp2
    clear hz hz1 hz2 t0 t1
    have hcl : ∃ bs bb, w1.heap.size = bs ∧ w1.heap.size + 1 = bb ∧ bs ≠ bb ∧ w.heap.size ≤ bs ∧ w.heap.size ≤ bb := ⟨_, _, rfl, rfl, by omega, by have := HZ.out; omega, by have := HZ.out; omega⟩
    obtain ⟨bs, bb, hbs, hbb, hne, hls, hlb⟩ := hcl
    have hbd : (w1.alloc (.cells #[.string s] 9)).heap.size = bb := by rw [← hbb]; simp
    have BC' : Hid (Boxed ((w1.alloc (.cells #[.string s] 9)).alloc (.cells #[.string ⟨#[32]⟩] 9)) bs 9 (.string s)) := hbs ▸ BC.out
    have BD' : Hid (Boxed ((w1.alloc (.cells #[.string s] 9)).alloc (.cells #[.string ⟨#[32]⟩] 9)) bb 9 (.string ⟨#[32]⟩)) := hbd ▸ BD.out
    rw [hbb, hbs]
    clear hbd BA BC BD T1 B1
    obtain ⟨w2, hw2⟩ : ∃ w2, (w1.alloc (.cells #[.string s] 9)).alloc (.cells #[.string ⟨#[32]⟩] 9) = w2 := ⟨_, rfl⟩
    rw [hw2] at BC' BD' BB ⊢
    have HNE := Lib.hid hne
    have HLS := Lib.hid hls
    have HLB := Lib.hid hlb
    clear hw2 hbs hbb HZ hne hls hlb
    go_loopw [17] (fun i wr => ∃ j : Nat, j ≤ n ∧ i = .int .i64 j ∧ Hid (Boxed wr bs 9 (.string (shpK s L j))) ∧ Hid (Boxed wr bb 9 (.string (sepB j))) ∧ Hid (Below w.heap.size w wr)) (fun i _ => n - (intOf i).toNat)
    case atStart => exact ⟨0, Nat.zero_le _, rfl, BC'.out, BD'.out, BB.out⟩
    case round =>
      clear BC' BD' BB
      obtain ⟨j, hj, rfl, R, S, B⟩ := hrel
      by_cases hlt : j < n
      · have hj1 : j < L.length := by have := HN.out; omega
        obtain ⟨b1, o1, hA1, -, p0, p1, p2⟩ := (X.out.below B.out).at_ hj1
        subst hA1
        have ST := Lib.hid (shpK_step s L j hj1)
        have h61 := (SL j).out
        obtain ⟨⟨y0, y1, y2⟩, hy⟩ : ∃ y, L[j] = y := ⟨_, rfl⟩
        rw [hy] at p0 p1 p2 ST
        simp only at p0 p1 p2 ST
        have RA := Lib.hid (R.out.alloc (.cells #[.int .i64 y0, .int .i64 y1, .int .i64 y2] 53))
        have SA := Lib.hid (S.out.alloc (.cells #[.int .i64 y0, .int .i64 y1, .int .i64 y2] 53))
        have CL := Lib.hid (closure_any bs bb (shpK s L j) (sepB j) y0 y1 y2 (by omega) (by rw [(SB j).out]; omega) HNE.out _ RA.out SA.out)
        rw [ST.out] at CL
        have BA : Hid (Below w.heap.size w (wr.alloc (.cells #[.int .i64 y0, .int .i64 y1, .int .i64 y2] 53))) := B.out.alloc B.out.size _
        clear hy hj1 ST h61 R S B RA SA
        go_wp2_with fail
        refine CL.out.mono ?_
        rintro e w3 ⟨⟨v, rfl⟩, h3, h4, h5⟩
        have R3 := Lib.hid h3
        have S3 : Hid (Boxed w3 bb 9 (.string (sepB (j + 1)))) := h4
        have B3 := Lib.hid (BA.out.trans (h5 w.heap.size HLS.out HLB.out))
        clear h3 h4 h5 CL BA
        go_wp2
        go_roundw
        case rel => exact ⟨j + 1, by omega, by go_num, R3.out, S3.out, B3.out⟩
        case measure => simp [intOf]; omega
      · have hjn : j = n := by omega
        subst hjn
        have E := Lib.hid (YES.out trivial)
        have c0 := R.out.cell
        go_wp2
        go_ret
        exact ⟨ret_str E.out, B.out⟩
  · have hc1 : (c == 0) = false := beq_eq_false_iff_ne.2 hc0
    have E := Lib.hid (NO.out hc0)
    go_wp2
    go_ret
    exact ⟨ret_str E.out, B1.out⟩
theorem shpK_step' (s : ByteArray) (L : List Tr) (k : Nat) (h : k < L.length) : shpK s L k ++ sepB k ++ mrkS L[k].1 L[k].2.1 L[k].2.2 = shpK s L (k + 1) := by
  rw [ByteArray.append_assoc]
  exact shpK_step s L k h
end Go.Proofs.YtipgecdfnbldnaaDoor
