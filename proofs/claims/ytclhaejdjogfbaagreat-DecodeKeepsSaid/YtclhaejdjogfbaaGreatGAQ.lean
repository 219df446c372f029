/-
  SeVb, TbV, EnO, EnA, DeA, DeB, DeE, DeD, TbSm, TbY, RsA, DfB, DfD, FoA, DgA, EnB, SeRa, SeRb.
-/
import Derived.Test.YtclhaejdjogfbaaGreatGAB
import Derived.Test.YtclhaejdjogfbaaGreatMSeN
import Derived.Test.YtclhaejdjogfbaaGreatGAI
import Derived.Test.YtclhaejdjogfbaaGreatGAA
import Derived.Test.YtclhaejdjogfbaaGreatGAO
import Derived.Deep.DeepCutAuto
import Derived.Deep.Cut
import Derived.StillTail
import Derived.StillTailTactics
import Derived.Deep.RegionHeld3
import Derived.RegionTactic
import Derived.Test.YtclhaejdjogfbaaGreatGAC
import Derived.Test.YtclhaejdjogfbaaGreatGAE
import Derived.Test.YtclhaejdjogfbaaGreatGAG
set_option linter.all false
set_option maxRecDepth 100000
set_option maxHeartbeats 4000000
namespace Go.Proofs.YtclhaejdjogfbaaGreat
open Go.RowKit
end Go.Proofs.YtclhaejdjogfbaaGreat
namespace Go.Proofs.YtclhaejdjogfbaaGreat
open Go.RowKit Go.Shelf
attribute [local go_sem] Oper.semAt_some
def letN (c : UInt8) : Nat := if c = 100 ∨ c = 101 ∨ c = 110 then 1 else if c = 119 then 2 else 0
def sumN (ex : Str) (k : Nat) : Nat := ((ex.take k).map letN).sum
theorem sumN_succ (ex : Str) (k : Nat) (h : k < ex.length) : sumN ex (k + 1) = sumN ex k + letN ex[k] := by
  unfold sumN
  rw [List.take_succ_eq_append_getElem h, List.map_append, List.sum_append]
  simp
theorem letN_le (c : UInt8) : letN c ≤ 2 := by
  unfold letN
  split
  · omega
  · split <;> omega
theorem sumN_le (ex : Str) : ∀ k, k ≤ ex.length → sumN ex k ≤ 2 * k
  | 0, _ => by unfold sumN; simp
  | k + 1, h => by
    rw [sumN_succ ex k (by omega)]
    have h1 := sumN_le ex k (by omega)
    have h2 := letN_le ex[k]
    omega
def sizeT (page : Int) (ex : Str) : Nat := (preS page).length + 1 + sumN ex ex.length
theorem pre_le (page : Int) : (preS page).length ≤ 2 := by
  unfold preS
  repeat' split
  all_goals simp
theorem size_any (page op : Int) (m : Str) (A : Option Addr) (n cap : Nat) (ex : Str) (hx : ex.length ≤ 1000) (al : Bool) (w : World) :
    Calls Tryz.prog 67 #[enV page op m (.slice A n cap) ex al] w fun e w' => e = .returned (.int .i64 (sizeT page ex : Nat)) ∧ Below w.heap.size w w' := by
  unfold enV
  obtain ⟨s, hs⟩ : ∃ s, sB ex = s := ⟨_, rfl⟩
  have hz : s.size = ex.length := by rw [← hs, sB_size]
  have hat : ∀ k (h : k < s.size) (h' : k < ex.length), s[k] = ex[k] := fun k h h' => by subst hs; exact sB_at ex k h h'
  have HAT := Lib.hid hat
  have HX := Lib.hid hx
  obtain ⟨l, hl⟩ : ∃ l, ex.length = l := ⟨_, rfl⟩
  have HL := Lib.hid hl
  rw [hl] at hz hx
  have hcv := fun (w : World) => run_bytes_of_string (P := Tryz.prog) w 9 22 5 s Tryz.underlying9 Tryz.underlying22 Tryz.underlying5
  rw [hs]
  clear hs hat hl
  obtain ⟨w0, hw0⟩ : ∃ w0, w.alloc (.cells #[.int .i64 page, .int .u8 op, .string (sB m), .slice A n cap, .string s, .bool al] 79) = w0 := ⟨_, rfl⟩
  obtain ⟨b, hb⟩ : ∃ b, w.heap.size = b := ⟨_, rfl⟩
  have B0 : Hid (Below b w w0) := by rw [← hw0, ← hb]; exact (Below.refl _ _).alloc (Nat.le_refl _) _
  have Z0 : w0.heap.size = b + 1 := by rw [← hw0, ← hb]; simp
  have c0 : w0.heap[b]? = some (.cells #[.int .i64 page, .int .u8 op, .string (sB m), .slice A n cap, .string s, .bool al] 79 (0, 0)) := by rw [← hw0, ← hb]; exact World.alloc_heap_new w _
  have C0 := Lib.hid c0
  have hpp := prefixes_any page w0
  have k0 := Lib.cell_of_heap c0 0
  have HB := Lib.hid hb
  have HPL := Lib.hid (pre_le page)
  obtain ⟨pl, hpl⟩ : ∃ p, (preS page).length = p := ⟨_, rfl⟩
  have HP := Lib.hid hpl
  clear c0
  go_enter Tryz.func67, Tryz.ntmps67
  go_wp2_with fail
  refine hpp.mono ?_
  rintro e w1 ⟨v, rfl, hO, hb1⟩
  obtain ⟨A1, cap1, rfl, -⟩ := hO.bytes
  rw [hpl]
  have B1 : Hid (Below b w w1) := B0.out.trans (hb1.mono (by omega))
  have c1 := (hb1.block b (by omega)).trans C0.out
  have C1 := Lib.hid c1
  have k4 := Lib.cell_of_heap c1 4
  have hp2 : pl ≤ 2 := by rw [← hpl]; exact HPL.out
  have S := Lib.hid (rowB_start w1 s (grownCap w1 s.size 0 5) 5)
  have B2 : Hid (Below b w (w1.alloc (.cells (bytesRow s (grownCap w1 s.size 0 5)) 5 ((bytesRow s (grownCap w1 s.size 0 5)).size, (bytesRow s (grownCap w1 s.size 0 5)).size + 1))).drew) :=
    (B1.out.alloc (by have := hb1.size; omega) _).drew
  rw [hz] at S B2
  obtain ⟨q, hq⟩ : ∃ q, w1.heap.size = q := ⟨_, rfl⟩
  rw [hq] at S
  clear hpp hO hb1 c1 k0 hw0 B0 C0 hpl
  go_wp2
  clear hcv
  go_loopw [15, 3] (fun i o wr => ∃ k : Nat, k ≤ l ∧ i = .int .i64 k ∧ o = .int .i64 ((pl + 1 + sumN ex k : Nat) : Int) ∧ Hid (RowB wr s q) ∧ Hid (Below b w wr)) (fun i _ _ => l - (intOf i).toNat)
  case atStart => exact ⟨0, Nat.zero_le _, rfl, rfl, S.out, B2.out⟩
  case round =>
    clear S B2
    obtain ⟨k, hk, rfl, rfl, R, B⟩ := hrel
    by_cases hlt : k < l
    · have hlt' : k < s.size := by omega
      have hlt2 : k < ex.length := by rw [HL.out]; exact hlt
      have g1 : wr.cell? ⟨q, k, none⟩ = some (.int .u8 (s[k].toNat : Int)) := R.out k hlt'
      rw [HAT.out k hlt' hlt2] at g1
      have SS := sumN_succ ex k hlt2
      have SL := sumN_le ex k (by omega)
      obtain ⟨c, hc⟩ : ∃ c, ex[k] = c := ⟨_, rfl⟩
      rw [hc] at g1 SS
      obtain ⟨t, ht⟩ : ∃ t, sumN ex k = t := ⟨_, rfl⟩
      rw [ht] at SS SL ⊢
      have SS := Lib.hid SS
      clear hc ht
      have hk1 : k ≤ 1000 := by omega
      go_wp2
      · have e : c = 100 := of_decide_eq_true (u8_is c 100 (by decide) true (by assumption))
        have LN : letN c = 1 := by rw [e]; rfl
        go_roundw
        case rel => exact ⟨k + 1, by omega, by go_num, by rw [SS.out, LN]; go_num, R, B⟩
        case measure => simp [intOf]; omega
      · have e : c = 101 := of_decide_eq_true (u8_is c 101 (by decide) true (by assumption))
        have LN : letN c = 1 := by rw [e]; rfl
        go_roundw
        case rel => exact ⟨k + 1, by omega, by go_num, by rw [SS.out, LN]; go_num, R, B⟩
        case measure => simp [intOf]; omega
      · have e : c = 110 := of_decide_eq_true (u8_is c 110 (by decide) true (by assumption))
        have LN : letN c = 1 := by rw [e]; rfl
        go_roundw
        case rel => exact ⟨k + 1, by omega, by go_num, by rw [SS.out, LN]; go_num, R, B⟩
        case measure => simp [intOf]; omega
      · have e : c = 119 := of_decide_eq_true (u8_is c 119 (by decide) true (by assumption))
        have LN : letN c = 2 := by rw [e]; rfl
        go_roundw
        case rel => exact ⟨k + 1, by omega, by go_num, by rw [SS.out, LN]; go_num, R, B⟩
        case measure => simp [intOf]; omega
      · have a1 : ¬ c = 100 := of_decide_eq_false (u8_is c 100 (by decide) false (by assumption))
        have a2 : ¬ c = 101 := of_decide_eq_false (u8_is c 101 (by decide) false (by assumption))
        have a3 : ¬ c = 110 := of_decide_eq_false (u8_is c 110 (by decide) false (by assumption))
        have a4 : ¬ c = 119 := of_decide_eq_false (u8_is c 119 (by decide) false (by assumption))
        have LN : letN c = 0 := by unfold letN; rw [if_neg (by rintro (h | h | h) <;> contradiction), if_neg a4]
        go_roundw
        case rel => exact ⟨k + 1, by omega, by go_num, by rw [SS.out, LN]; go_num, R, B⟩
        case measure => simp [intOf]; omega
    · obtain rfl : k = l := by omega
      have T : Hid (sizeT page ex = pl + 1 + sumN ex k) := by show sizeT page ex = _; unfold sizeT; rw [HP.out, HL.out]
      go_wp2
      go_ret
      exact ⟨by rw [T.out]; rfl, by rw [HB.out]; exact B.out⟩
end Go.Proofs.YtclhaejdjogfbaaGreat
namespace Go.Proofs.YtclhaejdjogfbaaGreat
open Go.RowKit
def byteI (n : Int) : UInt8 := UInt8.ofNat (n % 256).toNat
def letB (d n : Int) (c : UInt8) : Str := if c = 100 then [byteI d] else if c = 119 then [byteI n, byteI (n / 256)] else [byteI n]
def encB (page op : Int) (ex : Str) (d n : Int) : Str := if 5 ≤ page then preS page ++ [byteI d, byteI op] else preS page ++ byteI op :: ex.flatMap (letB d n)
end Go.Proofs.YtclhaejdjogfbaaGreat
namespace Go.Proofs.YtclhaejdjogfbaaGreat
open Go.RowKit
def exB (g : Int) (n : Nat) (ex : Str) : Bool :=
  (ex == [] || ex == [100] || ex == [101] || ex == [110] || ex == [119] || ex == [100, 110]) && (decide (g < 5) || ex == [100]) &&
  (g != 0 || (n != 203 && n != 221 && n != 237 && n != 253)) && ((g != 3 && g != 4) || n != 203)
def exN (g n : Nat) : Bool := match ratT (g : Int) n with
  | some x => exB (g : Int) n x.2.2.1
  | none => true
theorem ex_k : ∀ g : Fin 7, ∀ n : Fin 256, exN g.val n.val = true := by decide +kernel
theorem ex_of {page : Int} {n : Nat} (hn : n < 256) {x : En} (h : ratT page n = some x) : exB page n x.2.2.1 = true ∧ 0 ≤ page ∧ page ≤ 6 := by
  by_cases hp : 0 ≤ page ∧ page ≤ 6
  · obtain ⟨g, rfl⟩ : ∃ g : Nat, page = (g : Int) := ⟨page.toNat, by omega⟩
    have h1 := ex_k ⟨g, by omega⟩ ⟨n, hn⟩
    unfold exN at h1
    rw [h] at h1
    exact ⟨h1, hp⟩
  · rw [ratT_no hp] at h
    cases h
structure ExP (g : Int) (n : Nat) (ex : Str) : Prop where
  lst : ex = [] ∨ ex = [100] ∨ ex = [101] ∨ ex = [110] ∨ ex = [119] ∨ ex = [100, 110]
  hi : 5 ≤ g → ex = [100]
  main : g = 0 → n ≠ 203 ∧ n ≠ 221 ∧ n ≠ 237 ∧ n ≠ 253
  ind : g = 3 ∨ g = 4 → n ≠ 203
  pg : 0 ≤ g ∧ g ≤ 6
theorem exP_of {page : Int} {n : Nat} (hn : n < 256) {x : En} (h : ratT page n = some x) : ExP page n x.2.2.1 := by
  obtain ⟨h1, h2⟩ := ex_of hn h
  unfold exB at h1
  simp only [Bool.and_eq_true, Bool.or_eq_true, beq_iff_eq, bne_iff_ne, decide_eq_true_eq, ne_eq] at h1
  obtain ⟨⟨⟨a, b⟩, c⟩, d⟩ := h1
  refine ⟨?_, fun h => ?_, fun h => ?_, fun h => ?_, h2⟩
  · rcases a with ((((a | a) | a) | a) | a) | a
    · exact .inl a
    · exact .inr (.inl a)
    · exact .inr (.inr (.inl a))
    · exact .inr (.inr (.inr (.inl a)))
    · exact .inr (.inr (.inr (.inr (.inl a))))
    · exact .inr (.inr (.inr (.inr (.inr a))))
  · rcases b with b | b
    · omega
    · exact b
  · rcases c with c | c
    · exact absurd h c
    · exact ⟨c.1.1.1, c.1.1.2, c.1.2, c.2⟩
  · rcases d with d | d
    · rcases h with h | h
      · exact absurd h d.1
      · exact absurd h d.2
    · exact d
def numsIn (ex : Str) (d n : Int) : Prop :=
  (ex = [] → d = 0 ∧ n = 0) ∧ (ex = [100] → -128 ≤ d ∧ d ≤ 127 ∧ n = 0) ∧ (ex = [101] → d = 0 ∧ -128 ≤ n ∧ n ≤ 127) ∧ (ex = [110] → d = 0 ∧ 0 ≤ n ∧ n ≤ 255) ∧ (ex = [119] → d = 0 ∧ 0 ≤ n ∧ n ≤ 65535) ∧ (ex = [100, 110] → -128 ≤ d ∧ d ≤ 127 ∧ 0 ≤ n ∧ n ≤ 255)
def hdB : Str → Option (Int × UInt8 × Str)
  | [] => none
  | b :: r =>
    if b = 203 then (match r with | o :: t => some (1, o, t) | [] => none)
    else if b = 237 then (match r with | o :: t => some (2, o, t) | [] => none)
    else if b = 221 then (match r with | o :: t => if o = 203 then (match t with | x :: y :: u => some (5, y, x :: u) | _ => none) else some (3, o, t) | [] => none)
    else if b = 253 then (match r with | o :: t => if o = 203 then (match t with | x :: y :: u => some (6, y, x :: u) | _ => none) else some (4, o, t) | [] => none)
    else some (0, b, r)
theorem enc_len {k : Ke} (hk : InTab k) (d n : Int) : (encB k.1 k.2.1 k.2.2.2.2.1 d n).length = sizeT k.1 k.2.2.2.2.1 ∧ 1 ≤ sizeT k.1 k.2.2.2.2.1 ∧ sizeT k.1 k.2.2.2.2.1 ≤ 4 := by
  obtain ⟨g, o, m, L, ex, al⟩ := k
  obtain ⟨i, hi, e1, e2⟩ := hk
  have hx := exP_of hi e2
  simp only at hx e1 ⊢
  subst e1
  obtain ⟨h0, h6⟩ := hx.pg
  have hsz : 1 ≤ sizeT g ex ∧ sizeT g ex ≤ 4 := by
    by_cases h5 : 5 ≤ g
    · rw [hx.hi h5]
      rcases (by omega : g = 5 ∨ g = 6) with rfl | rfl <;> decide
    · rcases (by omega : g = 0 ∨ g = 1 ∨ g = 2 ∨ g = 3 ∨ g = 4) with rfl | rfl | rfl | rfl | rfl <;> rcases hx.lst with rfl | rfl | rfl | rfl | rfl | rfl <;> decide
  refine ⟨?_, hsz⟩
  unfold encB sizeT
  by_cases h5 : 5 ≤ g
  · rw [if_pos h5, hx.hi h5]
    rcases (by omega : g = 5 ∨ g = 6) with rfl | rfl <;> rfl
  · rw [if_neg h5, List.length_append]
    rcases hx.lst with rfl | rfl | rfl | rfl | rfl | rfl <;> rfl
end Go.Proofs.YtclhaejdjogfbaaGreat
namespace Go.Proofs.YtclhaejdjogfbaaGreat
open Go.RowKit
def sgB (c : UInt8) : Int := sgnI (c.toNat : Int)
def numB (ex : Str) (t : Str) : Int × Int :=
  if ex = [100] then (sgB (t.getD 0 0), 0) else if ex = [101] then (0, sgB (t.getD 0 0)) else if ex = [110] then (0, ((t.getD 0 0).toNat : Int)) else
  if ex = [119] then (0, ((t.getD 0 0).toNat : Int) + 256 * ((t.getD 1 0).toNat : Int)) else if ex = [100, 110] then (sgB (t.getD 0 0), ((t.getD 1 0).toNat : Int)) else (0, 0)
theorem num_0 (t : Str) : numB [] t = (0, 0) := by unfold numB; rw [if_neg (by decide), if_neg (by decide), if_neg (by decide), if_neg (by decide), if_neg (by decide)]
theorem num_d (t : Str) : numB [100] t = (sgB (t.getD 0 0), 0) := by unfold numB; rw [if_pos rfl]
theorem num_e (t : Str) : numB [101] t = (0, sgB (t.getD 0 0)) := by unfold numB; rw [if_neg (by decide), if_pos rfl]
theorem num_n (t : Str) : numB [110] t = (0, ((t.getD 0 0).toNat : Int)) := by unfold numB; rw [if_neg (by decide), if_neg (by decide), if_pos rfl]
theorem num_w (t : Str) : numB [119] t = (0, ((t.getD 0 0).toNat : Int) + 256 * ((t.getD 1 0).toNat : Int)) := by unfold numB; rw [if_neg (by decide), if_neg (by decide), if_neg (by decide), if_pos rfl]
theorem num_dn (t : Str) : numB [100, 110] t = (sgB (t.getD 0 0), ((t.getD 1 0).toNat : Int)) := by unfold numB; rw [if_neg (by decide), if_neg (by decide), if_neg (by decide), if_neg (by decide), if_pos rfl]
structure Ite where
  kind : Int
  raw : Str
  m : Str
  C : List Tr
  al : Bool
deriving DecidableEq
def iteO (kind : Int) (raw : Str) : Ite := ⟨kind, raw, [], [], false⟩
def itR (b : Str) : Ite := match hdB b with
  | none => iteO 4 b
  | some (p, o, t) => match ratT p o.toNat with
    | none => if rkindT p o.toNat = 0 then iteO 2 (b.take 1) else iteO 3 (b.take 2)
    | some x => if b.length < sizeT p x.2.2.1 then iteO 4 b else ⟨1, b.take (sizeT p x.2.2.1), x.1, (fillV x.2.2.1 x.2.1 (numB x.2.2.1 t).1 (numB x.2.2.1 t).2).getD [], x.2.2.2⟩
theorem sgB_rng (c : UInt8) : -128 ≤ sgB c ∧ sgB c ≤ 127 := by
  have := c.toNat_lt
  unfold sgB sgnI
  split <;> omega
theorem numB_in {g : Int} {i : Nat} {ex : Str} (hx : ExP g i ex) (t : Str) : numsIn ex (numB ex t).1 (numB ex t).2 := by
  have h0 := sgB_rng (t.getD 0 0)
  have h1 := (t.getD 0 0).toNat_lt
  have h2 := (t.getD 1 0).toNat_lt
  rcases hx.lst with rfl | rfl | rfl | rfl | rfl | rfl
  · rw [num_0]; exact ⟨fun _ => ⟨rfl, rfl⟩, by simp, by simp, by simp, by simp, by simp⟩
  · rw [num_d]; exact ⟨by simp, fun _ => by refine ⟨?_, ?_, ?_⟩ <;> simp only <;> omega, by simp, by simp, by simp, by simp⟩
  · rw [num_e]; exact ⟨by simp, by simp, fun _ => by refine ⟨?_, ?_, ?_⟩ <;> simp only <;> omega, by simp, by simp, by simp⟩
  · rw [num_n]; exact ⟨by simp, by simp, by simp, fun _ => by refine ⟨?_, ?_, ?_⟩ <;> simp only <;> omega, by simp, by simp⟩
  · rw [num_w]; exact ⟨by simp, by simp, by simp, by simp, fun _ => by refine ⟨?_, ?_, ?_⟩ <;> simp only <;> omega, by simp⟩
  · rw [num_dn]; exact ⟨by simp, by simp, by simp, by simp, by simp, fun _ => by refine ⟨?_, ?_, ?_, ?_⟩ <;> simp only <;> omega⟩
def plcB (L : List Tr) (ex : Str) : Bool := (!ex.contains 100 || (atV (varsV ex).1.1 L).isSome) && (!(ex.contains 101 || ex.contains 110 || ex.contains 119) || (atV (varsV ex).2.1 L).isSome)
def plcN (g n : Nat) : Bool := match ratT (g : Int) n with
  | some x => plcB x.2.1 x.2.2.1
  | none => true
theorem plc_k : ∀ g : Fin 7, ∀ n : Fin 256, plcN g.val n.val = true := by decide +kernel
theorem plc_of {page : Int} {n : Nat} (hn : n < 256) {x : En} (h : ratT page n = some x) : plcB x.2.1 x.2.2.1 = true := by
  obtain ⟨h1, h2⟩ := (exP_of hn h).pg
  obtain ⟨g, rfl⟩ : ∃ g : Nat, page = (g : Int) := ⟨page.toNat, by omega⟩
  have h3 := plc_k ⟨g, by omega⟩ ⟨n, hn⟩
  unfold plcN at h3
  rw [h] at h3
  exact h3
theorem put_ok {v : Vr} {L : List Tr} {n : Int} (h : (atV v.1 L).isSome = true ∧ v.2.1 ≤ n ∧ n ≤ v.2.2 ∨ n = 0 ∧ v.2.1 ≤ 0 ∧ 0 ≤ v.2.2) : putB v L n = true := by
  unfold putB
  cases ha : atV v.1 L with
  | none =>
    rw [ha] at h
    rcases h with ⟨h, -⟩ | ⟨rfl, -⟩
    · cases h
    · simp
  | some k =>
    simp only
    unfold inV
    rcases h with ⟨-, h⟩ | ⟨rfl, h⟩ <;> simp [h]
theorem fill_in {g : Int} {i : Nat} {ex : Str} (hx : ExP g i ex) {L : List Tr} (hp : plcB L ex = true) {d n : Int} (h : numsIn ex d n) : ∃ C, fillV ex L d n = some C := by
  obtain ⟨a0, a1, a2, a3, a4, a5⟩ := h
  have key : putB (varsV ex).1 L d = true ∧ putB (varsV ex).2 L n = true := by
    unfold plcB at hp
    rcases hx.lst with rfl | rfl | rfl | rfl | rfl | rfl
    · obtain ⟨rfl, rfl⟩ := a0 rfl
      exact ⟨put_ok (.inr ⟨rfl, by decide⟩), put_ok (.inr ⟨rfl, by decide⟩)⟩
    · obtain ⟨c1, c2, rfl⟩ := a1 rfl
      exact ⟨put_ok (.inl ⟨by simpa using hp, c1, c2⟩), put_ok (.inr ⟨rfl, by decide⟩)⟩
    · obtain ⟨rfl, c1, c2⟩ := a2 rfl
      exact ⟨put_ok (.inr ⟨rfl, by decide⟩), put_ok (.inl ⟨by simpa using hp, c1, c2⟩)⟩
    · obtain ⟨rfl, c1, c2⟩ := a3 rfl
      exact ⟨put_ok (.inr ⟨rfl, by decide⟩), put_ok (.inl ⟨by simpa using hp, c1, c2⟩)⟩
    · obtain ⟨rfl, c1, c2⟩ := a4 rfl
      exact ⟨put_ok (.inr ⟨rfl, by decide⟩), put_ok (.inl ⟨by simpa using hp, c1, c2⟩)⟩
    · obtain ⟨c1, c2, c3, c4⟩ := a5 rfl
      have hp2 : (atV (varsV [100, 110]).1.1 L).isSome = true ∧ (atV (varsV [100, 110]).2.1 L).isSome = true := by simpa using hp
      exact ⟨put_ok (.inl ⟨hp2.1, c1, c2⟩), put_ok (.inl ⟨hp2.2, c3, c4⟩)⟩
  unfold fillV
  rw [putB_shape (varsV ex).2 (putL_shape (varsV ex).1.1 L d) n]
  simp [key.1, key.2]
end Go.Proofs.YtclhaejdjogfbaaGreat
namespace Go.Proofs.YtclhaejdjogfbaaGreat
open Go.RowKit
theorem hd_inv {b : Str} {p : Int} {o : UInt8} {t : Str} (h : hdB b = some (p, o, t)) : (0 ≤ p ∧ p ≤ 6) ∧ ((¬ 5 ≤ p ∧ b = preS p ++ o :: t) ∨ (5 ≤ p ∧ ∃ x u, t = x :: u ∧ b = preS p ++ x :: o :: u)) := by
  cases b with
  | nil => cases h
  | cons c r =>
    simp only [hdB] at h
    split at h
    · rename_i hc
      subst hc
      cases r with
      | nil => cases h
      | cons y u => simp only [Option.some.injEq, Prod.mk.injEq] at h; obtain ⟨rfl, rfl, rfl⟩ := h; exact ⟨by omega, .inl ⟨by omega, rfl⟩⟩
    · split at h
      · rename_i hc
        subst hc
        cases r with
        | nil => cases h
        | cons y u => simp only [Option.some.injEq, Prod.mk.injEq] at h; obtain ⟨rfl, rfl, rfl⟩ := h; exact ⟨by omega, .inl ⟨by omega, rfl⟩⟩
      · split at h
        · rename_i hc
          subst hc
          cases r with
          | nil => cases h
          | cons y u =>
            simp only at h
            split at h
            · rename_i hy
              subst hy
              match u, h with
              | [], h => cases h
              | [_], h => cases h
              | x :: z :: v, h => simp only [Option.some.injEq, Prod.mk.injEq] at h; obtain ⟨rfl, rfl, rfl⟩ := h; exact ⟨by omega, .inr ⟨by omega, x, v, rfl, rfl⟩⟩
            · simp only [Option.some.injEq, Prod.mk.injEq] at h; obtain ⟨rfl, rfl, rfl⟩ := h; exact ⟨by omega, .inl ⟨by omega, rfl⟩⟩
        · split at h
          · rename_i hc
            subst hc
            cases r with
            | nil => cases h
            | cons y u =>
              simp only at h
              split at h
              · rename_i hy
                subst hy
                match u, h with
                | [], h => cases h
                | [_], h => cases h
                | x :: z :: v, h => simp only [Option.some.injEq, Prod.mk.injEq] at h; obtain ⟨rfl, rfl, rfl⟩ := h; exact ⟨by omega, .inr ⟨by omega, x, v, rfl, rfl⟩⟩
              · simp only [Option.some.injEq, Prod.mk.injEq] at h; obtain ⟨rfl, rfl, rfl⟩ := h; exact ⟨by omega, .inl ⟨by omega, rfl⟩⟩
          · simp only [Option.some.injEq, Prod.mk.injEq] at h; obtain ⟨rfl, rfl, rfl⟩ := h; exact ⟨by omega, .inl ⟨by omega, rfl⟩⟩
end Go.Proofs.YtclhaejdjogfbaaGreat
namespace Go.Proofs.YtclhaejdjogfbaaGreat
open Go.RowKit
def pgA : Str → Int × Nat
  | [] => (0, 0)
  | c :: r => if c = 203 then (1, 1) else if c = 237 then (2, 1) else if c = 221 then (if r.head? = some 203 then (5, 3) else (3, 1)) else if c = 253 then (if r.head? = some 203 then (6, 3) else (4, 1)) else (0, 0)
def nxA (b : Str) : Nat := if 5 ≤ (pgA b).1 then 2 else (pgA b).2 + 1
theorem pg_none {b : Str} (h : b.length ≤ (pgA b).2) : hdB b = none := by
  cases b with
  | nil => rfl
  | cons c r =>
    simp only [pgA, hdB, List.length_cons] at h ⊢
    split
    · rw [if_pos ‹_›] at h
      cases r with
      | nil => rfl
      | cons y u => simp at h
    · rw [if_neg ‹_›] at h
      split
      · rw [if_pos ‹_›] at h
        cases r with
        | nil => rfl
        | cons y u => simp at h
      · rw [if_neg ‹_›] at h
        split
        · rw [if_pos ‹_›] at h
          cases r with
          | nil => rfl
          | cons y u =>
            simp only [List.head?_cons, Option.some.injEq] at h ⊢
            split
            · rw [if_pos ‹_›] at h
              match u, h with
              | [], h => rfl
              | [x], h => rfl
              | x :: z :: v, h => simp at h
            · rw [if_neg ‹_›] at h
              simp at h
        · rw [if_neg ‹_›] at h
          split
          · rw [if_pos ‹_›] at h
            cases r with
            | nil => rfl
            | cons y u =>
              simp only [List.head?_cons, Option.some.injEq] at h ⊢
              split
              · rw [if_pos ‹_›] at h
                match u, h with
                | [], h => rfl
                | [x], h => rfl
                | x :: z :: v, h => simp at h
              · rw [if_neg ‹_›] at h
                simp at h
          · rw [if_neg ‹_›] at h
            simp at h
theorem pg_some {b : Str} (h : (pgA b).2 < b.length) : hdB b = some ((pgA b).1, b[(pgA b).2], if 5 ≤ (pgA b).1 then b.getD 2 0 :: b.drop 4 else b.drop ((pgA b).2 + 1)) := by
  cases b with
  | nil => simp at h
  | cons c r =>
    by_cases h1 : c = 203
    · subst h1
      cases r with
      | nil => simp [pgA] at h
      | cons y u => rfl
    · by_cases h2 : c = 237
      · subst h2
        cases r with
        | nil => simp [pgA] at h
        | cons y u => rfl
      · by_cases h3 : c = 221
        · subst h3
          cases r with
          | nil => simp [pgA] at h
          | cons y u =>
            by_cases hy : y = 203
            · subst hy
              match u, h with
              | [], h => simp [pgA] at h
              | [x], h => simp [pgA] at h
              | x :: z :: v, h => rfl
            · have e : pgA (221 :: y :: u) = (3, 1) := by simp [pgA, hy]
              simp only [e]
              simp [hdB, hy]
        · by_cases h4 : c = 253
          · subst h4
            cases r with
            | nil => simp [pgA] at h
            | cons y u =>
              by_cases hy : y = 203
              · subst hy
                match u, h with
                | [], h => simp [pgA] at h
                | [x], h => simp [pgA] at h
                | x :: z :: v, h => rfl
              · have e : pgA (253 :: y :: u) = (4, 1) := by simp [pgA, hy]
                simp only [e]
                simp [hdB, hy]
          · have e : pgA (c :: r) = (0, 0) := by simp [pgA, h1, h2, h3, h4]
            simp only [e]
            simp [hdB, h1, h2, h3, h4]
theorem pg_rng (b : Str) : (0 ≤ (pgA b).1 ∧ (pgA b).1 ≤ 6) ∧ (pgA b).2 ≤ 3 ∧ (5 ≤ (pgA b).1 ↔ (pgA b).2 = 3) := by
  cases b with
  | nil => decide
  | cons c r =>
    simp only [pgA]
    repeat' split
    all_goals decide
end Go.Proofs.YtclhaejdjogfbaaGreat
namespace Go.Proofs.YtclhaejdjogfbaaGreat
open Go.RowKit
def needR (b : Str) : Nat := match hdB b with
  | some (p, o, t) => (match ratT p o.toNat with
    | none => if rkindT p o.toNat = 0 then 1 else 2
    | some x => sizeT p x.2.2.1)
  | none => match b with
    | [] => 1
    | _ :: 203 :: _ => 4
    | _ => 2
def kndB (p n : Nat) : Bool := (ratT (p : Int) n).isSome || decide (rkindT (p : Int) n = 0) || (decide (rkindT (p : Int) n = 3) && decide (p = 2)) || (decide (p = 0) && (n == 203 || n == 221 || n == 237 || n == 253)) || ((decide (p = 3) || decide (p = 4)) && n == 203)
theorem knd_k : ∀ g : Fin 7, ∀ n : Fin 256, kndB g.val n.val = true := by decide +kernel
theorem hd_kind {b : Str} {p : Int} {o : UInt8} {t : Str} (h : hdB b = some (p, o, t)) (hr : ratT p o.toNat = none) : rkindT p o.toNat = 0 ∨ (rkindT p o.toNat = 3 ∧ p = 2) := by
  have hp := (hd_inv h).1
  have ho := o.toNat_lt
  obtain ⟨g, rfl⟩ : ∃ g : Nat, p = (g : Int) := ⟨p.toNat, by omega⟩
  have hk := knd_k ⟨g, by omega⟩ ⟨o.toNat, ho⟩
  unfold kndB at hk
  simp only [hr, Option.isSome_none, Bool.false_or, Bool.or_eq_true, Bool.and_eq_true, decide_eq_true_eq, beq_iff_eq] at hk
  have hne : ∀ k : Nat, k < 256 → o.toNat = k → o = UInt8.ofNat k := fun k hk e => by
    refine UInt8.toNat_inj.1 ?_
    rw [UInt8.toNat_ofNat_of_lt' (show k < 256 from hk)]
    exact e
  rcases hk with ((hk | hk) | hk) | hk
  · exact .inl hk
  · exact .inr ⟨hk.1, by omega⟩
  · exfalso
    obtain ⟨h0, hk⟩ := hk
    obtain rfl : g = 0 := h0
    cases b with
    | nil => cases h
    | cons c r =>
      have hc : c ≠ 203 ∧ c ≠ 237 ∧ c ≠ 221 ∧ c ≠ 253 ∧ o = c := by
        simp only [hdB] at h
        refine ⟨?_, ?_, ?_, ?_, ?_⟩
        · rintro rfl; rw [if_pos rfl] at h; cases r <;> simp at h
        · rintro rfl; rw [if_neg (by decide), if_pos rfl] at h; cases r <;> simp at h
        · rintro rfl
          rw [if_neg (by decide), if_neg (by decide), if_pos rfl] at h
          cases r with
          | nil => cases h
          | cons y u =>
            simp only at h
            split at h
            · match u, h with
              | [], h => cases h
              | [_], h => cases h
              | x :: z :: v, h => simp at h
            · simp at h
        · rintro rfl
          rw [if_neg (by decide), if_neg (by decide), if_neg (by decide), if_pos rfl] at h
          cases r with
          | nil => cases h
          | cons y u =>
            simp only at h
            split at h
            · match u, h with
              | [], h => cases h
              | [_], h => cases h
              | x :: z :: v, h => simp at h
            · simp at h
        · split at h
          · cases r <;> simp at h
          · split at h
            · cases r <;> simp at h
            · split at h
              · cases r with
                | nil => cases h
                | cons y u =>
                  simp only at h
                  split at h
                  · match u, h with
                    | [], h => cases h
                    | [_], h => cases h
                    | x :: z :: v, h => simp at h
                  · simp at h
              · split at h
                · cases r with
                  | nil => cases h
                  | cons y u =>
                    simp only at h
                    split at h
                    · match u, h with
                      | [], h => cases h
                      | [_], h => cases h
                      | x :: z :: v, h => simp at h
                    · simp at h
                · simp only [Option.some.injEq, Prod.mk.injEq] at h
                  exact h.2.1.symm
      obtain ⟨c1, c2, c3, c4, rfl⟩ := hc
      rcases hk with ((hk | hk) | hk) | hk
      · exact c1 (hne 203 (by decide) hk)
      · exact c3 (hne 221 (by decide) hk)
      · exact c2 (hne 237 (by decide) hk)
      · exact c4 (hne 253 (by decide) hk)
  · exfalso
    obtain ⟨h0, hk⟩ := hk
    have h203 : o = 203 := hne 203 (by decide) hk
    subst h203
    have h34 : (g : Int) = 3 ∨ (g : Int) = 4 := by omega
    cases b with
    | nil => cases h
    | cons c r =>
      simp only [hdB] at h
      split at h
      · cases r <;> simp at h; omega
      · split at h
        · cases r <;> simp at h; omega
        · split at h
          · cases r with
            | nil => cases h
            | cons y u =>
              simp only at h
              split at h
              · match u, h with
                | [], h => cases h
                | [_], h => cases h
                | x :: z :: v, h => simp at h; omega
              · rename_i hy
                simp only [Option.some.injEq, Prod.mk.injEq] at h
                exact hy h.2.1
          · split at h
            · cases r with
              | nil => cases h
              | cons y u =>
                simp only at h
                split at h
                · match u, h with
                  | [], h => cases h
                  | [_], h => cases h
                  | x :: z :: v, h => simp at h; omega
                · rename_i hy
                  simp only [Option.some.injEq, Prod.mk.injEq] at h
                  exact hy h.2.1
            · simp only [Option.some.injEq, Prod.mk.injEq] at h; omega
theorem hd_len {b : Str} {p : Int} {o : UInt8} {t : Str} (h : hdB b = some (p, o, t)) : (preS p).length + 1 ≤ b.length ∧ (5 ≤ p → 4 ≤ b.length) := by
  obtain ⟨hp, hc⟩ := hd_inv h
  rcases hc with ⟨h5, rfl⟩ | ⟨h5, x, u, rfl, rfl⟩
  · exact ⟨by rw [List.length_append, List.length_cons]; omega, fun h => absurd h h5⟩
  · refine ⟨by rw [List.length_append, List.length_cons, List.length_cons]; omega, fun _ => ?_⟩
    have : (preS p).length = 2 := by rcases (by omega : p = 5 ∨ p = 6) with rfl | rfl <;> rfl
    rw [List.length_append, List.length_cons, List.length_cons]
    omega
theorem need_some {b : Str} {p : Int} {o : UInt8} {t : Str} (h : hdB b = some (p, o, t)) : needR b = match ratT p o.toNat with | none => if rkindT p o.toNat = 0 then 1 else 2 | some x => sizeT p x.2.2.1 := by
  unfold needR
  rw [h]
theorem hd_none {b : Str} (h : hdB b = none) : b = [] ∨ (∃ c, b = [c] ∧ (c = 203 ∨ c = 237 ∨ c = 221 ∨ c = 253)) ∨ (∃ c, (c = 221 ∨ c = 253) ∧ (b = [c, 203] ∨ ∃ x, b = [c, 203, x])) := by
  cases b with
  | nil => exact .inl rfl
  | cons c r =>
    simp only [hdB] at h
    refine .inr ?_
    split at h
    · cases r with
      | nil => exact .inl ⟨c, rfl, .inl ‹_›⟩
      | cons y u => cases h
    · split at h
      · cases r with
        | nil => exact .inl ⟨c, rfl, .inr (.inl ‹_›)⟩
        | cons y u => cases h
      · split at h
        · rename_i hc
          cases r with
          | nil => exact .inl ⟨c, rfl, .inr (.inr (.inl hc))⟩
          | cons y u =>
            simp only at h
            split at h
            · rename_i hy
              subst hy
              match u, h with
              | [], h => exact .inr ⟨c, .inl hc, .inl rfl⟩
              | [x], h => exact .inr ⟨c, .inl hc, .inr ⟨x, rfl⟩⟩
              | x :: z :: v, h => cases h
            · cases h
        · split at h
          · rename_i hc
            cases r with
            | nil => exact .inl ⟨c, rfl, .inr (.inr (.inr hc))⟩
            | cons y u =>
              simp only at h
              split at h
              · rename_i hy
                subst hy
                match u, h with
                | [], h => exact .inr ⟨c, .inr hc, .inl rfl⟩
                | [x], h => exact .inr ⟨c, .inr hc, .inr ⟨x, rfl⟩⟩
                | x :: z :: v, h => cases h
              · cases h
          · cases h
theorem need_rng (b : Str) : 1 ≤ needR b ∧ needR b ≤ 4 := by
  cases h : hdB b with
  | none =>
    unfold needR
    rw [h]
    simp only
    split <;> omega
  | some q =>
    obtain ⟨p, o, t⟩ := q
    rw [need_some h]
    cases hr : ratT p o.toNat with
    | none => simp only; split <;> omega
    | some x =>
      have := enc_len (k := (p, (o.toNat : Int), x.1, x.2.1, x.2.2.1, x.2.2.2)) ⟨o.toNat, o.toNat_lt, rfl, hr⟩ 0 0
      exact ⟨this.2.1, this.2.2⟩
theorem trunc_iff {b : Str} (hb : b ≠ []) : (itR b).kind = 4 ↔ b.length < needR b := by
  cases h : hdB b with
  | none =>
    have e : itR b = iteO 4 b := by unfold itR; rw [h]
    rw [e]
    refine ⟨fun _ => ?_, fun _ => rfl⟩
    rcases hd_none h with rfl | ⟨c, rfl, hc⟩ | ⟨c, hc, rfl | ⟨x, rfl⟩⟩
    · exact absurd rfl hb
    · rcases hc with rfl | rfl | rfl | rfl <;> decide
    · rcases hc with rfl | rfl <;> decide
    · rcases hc with rfl | rfl <;> (unfold needR; rw [h]; simp)
  | some q =>
    obtain ⟨p, o, t⟩ := q
    have hl := hd_len h
    rw [need_some h]
    unfold itR
    rw [h]
    simp only
    cases hr : ratT p o.toNat with
    | none =>
      simp only
      rcases hd_kind h hr with h0 | ⟨h3, rfl⟩
      · rw [if_pos h0, if_pos h0]
        exact ⟨fun e => (by cases e), fun e => by omega⟩
      · have hn0 : ¬ rkindT 2 o.toNat = 0 := by omega
        rw [if_neg hn0, if_neg hn0]
        have e2 : (preS 2).length = 1 := rfl
        exact ⟨fun e => (by cases e), fun e => by omega⟩
    | some x =>
      simp only
      by_cases hz : b.length < sizeT p x.2.2.1
      · rw [if_pos hz]; exact ⟨fun _ => hz, fun _ => rfl⟩
      · rw [if_neg hz]; exact ⟨fun e => (by cases e), fun e => absurd e hz⟩
theorem hd_more {b : Str} {p : Int} {o : UInt8} {t : Str} (h : hdB b = some (p, o, t)) (r : Str) : hdB (b ++ r) = some (p, o, t ++ r) := by
  cases b with
  | nil => cases h
  | cons c s =>
    simp only [hdB, List.cons_append] at h ⊢
    split at h
    · rw [if_pos ‹_›]
      cases s with
      | nil => cases h
      | cons y u => simp only [Option.some.injEq, Prod.mk.injEq] at h; obtain ⟨rfl, rfl, rfl⟩ := h; rfl
    · rw [if_neg ‹_›]
      split at h
      · rw [if_pos ‹_›]
        cases s with
        | nil => cases h
        | cons y u => simp only [Option.some.injEq, Prod.mk.injEq] at h; obtain ⟨rfl, rfl, rfl⟩ := h; rfl
      · rw [if_neg ‹_›]
        split at h
        · rw [if_pos ‹_›]
          cases s with
          | nil => cases h
          | cons y u =>
            simp only [List.cons_append] at h ⊢
            split at h
            · rw [if_pos ‹_›]
              match u, h with
              | [], h => cases h
              | [_], h => cases h
              | x :: z :: v, h => simp only [Option.some.injEq, Prod.mk.injEq] at h; obtain ⟨rfl, rfl, rfl⟩ := h; rfl
            · rw [if_neg ‹_›]
              simp only [Option.some.injEq, Prod.mk.injEq] at h; obtain ⟨rfl, rfl, rfl⟩ := h; rfl
        · rw [if_neg ‹_›]
          split at h
          · rw [if_pos ‹_›]
            cases s with
            | nil => cases h
            | cons y u =>
              simp only [List.cons_append] at h ⊢
              split at h
              · rw [if_pos ‹_›]
                match u, h with
                | [], h => cases h
                | [_], h => cases h
                | x :: z :: v, h => simp only [Option.some.injEq, Prod.mk.injEq] at h; obtain ⟨rfl, rfl, rfl⟩ := h; rfl
              · rw [if_neg ‹_›]
                simp only [Option.some.injEq, Prod.mk.injEq] at h; obtain ⟨rfl, rfl, rfl⟩ := h; rfl
          · rw [if_neg ‹_›]
            simp only [Option.some.injEq, Prod.mk.injEq] at h; obtain ⟨rfl, rfl, rfl⟩ := h; rfl
theorem need_zeros {b : Str} (hb : b ≠ []) (hl : b.length ≤ needR b) : needR (b ++ List.replicate (needR b - b.length) 0) ≤ needR b := by
  cases h : hdB b with
  | some q =>
    obtain ⟨p, o, t⟩ := q
    rw [need_some (hd_more h _), need_some h]
    exact Nat.le_refl _
  | none =>
    rcases hd_none h with rfl | ⟨c, rfl, hc⟩ | ⟨c, hc, rfl | ⟨x, rfl⟩⟩
    · exact absurd rfl hb
    · rcases hc with rfl | rfl | rfl | rfl <;> decide +kernel
    · rcases hc with rfl | rfl <;> decide +kernel
    · have hn : needR [c, 203, x] = 4 := by unfold needR; rw [h]; simp
      rw [hn]
      rcases hc with rfl | rfl
      · have e : hdB [221, 203, x, 0] = some (5, 0, [x]) := rfl
        show needR [221, 203, x, 0] ≤ 4
        rw [need_some e]
        decide +kernel
      · have e : hdB [253, 203, x, 0] = some (6, 0, [x]) := rfl
        show needR [253, 203, x, 0] ≤ 4
        rw [need_some e]
        decide +kernel
end Go.Proofs.YtclhaejdjogfbaaGreat
namespace Go.Proofs.YtclhaejdjogfbaaGreat
open Go.RowKit Go.Shelf
theorem same_start (w : World) (s1 s2 : ByteArray) (v1 v2 : Value) : ∃ w0, (w.alloc (.cells #[.string s1, v1] 26)).alloc (.cells #[.string s2, v2] 26) = w0 ∧
    w0.heap[w.heap.size]? = some (.cells #[.string s1, v1] 26 (0, 0)) ∧ w0.heap[w.heap.size + 1]? = some (.cells #[.string s2, v2] 26 (0, 0)) ∧ Below w.heap.size w w0 := by
  refine ⟨_, rfl, (Below.heap_alloc _ _ _ (by simp)).trans (World.alloc_heap_new w _), ?_, ((Below.refl _ w).alloc (Nat.le_refl _) _).alloc (by simp) _⟩
  have h := World.alloc_heap_new (w.alloc (.cells #[.string s1, v1] 26)) (.cells #[.string s2, v2] 26)
  rw [World.size_alloc] at h
  exact h
theorem sB_inj {a b : Str} (h : sB a = sB b) : a = b := by
  have h2 : (sB a).data.toList = (sB b).data.toList := by rw [h]
  simpa [sB] using h2
theorem sB_ne (a b : Str) (h : a ≠ b) : ((sB a).toList == (sB b).toList) = false := strB_ne fun e => h (sB_inj e)
theorem rsame_any (m1 m2 : Str) (A1 A2 : Option Addr) (c1 c2 : Nat) (L1 L2 : List Tr) (h1 : L1.length ≤ 1000) (h2 : L2.length ≤ 1000) (w : World) (H1 : OpsP w A1 L1) (H2 : OpsP w A2 L2) :
    Calls Tryz.prog 14 #[.agg #[.string (sB m1), .slice A1 L1.length c1], .agg #[.string (sB m2), .slice A2 L2.length c2]] w fun e w' => e = .returned (.bool (decide (m1 = m2) && decide (L1 = L2))) ∧ Below w.heap.size w w' := by
  obtain ⟨r, hr⟩ : ∃ r, (decide (m1 = m2) && decide (L1 = L2)) = r := ⟨_, rfl⟩
  have HR := Lib.hid hr
  rw [hr]
  clear hr
  by_cases hm : m1 = m2
  · subst hm
    by_cases hl : L1.length = L2.length
    · obtain ⟨w0, hw0, C1, C2, B0⟩ := same_start w (sB m1) (sB m1) (.slice A1 L1.length c1) (.slice A2 L2.length c2)
      obtain ⟨n, hn⟩ : ∃ n, L1.length = n := ⟨_, rfl⟩
      have HN := Lib.hid hn
      have HL := Lib.hid hl
      rw [← hl, hn] at C2 hw0
      rw [hn] at C1 h1
      rw [← hl, hn]
      have X1 := Lib.hid (H1.below B0)
      have X2 := Lib.hid (H2.below B0)
      have k0 := Lib.cell_of_heap C1 0
      have k1 := Lib.cell_of_heap C1 1
      have j0 := Lib.cell_of_heap C2 0
      have j1 := Lib.cell_of_heap C2 1
      have B0 := Lib.hid B0
      have hq := strB_eq (sB m1)
      clear H1 H2 C1 C2 hn hl h2
      go_enter Tryz.func14, Tryz.ntmps14
      go_wp2
      clear hw0
      go_loopw [5] (fun i wr => ∃ j q : Nat, j ≤ n ∧ i = .int .i64 j ∧ wr = w0.drewN q ∧ Hid (∀ k, k < j → ∀ (a : k < L1.length) (b : k < L2.length), L1[k] = L2[k])) (fun i _ => n - (intOf i).toNat)
      case atStart => exact ⟨0, 0, Nat.zero_le _, rfl, rfl, fun k h => by omega⟩
      case round =>
        obtain ⟨j, q, hj, rfl, rfl, R⟩ := hrel
        by_cases hlt : j < n
        · have hj1 : j < L1.length := by have := HN.out; omega
          have hj2 : j < L2.length := by have := HL.out; omega
          obtain ⟨b1, o1, hA1, -, p0, p1, p2⟩ := X1.out.at_ hj1
          obtain ⟨b2, o2, hA2, -, q0, q1, q2⟩ := X2.out.at_ hj2
          subst hA1
          subst hA2
          by_cases he : L1[j] = L2[j]
          · have R2 : Hid (∀ k, k < j + 1 → ∀ (a : k < L1.length) (b : k < L2.length), L1[k] = L2[k]) := fun k hk a b => by
              by_cases e : k = j
              · subst e; exact he
              · exact R.out k (by omega) a b
            rw [he] at p0 p1 p2
            obtain ⟨⟨x0, x1, x2⟩, hx⟩ : ∃ x, L2[j] = x := ⟨_, rfl⟩
            rw [hx] at p0 p1 p2 q0 q1 q2
            simp only at p0 p1 p2 q0 q1 q2
            clear he hx hj1 hj2 R
            go_wp2
            go_quiet (fail)
            go_wp2
            go_roundw
            case rel => exact ⟨j + 1, q + nq, by omega, by go_num, rfl, R2.out⟩
            case measure => simp [intOf]; omega
          · have T : Hid (false = r) := by show false = r; rw [← HR.out, decide_eq_false (fun e => he (by simp only [e]) : ¬ L1 = L2), Bool.and_false]
            have hne := tr_ne he
            obtain ⟨⟨x0, x1, x2⟩, hx⟩ : ∃ x, L1[j] = x := ⟨_, rfl⟩
            obtain ⟨⟨y0, y1, y2⟩, hy⟩ : ∃ y, L2[j] = y := ⟨_, rfl⟩
            rw [hx] at p0 p1 p2 hne
            rw [hy] at q0 q1 q2 hne
            simp only at p0 p1 p2 q0 q1 q2 hne
            clear he hx hy hj1 hj2 R
            rcases hne with hne | ⟨rfl, hne⟩ | ⟨rfl, rfl, hne⟩
            all_goals
              go_wp2
              go_quiet (fail)
              go_wp2
              go_ret
              exact ⟨ret_bool T.out, B0.out.trans ((below_drewN w0 _ q).trans (below_drewN _ _ nq))⟩
        · have T : Hid (true = r) := by
            have e : L1 = L2 := List.ext_getElem HL.out fun k a b => R.out k (by have := HN.out; omega) a b
            show true = r
            rw [← HR.out, decide_eq_true e]
            rfl
          go_wp2
          go_ret
          exact ⟨ret_bool T.out, B0.out.trans (below_drewN w0 w.heap.size q)⟩
    · have T : Hid (false = r) := by show false = r; rw [← HR.out, decide_eq_false (fun e => hl (by rw [e]) : ¬ L1 = L2), Bool.and_false]
      have hq := strB_eq (sB m1)
      have hne : ((L1.length : Int) == (L2.length : Int)) = false := beq_eq_false_iff_ne.2 fun e => hl (by omega)
      have hne2 : ((L1.length : Int) != (L2.length : Int)) = true := by unfold bne; rw [hne]; rfl
      clear H1 H2
      go_enter Tryz.func14, Tryz.ntmps14
      go_wp2
      go_ret
      exact ⟨ret_bool T.out, ((Below.refl _ w).alloc (Nat.le_refl _) _).alloc (by simp) _⟩
  · have T : Hid (false = r) := by show false = r; rw [← HR.out, decide_eq_false hm, Bool.false_and]
    have hq := sB_ne m1 m2 hm
    clear H1 H2
    go_enter Tryz.func14, Tryz.ntmps14
    go_wp2
    go_ret
    exact ⟨ret_bool T.out, ((Below.refl _ w).alloc (Nat.le_refl _) _).alloc (by simp) _⟩
end Go.Proofs.YtclhaejdjogfbaaGreat
namespace Go.Proofs.YtclhaejdjogfbaaGreat
open Go.RowKit Go.Shelf
theorem rprefixes_1 (w : World) : Calls Tryz.prog 38 #[.int .i64 1] w (RetB w [203]) := by
  have O := Lib.hid (own_lit w [203] (by decide))
  go_enter Tryz.func38, Tryz.ntmps38
  go_wp2
  go_ret
  exact ⟨_, rfl, O.out, (Below.refl _ _).alloc (Nat.le_refl _) _⟩
theorem rprefixes_2 (w : World) : Calls Tryz.prog 38 #[.int .i64 2] w (RetB w [237]) := by
  have O := Lib.hid (own_lit w [237] (by decide))
  go_enter Tryz.func38, Tryz.ntmps38
  go_wp2
  go_ret
  exact ⟨_, rfl, O.out, (Below.refl _ _).alloc (Nat.le_refl _) _⟩
theorem rprefixes_3 (w : World) : Calls Tryz.prog 38 #[.int .i64 3] w (RetB w [221]) := by
  have O := Lib.hid (own_lit w [221] (by decide))
  go_enter Tryz.func38, Tryz.ntmps38
  go_wp2
  go_ret
  exact ⟨_, rfl, O.out, (Below.refl _ _).alloc (Nat.le_refl _) _⟩
theorem rprefixes_4 (w : World) : Calls Tryz.prog 38 #[.int .i64 4] w (RetB w [253]) := by
  have O := Lib.hid (own_lit w [253] (by decide))
  go_enter Tryz.func38, Tryz.ntmps38
  go_wp2
  go_ret
  exact ⟨_, rfl, O.out, (Below.refl _ _).alloc (Nat.le_refl _) _⟩
theorem rprefixes_5 (w : World) : Calls Tryz.prog 38 #[.int .i64 5] w (RetB w [221, 203]) := by
  have O := Lib.hid (own_lit w [221, 203] (by decide))
  go_enter Tryz.func38, Tryz.ntmps38
  go_wp2
  go_ret
  exact ⟨_, rfl, O.out, (Below.refl _ _).alloc (Nat.le_refl _) _⟩
theorem rprefixes_6 (w : World) : Calls Tryz.prog 38 #[.int .i64 6] w (RetB w [253, 203]) := by
  have O := Lib.hid (own_lit w [253, 203] (by decide))
  go_enter Tryz.func38, Tryz.ntmps38
  go_wp2
  go_ret
  exact ⟨_, rfl, O.out, (Below.refl _ _).alloc (Nat.le_refl _) _⟩
theorem rprefixes_any (page : Int) (w : World) : Calls Tryz.prog 38 #[.int .i64 page] w (RetB w (preS page)) := by
  unfold preS
  by_cases h1 : page = 1
  · rw [if_pos h1]; subst h1; exact rprefixes_1 w
  by_cases h2 : page = 2
  · rw [if_neg h1, if_pos h2]; subst h2; exact rprefixes_2 w
  by_cases h3 : page = 3
  · rw [if_neg h1, if_neg h2, if_pos h3]; subst h3; exact rprefixes_3 w
  by_cases h4 : page = 4
  · rw [if_neg h1, if_neg h2, if_neg h3, if_pos h4]; subst h4; exact rprefixes_4 w
  by_cases h5 : page = 5
  · rw [if_neg h1, if_neg h2, if_neg h3, if_neg h4, if_pos h5]; subst h5; exact rprefixes_5 w
  by_cases h6 : page = 6
  · rw [if_neg h1, if_neg h2, if_neg h3, if_neg h4, if_neg h5, if_pos h6]; subst h6; exact rprefixes_6 w
  rw [if_neg h1, if_neg h2, if_neg h3, if_neg h4, if_neg h5, if_neg h6]
  have e1 : (page == 1) = false := by simpa using h1
  have e2 : (page == 2) = false := by simpa using h2
  have e3 : (page == 3) = false := by simpa using h3
  have e4 : (page == 4) = false := by simpa using h4
  have e5 : (page == 5) = false := by simpa using h5
  have e6 : (page == 6) = false := by simpa using h6
  clear h1 h2 h3 h4 h5 h6
  go_enter Tryz.func38, Tryz.ntmps38
  go_wp2
  go_ret
  exact ⟨_, rfl, World.ownsRow_nil _ _ _ _, Below.refl _ _⟩
theorem BytesAt.at_ {w : World} {A : Option Addr} {L : Str} (h : BytesAt w A L) {k : Nat} (hk : k < L.length) : ∃ b off, A = some ⟨b, off, none⟩ ∧ w.cell? ⟨b, off + k, none⟩ = some (.int .u8 (L[k].toNat : Int)) := by
  rcases h with rfl | ⟨b, off, rfl, hc⟩
  · simp at hk
  · exact ⟨b, off, rfl, hc k hk⟩
end Go.Proofs.YtclhaejdjogfbaaGreat
namespace Go.Proofs.YtclhaejdjogfbaaGreat
open Go.RowKit Go.Shelf
theorem al2 (w : World) (o1 o2 : Obj) : Below w.heap.size w ((w.alloc o1).alloc o2) := (up_alloc w o1).alloc (by simp) o2
def rsumN (l : Str) : Nat → Nat
  | 0 => 0
  | k + 1 => if l[k]?.getD 0 = 119 then rsumN l k + 2 else rsumN l k + 1
theorem rsumN_le (l : Str) : ∀ k, rsumN l k ≤ 2 * k
  | 0 => Nat.le_refl _
  | k + 1 => by
    have := rsumN_le l k
    unfold rsumN
    split <;> omega
def rsizeT (page : Int) (ex : Str) : Nat := (preS page).length + 1 + rsumN ex ex.length
theorem rsize_any (page op : Int) (m : Str) (A : Option Addr) (n cap : Nat) (ex : Str) (hx : ex.length ≤ 1000) (al : Bool) (w : World) :
    Calls Tryz.prog 24 #[enV page op m (.slice A n cap) ex al] w fun e w' => e = .returned (.int .i64 (rsizeT page ex : Nat)) ∧ Below w.heap.size w w' := by
  unfold enV
  obtain ⟨s, hs⟩ : ∃ s, sB ex = s := ⟨_, rfl⟩
  have hz : s.size = ex.length := by rw [← hs, sB_size]
  have hat : ∀ k (h : k < s.size) (h' : k < ex.length), s[k] = ex[k] := fun k h h' => by subst hs; exact sB_at ex k h h'
  have HAT := Lib.hid hat
  obtain ⟨l, hl⟩ : ∃ l, ex.length = l := ⟨_, rfl⟩
  have HL := Lib.hid hl
  rw [hl] at hz hx
  rw [hs]
  clear hs hat hl
  obtain ⟨w0, hw0⟩ : ∃ w0, w.alloc (.cells #[.int .i64 page, .int .u8 op, .string (sB m), .slice A n cap, .string s, .bool al] 54) = w0 := ⟨_, rfl⟩
  obtain ⟨b, hb⟩ : ∃ b, w.heap.size = b := ⟨_, rfl⟩
  have B0 : Hid (Below b w w0) := by rw [← hw0, ← hb]; exact (Below.refl _ _).alloc (Nat.le_refl _) _
  have Z0 : w0.heap.size = b + 1 := by rw [← hw0, ← hb]; simp
  have c0 : w0.heap[b]? = some (.cells #[.int .i64 page, .int .u8 op, .string (sB m), .slice A n cap, .string s, .bool al] 54 (0, 0)) := by rw [← hw0, ← hb]; exact World.alloc_heap_new w _
  have C0 := Lib.hid c0
  have hpp := rprefixes_any page w0
  have k0 := Lib.cell_of_heap c0 0
  have HB := Lib.hid hb
  have HPL := Lib.hid (pre_le page)
  obtain ⟨pl, hpl⟩ : ∃ p, (preS page).length = p := ⟨_, rfl⟩
  have HP := Lib.hid hpl
  have HZ := Lib.hid hz
  clear c0
  go_enter Tryz.func24, Tryz.ntmps24
  go_wp2_with fail
  refine hpp.mono ?_
  rintro e w1 ⟨v, rfl, hO, hb1⟩
  obtain ⟨A1, cap1, rfl, -⟩ := hO.bytes
  rw [hpl]
  have B1 : Hid (Below b w w1) := B0.out.trans (hb1.mono (by omega))
  have c1 := (hb1.block b (by omega)).trans C0.out
  have C1 := Lib.hid c1
  have k4 := Lib.cell_of_heap c1 4
  have hp2 : pl ≤ 2 := by rw [← hpl]; exact HPL.out
  clear hpp hO hb1 c1 k0 hw0 B0 C0 hpl Z0
  go_wp2
  clear k4
  go_loopw [4, 3] (fun i o wr => ∃ k : Nat, k ≤ l ∧ i = .int .i64 k ∧ o = .int .i64 ((pl + 1 + rsumN ex k : Nat) : Int) ∧ wr = w1) (fun i _ _ => l - (intOf i).toNat)
  case atStart => exact ⟨0, Nat.zero_le _, rfl, rfl, rfl⟩
  case round =>
    obtain ⟨k, hk, rfl, rfl, rfl⟩ := hrel
    have k4 := Lib.cell_of_heap C1.out 4
    by_cases hlt : k < l
    · have hlt' : k < s.size := by omega
      have hlt2 : k < ex.length := by rw [HL.out]; exact hlt
      have SL := rsumN_le ex k
      have hc : ex[k]?.getD 0 = s[k] := by rw [List.getElem?_eq_getElem hlt2, Option.getD_some]; exact (HAT.out k hlt' hlt2).symm
      have HC := Lib.hid hc
      obtain ⟨t, ht⟩ : ∃ t, rsumN ex k = t := ⟨_, rfl⟩
      rw [ht] at SL ⊢
      have HT := Lib.hid ht
      clear hc ht
      have hk1 : k ≤ 1000 := by omega
      by_cases h119 : s[k] = 119
      · have SS : Hid (rsumN ex (k + 1) = t + 2) := by show rsumN ex (k + 1) = _; rw [rsumN, if_pos (HC.out.trans h119), HT.out]
        have hv : s[k].toNat = 119 := by rw [h119]; rfl
        clear h119
        go_wp2
        go_roundw
        case rel => exact ⟨k + 1, by omega, by go_num, by rw [SS.out]; go_num, trivial⟩
        case measure => simp [intOf]; omega
      · have SS : Hid (rsumN ex (k + 1) = t + 1) := by show rsumN ex (k + 1) = _; rw [rsumN, if_neg (by rw [HC.out]; exact h119), HT.out]
        have hv : ((s[k].toNat : Int) == 119) = false := by
          simp
          intro h
          exact h119 (UInt8.toNat_inj.1 (by rw [show (119 : UInt8).toNat = 119 from rfl]; omega))
        clear h119
        go_wp2
        go_roundw
        case rel => exact ⟨k + 1, by omega, by go_num, by rw [SS.out]; go_num, trivial⟩
        case measure => simp [intOf]; omega
    · obtain rfl : k = l := by omega
      have T : Hid (rsizeT page ex = pl + 1 + rsumN ex k) := by show rsizeT page ex = _; unfold rsizeT; rw [HP.out, HL.out]
      go_wp2
      go_ret
      exact ⟨by rw [T.out]; rfl, by rw [HB.out]; exact B1.out⟩
end Go.Proofs.YtclhaejdjogfbaaGreat
namespace Go.Proofs.YtclhaejdjogfbaaGreat
open Go.RowKit
def stepL (c : UInt8) (t : Str) (s : Int × Int) : Int × Int :=
  if c = 100 then (sgB (t.getD 0 0), s.2) else if c = 101 then (s.1, sgB (t.getD 0 0)) else if c = 110 then (s.1, ((t.getD 0 0).toNat : Int)) else if c = 119 then (s.1, ((t.getD 0 0).toNat : Int) + 256 * ((t.getD 1 0).toNat : Int)) else s
def stJ (ex : Str) (b : Str) (nx : Nat) : Nat → Int × Int
  | 0 => (0, 0)
  | j + 1 => stepL (ex.getD j 0) (b.drop (nx + j)) (stJ ex b nx j)
theorem sz_same {g : Int} {i : Nat} {ex : Str} (hx : ExP g i ex) : rsizeT g ex = sizeT g ex := by
  obtain ⟨h0, h6⟩ := hx.pg
  rcases (by omega : g = 0 ∨ g = 1 ∨ g = 2 ∨ g = 3 ∨ g = 4 ∨ g = 5 ∨ g = 6) with rfl | rfl | rfl | rfl | rfl | rfl | rfl <;> rcases hx.lst with rfl | rfl | rfl | rfl | rfl | rfl <;> decide
theorem getD_drop (b : Str) (k j : Nat) : (b.drop k).getD j 0 = b.getD (k + j) 0 := by
  rw [List.getD_eq_getElem?_getD, List.getD_eq_getElem?_getD, List.getElem?_drop]
theorem st_num {b : Str} {g : Int} {i : Nat} {ex : Str} (hx : ExP g i ex) (hg : (pgA b).1 = g) (h : (pgA b).2 < b.length) :
    stJ ex b (nxA b) ex.length = numB ex (if 5 ≤ (pgA b).1 then b.getD 2 0 :: b.drop 4 else b.drop ((pgA b).2 + 1)) := by
  unfold nxA
  rw [hg]
  by_cases h5 : 5 ≤ g
  · rw [if_pos h5, if_pos h5]
    obtain rfl := hx.hi h5
    rw [num_d]
    show stepL 100 (b.drop 2) (0, 0) = _
    simp only [stepL, if_true, getD_drop, List.getD_cons_zero]
  · rw [if_neg h5, if_neg h5]
    generalize (pgA b).2 + 1 = nx
    rcases hx.lst with rfl | rfl | rfl | rfl | rfl | rfl
    · rw [num_0]; rfl
    · rw [num_d]; rfl
    · rw [num_e]; rfl
    · rw [num_n]; rfl
    · rw [num_w]; rfl
    · rw [num_dn]
      show stepL 110 (b.drop (nx + 1)) (stepL 100 (b.drop (nx + 0)) (0, 0)) = _
      have e1 : stepL 100 (b.drop (nx + 0)) (0, 0) = (sgB ((b.drop nx).getD 0 0), 0) := by unfold stepL; rw [if_pos rfl]; rfl
      rw [e1]
      unfold stepL
      rw [if_neg (by decide), if_neg (by decide), if_pos rfl]
      simp only [getD_drop, Nat.add_zero]
theorem st_bnd {b : Str} {g : Int} {i : Nat} {ex : Str} (hx : ExP g i ex) (hg : (pgA b).1 = g) (hz : sizeT g ex ≤ b.length) :
    ∀ j (hj : j < ex.length), nxA b + j < b.length ∧ (ex[j] = 119 → nxA b + j + 1 < b.length) ∧ (ex[j] = 100 ∨ ex[j] = 101 ∨ ex[j] = 110 ∨ ex[j] = 119) := by
  obtain ⟨h0, h6⟩ := hx.pg
  obtain ⟨-, hp3, hp5⟩ := pg_rng b
  have hat : (pgA b).2 = (if 5 ≤ g then 3 else (preS g).length) := by
    cases b with
    | nil => rw [← hg]; decide
    | cons c r =>
      rw [← hg]
      simp only [pgA]
      repeat' split
      all_goals first | rfl | (simp_all; done) | (exfalso; revert hg; simp_all; done) | decide
  unfold nxA
  rw [hg]
  by_cases h5 : 5 ≤ g
  · rw [if_pos h5]
    have he := hx.hi h5
    subst he
    have hs : sizeT g [100] = 4 := by rcases (by omega : g = 5 ∨ g = 6) with rfl | rfl <;> rfl
    intro j hj
    obtain rfl : j = 0 := by simp at hj; omega
    exact ⟨by omega, fun e => absurd (show (100 : UInt8) = 119 from e) (by decide), .inl rfl⟩
  · rw [if_neg h5] at hat ⊢
    rw [hat]
    have hs : sizeT g ex = (preS g).length + 1 + sumN ex ex.length := rfl
    rw [hs] at hz
    rcases hx.lst with rfl | rfl | rfl | rfl | rfl | rfl
    · intro j hj; simp at hj
    · have : sumN [100] [100].length = 1 := rfl
      intro j hj
      obtain rfl : j = 0 := by simp at hj; omega
      exact ⟨by omega, fun e => absurd (show (100 : UInt8) = 119 from e) (by decide), .inl rfl⟩
    · have : sumN [101] [101].length = 1 := rfl
      intro j hj
      obtain rfl : j = 0 := by simp at hj; omega
      exact ⟨by omega, fun e => absurd (show (101 : UInt8) = 119 from e) (by decide), .inr (.inl rfl)⟩
    · have : sumN [110] [110].length = 1 := rfl
      intro j hj
      obtain rfl : j = 0 := by simp at hj; omega
      exact ⟨by omega, fun e => absurd (show (110 : UInt8) = 119 from e) (by decide), .inr (.inr (.inl rfl))⟩
    · have : sumN [119] [119].length = 2 := rfl
      intro j hj
      obtain rfl : j = 0 := by simp at hj; omega
      exact ⟨by omega, fun e => by omega, .inr (.inr (.inr rfl))⟩
    · have : sumN [100, 110] [100, 110].length = 2 := rfl
      intro j hj
      simp only [List.length_cons, List.length_nil] at hj
      have hj2 : j = 0 ∨ j = 1 := by omega
      rcases hj2 with rfl | rfl
      · exact ⟨by omega, fun e => absurd (show (100 : UInt8) = 119 from e) (by decide), .inl rfl⟩
      · exact ⟨by omega, fun e => absurd (show (110 : UInt8) = 119 from e) (by decide), .inr (.inr (.inl rfl))⟩
end Go.Proofs.YtclhaejdjogfbaaGreat
namespace Go.Proofs.YtclhaejdjogfbaaGreat
open Go.RowKit Go.Shelf
attribute [local go_sem] Oper.semAt_some
theorem raw_need {b : Str} (hb : b ≠ []) (h : (itR b).kind ≠ 4) : (itR b).raw.length = needR b := by
  have hl : 1 ≤ b.length := by cases b; exact absurd rfl hb; simp
  have ht := mt (trunc_iff hb).2 h
  obtain ⟨e, he⟩ : ∃ e, hdB b = e := ⟨_, rfl⟩
  cases e with
  | none => exact absurd (by unfold itR; rw [he]; rfl) h
  | some q =>
    obtain ⟨p, o, t⟩ := q
    rw [need_some he] at ht ⊢
    have hi : itR b = match ratT p o.toNat with
      | none => if rkindT p o.toNat = 0 then iteO 2 (b.take 1) else iteO 3 (b.take 2)
      | some x => if b.length < sizeT p x.2.2.1 then iteO 4 b else ⟨1, b.take (sizeT p x.2.2.1), x.1, (fillV x.2.2.1 x.2.1 (numB x.2.2.1 t).1 (numB x.2.2.1 t).2).getD [], x.2.2.2⟩ := by
      unfold itR
      rw [he]
      try rfl
    rw [hi]
    cases hx : ratT p o.toNat with
    | none =>
      rw [hx] at ht
      simp only at ht ⊢
      by_cases h0 : rkindT p o.toNat = 0
      · rw [if_pos h0, if_pos h0]
        show (b.take 1).length = 1
        rw [List.length_take]; omega
      · rw [if_neg h0, if_neg h0]
        rw [if_neg h0] at ht
        show (b.take 2).length = 2
        rw [List.length_take]; omega
    | some x =>
      rw [hx] at ht
      simp only at ht ⊢
      rw [if_neg ht]
      show (b.take _).length = _
      rw [List.length_take]; omega
theorem need_none {b : Str} (hb : b ≠ []) (h : b.length ≤ (pgA b).2) : (pgA b).2 + 1 = needR b := by
  have hn := pg_none h
  rcases hd_none hn with rfl | ⟨c, rfl, hc⟩ | ⟨c, hc, hc2⟩
  · exact absurd rfl hb
  · unfold needR
    rw [hn]
    rcases hc with rfl | rfl | rfl | rfl <;> rfl
  · unfold needR
    rw [hn]
    rcases hc2 with rfl | ⟨x, rfl⟩ <;> rcases hc with rfl | rfl <;> rfl
theorem kind_trunc {b : Str} {p : Int} {o : UInt8} {t : Str} (h : hdB b = some (p, o, t)) (hk : (itR b).kind = 4) : ∃ x, ratT p o.toNat = some x ∧ sizeT p x.2.2.1 = needR b := by
  have hi : itR b = match ratT p o.toNat with
      | none => if rkindT p o.toNat = 0 then iteO 2 (b.take 1) else iteO 3 (b.take 2)
      | some x => if b.length < sizeT p x.2.2.1 then iteO 4 b else ⟨1, b.take (sizeT p x.2.2.1), x.1, (fillV x.2.2.1 x.2.1 (numB x.2.2.1 t).1 (numB x.2.2.1 t).2).getD [], x.2.2.2⟩ := by
    unfold itR
    rw [h]
    try rfl
  rw [hi] at hk
  rw [need_some h]
  cases hx : ratT p o.toNat with
  | none =>
    rw [hx] at hk
    simp only at hk
    split at hk <;> simp [iteO] at hk
  | some x => exact ⟨x, rfl, rfl⟩
end Go.Proofs.YtclhaejdjogfbaaGreat
namespace Go.Proofs.YtclhaejdjogfbaaGreat
open Go.RowKit Go.Shelf
attribute [local irreducible] Go.Mixed.wpMix
def lenE (x : En) : Bool := decide (x.1.length ≤ 10) && decide (x.2.1.length ≤ 3) && decide (x.2.2.1.length ≤ 3)
def lenN (p n : Nat) : Bool := match atN p n with | some x => lenE x | none => kindT p n == rkindT p n
theorem len_0 : ∀ n : Fin 256, lenN 0 n.val = true := by decide +kernel
theorem len_1 : ∀ n : Fin 256, lenN 1 n.val = true := by decide +kernel
theorem len_2 : ∀ n : Fin 256, lenN 2 n.val = true := by decide +kernel
theorem len_3 : ∀ n : Fin 256, lenN 3 n.val = true := by decide +kernel
theorem len_4 : ∀ n : Fin 256, lenN 4 n.val = true := by decide +kernel
theorem len_5 : ∀ n : Fin 256, lenN 5 n.val = true := by decide +kernel
theorem len_6 : ∀ n : Fin 256, lenN 6 n.val = true := by decide +kernel
theorem len_all (p n : Nat) (hp : p < 7) (hn : n < 256) : lenN p n = true := by
  rcases (by omega : p = 0 ∨ p = 1 ∨ p = 2 ∨ p = 3 ∨ p = 4 ∨ p = 5 ∨ p = 6) with rfl | rfl | rfl | rfl | rfl | rfl | rfl
  · exact len_0 ⟨n, hn⟩
  · exact len_1 ⟨n, hn⟩
  · exact len_2 ⟨n, hn⟩
  · exact len_3 ⟨n, hn⟩
  · exact len_4 ⟨n, hn⟩
  · exact len_5 ⟨n, hn⟩
  · exact len_6 ⟨n, hn⟩
theorem ok_none {page : Int} {n : Nat} (hn : n < 256) (h : ratT page n = none) : kindT page n = rkindT page n := by
  by_cases hp : 0 ≤ page ∧ page ≤ 6
  · obtain ⟨p, rfl⟩ : ∃ p : Nat, page = p := ⟨page.toNat, by omega⟩
    have h1 := len_all p n (by omega) hn
    rw [← at_same _ n hn, atN_eq p n hn] at h
    unfold lenN at h1
    rw [h] at h1
    exact eq_of_beq h1
  · unfold kindT rkindT
    rw [if_pos (by omega), if_neg (by omega), if_neg (by omega), if_neg (by omega)]
end Go.Proofs.YtclhaejdjogfbaaGreat
namespace Go.Proofs.YtclhaejdjogfbaaGreat
open Go.RowKit
theorem page_cases {p : Int} (hp : 0 ≤ p ∧ p ≤ 6) : p = 0 ∨ p = 1 ∨ p = 2 ∨ p = 3 ∨ p = 4 ∨ p = 5 ∨ p = 6 := by omega
theorem hd_at {p : Int} (hp : 0 ≤ p ∧ p ≤ 4) (o : UInt8) (t : Str) (h0 : p = 0 → o ≠ 203 ∧ o ≠ 221 ∧ o ≠ 237 ∧ o ≠ 253) (h3 : p = 3 ∨ p = 4 → o ≠ 203) : hdB (preS p ++ o :: t) = some (p, o, t) := by
  rcases (by omega : p = 0 ∨ p = 1 ∨ p = 2 ∨ p = 3 ∨ p = 4) with rfl | rfl | rfl | rfl | rfl
  · obtain ⟨a, b, c, d⟩ := h0 rfl
    show hdB (o :: t) = _
    simp only [hdB]
    rw [if_neg a, if_neg c, if_neg b, if_neg d]
  · rfl
  · rfl
  · have h := h3 (.inl rfl)
    show hdB (221 :: o :: t) = _
    simp only [hdB]
    rw [if_neg (by decide), if_neg (by decide), if_pos (by decide), if_neg h]
  · have h := h3 (.inr rfl)
    show hdB (253 :: o :: t) = _
    simp only [hdB]
    rw [if_neg (by decide), if_neg (by decide), if_neg (by decide), if_pos (by decide), if_neg h]
theorem hd_at5 {p : Int} (hp : 5 ≤ p ∧ p ≤ 6) (x o : UInt8) (t : Str) : hdB (preS p ++ x :: o :: t) = some (p, o, x :: t) := by
  rcases (by omega : p = 5 ∨ p = 6) with rfl | rfl <;> rfl
theorem hd_some {p : Int} (hp : 0 ≤ p ∧ p ≤ 4) {o : UInt8} (t : Str) {x : En} (h : ratT p o.toNat = some x) : hdB (preS p ++ o :: t) = some (p, o, t) := by
  have hx := exP_of o.toNat_lt h
  have ne : ∀ n : Nat, n < 256 → o.toNat ≠ n → o ≠ UInt8.ofNat n := fun n hn hh e => hh (by rw [e, UInt8.toNat_ofNat_of_lt' hn])
  refine hd_at hp o t (fun h0 => ?_) (fun h3 => ne 203 (by decide) (hx.ind h3))
  obtain ⟨a, b, c, d⟩ := hx.main h0
  exact ⟨ne 203 (by decide) a, ne 221 (by decide) b, ne 237 (by decide) c, ne 253 (by decide) d⟩
theorem knd_of {p : Int} (hp : 0 ≤ p ∧ p ≤ 6) {o : UInt8} (h : ratT p o.toNat = none) :
    (rkindT p o.toNat = 2 ∧ p ≤ 4 ∧ ∃ p', pageT (preS p ++ [o]) = some p' ∧ preS p' = preS p ++ [o] ∧ 0 ≤ p' ∧ p' ≤ 6) ∨
    ((rkindT p o.toNat = 0 ∨ rkindT p o.toNat = 3 ∧ p = 2) ∧ (p ≤ 4 → ∀ t, hdB (preS p ++ o :: t) = some (p, o, t))) := by
  have hlt := o.toNat_lt
  have ho : o = UInt8.ofNat o.toNat := by simp
  have hk := knd_k ⟨p.toNat, by omega⟩ ⟨o.toNat, hlt⟩
  unfold kndB at hk
  simp only at hk
  rw [show ((p.toNat : Nat) : Int) = p by omega, h] at hk
  simp only [Option.isSome_none, Bool.false_or, Bool.or_eq_true, Bool.and_eq_true, decide_eq_true_eq, beq_iff_eq] at hk
  have two : ∀ q : Int, (q = 0 ∧ (o = 203 ∨ o = 221 ∨ o = 237 ∨ o = 253)) ∨ ((q = 3 ∨ q = 4) ∧ o = 203) → q = p → (rkindT p o.toNat = 2 ∧ p ≤ 4 ∧ ∃ p', pageT (preS p ++ [o]) = some p' ∧ preS p' = preS p ++ [o] ∧ 0 ≤ p' ∧ p' ≤ 6) := by
    intro q hq e
    subst e
    rcases hq with ⟨rfl, rfl | rfl | rfl | rfl⟩ | ⟨rfl | rfl, rfl⟩
    · exact ⟨rfl, by decide, 1, rfl, rfl, by decide, by decide⟩
    · exact ⟨rfl, by decide, 3, rfl, rfl, by decide, by decide⟩
    · exact ⟨rfl, by decide, 2, rfl, rfl, by decide, by decide⟩
    · exact ⟨rfl, by decide, 4, rfl, rfl, by decide, by decide⟩
    · exact ⟨rfl, by decide, 5, rfl, rfl, by decide, by decide⟩
    · exact ⟨rfl, by decide, 6, rfl, rfl, by decide, by decide⟩
  have on : ∀ n : Nat, n < 256 → o.toNat = n → o = UInt8.ofNat n := fun n hn e => by rw [ho, e]
  by_cases hpre : (p = 0 ∧ (o = 203 ∨ o = 221 ∨ o = 237 ∨ o = 253)) ∨ ((p = 3 ∨ p = 4) ∧ o = 203)
  · exact .inl (two p hpre rfl)
  · have hat : p ≤ 4 → ∀ t, hdB (preS p ++ o :: t) = some (p, o, t) := fun h4 t => hd_at ⟨hp.1, h4⟩ o t
      (fun h0 => ⟨fun e => hpre (.inl ⟨h0, .inl e⟩), fun e => hpre (.inl ⟨h0, .inr (.inl e)⟩), fun e => hpre (.inl ⟨h0, .inr (.inr (.inl e))⟩), fun e => hpre (.inl ⟨h0, .inr (.inr (.inr e))⟩)⟩)
      (fun h3 e => hpre (.inr ⟨h3, e⟩))
    refine .inr ⟨?_, hat⟩
    rcases hk with ((hk | ⟨hk, h2⟩) | ⟨h0, hk⟩) | ⟨h3, hk⟩
    · exact .inl hk
    · exact .inr ⟨hk, by omega⟩
    · exfalso
      refine hpre (.inl ⟨by omega, ?_⟩)
      rcases hk with ((hk | hk) | hk) | hk
      · exact .inl (on 203 (by decide) hk)
      · exact .inr (.inl (on 221 (by decide) hk))
      · exact .inr (.inr (.inl (on 237 (by decide) hk)))
      · exact .inr (.inr (.inr (on 253 (by decide) hk)))
    · exfalso
      exact hpre (.inr ⟨by omega, on 203 (by decide) hk⟩)
theorem miss4 {p : Int} (hp : 0 ≤ p ∧ p ≤ 4) : itR (preS p) = iteO 4 (preS p) ∧ needR (preS p) = (preS p).length + 1 := by
  rcases (by omega : p = 0 ∨ p = 1 ∨ p = 2 ∨ p = 3 ∨ p = 4) with rfl | rfl | rfl | rfl | rfl <;> exact ⟨rfl, rfl⟩
theorem miss5 {p : Int} (hp : 5 ≤ p ∧ p ≤ 6) {r : Str} (hr : r.length ≤ 1) : itR (preS p ++ r) = iteO 4 (preS p ++ r) ∧ needR (preS p ++ r) = 4 := by
  match r, hr with
  | [], _ => rcases (by omega : p = 5 ∨ p = 6) with rfl | rfl <;> exact ⟨rfl, rfl⟩
  | [x], _ => rcases (by omega : p = 5 ∨ p = 6) with rfl | rfl <;> exact ⟨rfl, rfl⟩
  | _ :: _ :: _, h => simp at h
theorem it_of {b : Str} {p : Int} {o : UInt8} {t : Str} (h : hdB b = some (p, o, t)) : itR b = match ratT p o.toNat with
      | none => if rkindT p o.toNat = 0 then iteO 2 (b.take 1) else iteO 3 (b.take 2)
      | some x => if b.length < sizeT p x.2.2.1 then iteO 4 b else ⟨1, b.take (sizeT p x.2.2.1), x.1, (fillV x.2.2.1 x.2.1 (numB x.2.2.1 t).1 (numB x.2.2.1 t).2).getD [], x.2.2.2⟩ := by
  unfold itR
  rw [h]
  try rfl
def mS (s0 : Int × Int) (ex : Str) (b : Str) (k : Nat) : Nat → Int × Int
  | 0 => s0
  | j + 1 => stepL (ex.getD j 0) (b.drop (k + sumN ex j)) (mS s0 ex b k j)
theorem mS_succ (s0 : Int × Int) {ex : Str} (b : Str) (k : Nat) {j : Nat} (hj : j < ex.length) : mS s0 ex b k (j + 1) = stepL ex[j] (b.drop (k + sumN ex j)) (mS s0 ex b k j) := by
  show stepL (ex.getD j 0) _ _ = _
  rw [List.getD_eq_getElem?_getD, List.getElem?_eq_getElem hj]
  rfl
theorem mS_num {g : Int} {i : Nat} {ex : Str} (hx : ExP g i ex) (b : Str) (k : Nat) : mS (0, 0) ex b k ex.length = numB ex (b.drop k) := by
  rcases hx.lst with rfl | rfl | rfl | rfl | rfl | rfl
  · rw [num_0]; rfl
  · rw [num_d]; rfl
  · rw [num_e]; rfl
  · rw [num_n]; rfl
  · rw [num_w]; rfl
  · rw [num_dn]
    show stepL 110 (b.drop (k + 1)) (stepL 100 (b.drop (k + 0)) (0, 0)) = _
    have e1 : stepL 100 (b.drop (k + 0)) (0, 0) = (sgB ((b.drop k).getD 0 0), 0) := by unfold stepL; rw [if_pos rfl]; rfl
    rw [e1]
    unfold stepL
    rw [if_neg (by decide), if_neg (by decide), if_pos rfl]
    simp only [getD_drop, Nat.add_zero]
theorem sumN_all (ex : Str) {j : Nat} (h : j ≤ ex.length) : sumN ex j ≤ sumN ex ex.length := by
  have e : ex = ex.take j ++ ex.drop j := (List.take_append_drop j ex).symm
  have h1 : sumN ex ex.length = sumN ex j + ((ex.drop j).map letN).sum := by
    unfold sumN
    rw [List.take_length]
    conv => lhs; rw [e]
    rw [List.map_append, List.sum_append]
  omega
theorem ex_let {g : Int} {i : Nat} {ex : Str} (hx : ExP g i ex) {j : Nat} (hj : j < ex.length) : ex[j] = 100 ∨ ex[j] = 101 ∨ ex[j] = 110 ∨ ex[j] = 119 := by
  have hm := List.getElem_mem hj
  generalize ex[j] = c at hm ⊢
  rcases hx.lst with rfl | rfl | rfl | rfl | rfl | rfl
  · cases hm
  · exact .inl (List.mem_singleton.1 hm)
  · exact .inr (.inl (List.mem_singleton.1 hm))
  · exact .inr (.inr (.inl (List.mem_singleton.1 hm)))
  · exact .inr (.inr (.inr (List.mem_singleton.1 hm)))
  · rcases List.mem_cons.1 hm with h | h
    · exact .inl h
    · exact .inr (.inr (.inl (List.mem_singleton.1 h)))
theorem ex_len {g : Int} {i : Nat} {ex : Str} (hx : ExP g i ex) : ex.length ≤ 2 := by
  rcases hx.lst with rfl | rfl | rfl | rfl | rfl | rfl <;> decide
theorem pre_5 {p : Int} (h : 5 ≤ p ∧ p ≤ 6) : (preS p).length = 2 := by
  rcases (by omega : p = 5 ∨ p = 6) with rfl | rfl <;> rfl
end Go.Proofs.YtclhaejdjogfbaaGreat
namespace Go.Proofs.YtclhaejdjogfbaaGreat
open Go.RowKit Go.Shelf
theorem cellsB_one (ys : Str) : ∀ u ∈ cellsB ys, u.oneCell' = true := fun u hu => by
  unfold cellsB at hu
  obtain ⟨b, -, rfl⟩ := List.mem_map.1 hu
  rfl
theorem cellsB_append (xs ys : Str) : cellsB (xs ++ ys) = cellsB xs ++ cellsB ys := by unfold cellsB; rw [List.map_append]
theorem BytesAt.news {w : World} {A : Option Addr} {ys : Str} (h : BytesAt w A ys) : ys.length = 0 ∨ ∃ a, A = some a ∧ ∀ j u, (cellsB ys)[j]? = some u → w.cell? (a.add j) = some u := by
  rcases h with rfl | ⟨b, off, rfl, hc⟩
  · exact .inl rfl
  · refine .inr ⟨_, rfl, fun j u hu => ?_⟩
    have hadd : (⟨b, off, none⟩ : Addr).add j = ⟨b, off + j, none⟩ := by unfold Addr.add; split <;> simp_all
    rw [hadd]
    unfold cellsB at hu
    rw [List.getElem?_map] at hu
    cases hy : ys[j]? with
    | none => rw [hy] at hu; cases hu
    | some y =>
      rw [hy] at hu
      obtain ⟨hj, hy2⟩ := List.getElem?_eq_some_iff.1 hy
      obtain rfl := Option.some.inj hu
      rw [hc j hj, hy2]
theorem run_appBs (w : World) (B : Nat) (v : Value) (xs : Str) (h : TOwnB w B v xs) (A : Option Addr) (c : Nat) (ys : Str) (hP : BytesAt w A ys) (hB : B ≤ w.heap.size) (hs : xs.length + ys.length ≤ 100000) :
    ∃ v' w', (Builtin.append_ #[22, 22] 22 #[v, .slice A ys.length c]).run Tryz.prog w = .ok v' w' ∧ TOwnB w' B v' (xs ++ ys) ∧ Below B w w' ∧ w.grownBy w' v.ownBlock := by
  obtain ⟨i0, hi, hz0, hz1, hz2⟩ := info_parts tinfo_u8
  obtain ⟨v', w', k1, k2, k3⟩ := run_append_src w B 22 22 5 i0 _ 1 1 Tryz.underlying22 hi hz0 hz1 hz2 rfl (by decide) v xs.length (cellsB xs) h A ys.length c (cellsB ys)
    (by unfold cellsB; simp) hP.news (cellsB_one ys) (by unfold maxLen; omega) (by omega) hB
  refine ⟨v', w', k1, ?_, (Below.refl B w).grown k3 hB fun k hk => (World.ownsRow.lt h k hk).1, k3⟩
  unfold TOwnB
  rw [cellsB_append, List.length_append]
  exact k2
theorem wpList_appBs {wr : World} {B : Nat} {v : Value} {xs : Str} (h : TOwnB wr B v xs) {A : Option Addr} {c : Nat} {ys : Str} (hP : BytesAt wr A ys) (hB : B ≤ wr.heap.size) (hs : xs.length + ys.length ≤ 100000) {ops : Array Oper} {rest : List Oper} {o : Oper} {a : Act} {Q : Exit → Act → World → Prop} (hgd : o.guard = none) (s x : Operand)
    (ho : o.op = .call { callee := .builtin .append, args := #[s, x], argTypes := #[22, 22] }) (hty : o.type = 22) (hsv : a.eval s = v) (m : Nat) (hm : ys.length = m) (hx : a.eval x = .slice A m c) (n : Nat) (hn : xs.length + m = n)
    (k : ∀ A' cap' w1, TOwnB w1 B (.slice A' n cap') (xs ++ ys) → Below B wr w1 → wpList Tryz.prog ops Q rest (a.put o.dst (.slice A' n cap')) w1) : wpList Tryz.prog ops Q (o :: rest) a wr := by
  subst hm hn
  obtain ⟨v', w', k1, k2, k3, -⟩ := run_appBs wr B v xs h A c ys hP hB hs
  obtain ⟨A', cap', rfl, -⟩ := k2.bytes
  rw [List.length_append] at k1 k2
  exact wpList_run_append k1 hgd s x ho hty hsv hx (k A' cap' w' k2 k3)
theorem bytes_new2 (w : World) (a b : UInt8) : BytesAt (w.alloc (.cells #[.int .u8 (a.toNat : Int), .int .u8 (b.toNat : Int)] 5)) (some ⟨w.heap.size, 0, none⟩) [a, b] := by
  refine .inr ⟨_, _, rfl, fun j hj => ?_⟩
  rw [Lib.cell_of_heap (heap_alloc_new w _)]
  have : j = 0 ∨ j = 1 := by simp at hj; omega
  rcases this with rfl | rfl <;> rfl
theorem townB_nil (w : World) (n : Nat) : TOwnB w n (.slice none 0 0) [] := World.ownsRow_nil _ _ _ _
theorem TOwnB.lift {w : World} {n m : Nat} {v : Value} {xs : Str} (h : TOwnB w n v xs) (k : m ≤ n) : TOwnB w m v xs := row_mono h k
end Go.Proofs.YtclhaejdjogfbaaGreat
namespace Go.Proofs.YtclhaejdjogfbaaGreat
open Go.RowKit Go.Shelf
attribute [local go_sem] Oper.semAt_some
theorem u8_beq (a b : UInt8) : ((a.toNat : Int) == (b.toNat : Int)) = decide (a = b) := by
  by_cases h : a = b
  · subst h
    rw [decide_eq_true rfl]
    exact beq_self_eq_true _
  · rw [decide_eq_false h]
    exact beq_eq_false_iff_ne.2 fun e => h (UInt8.toNat_inj.1 (by omega))
theorem rhas_any (ex : Str) (hx : ex.length ≤ 1000) (c : UInt8) (w : World) :
    Calls Tryz.prog 59 #[.string (sB ex), .int .u8 (c.toNat : Int)] w fun e w' => e = .returned (.bool (ex.contains c)) ∧ w' = w := by
  obtain ⟨s, hs⟩ : ∃ s, sB ex = s := ⟨_, rfl⟩
  have hz : s.size = ex.length := by rw [← hs, sB_size]
  have hat : ∀ k (h : k < s.size) (h' : k < ex.length), s[k] = ex[k] := fun k h h' => by subst hs; exact sB_at ex k h h'
  have HAT := Lib.hid hat
  rw [hs]
  obtain ⟨l, hl⟩ : ∃ l, ex.length = l := ⟨_, rfl⟩
  have HL := Lib.hid hl
  rw [hl] at hz hx
  obtain ⟨x, hx9⟩ : ∃ x, (c.toNat : Int) = x := ⟨_, rfl⟩
  have HX := Lib.hid hx9
  rw [hx9]
  clear hs hat hl hx9
  go_enter Tryz.func59, Tryz.ntmps59
  go_wp2
  go_loopw [5] (fun i wr => ∃ j : Nat, j ≤ l ∧ i = .int .i64 j ∧ Hid (∀ k (h : k < ex.length), k < j → ex[k] ≠ c) ∧ Hid (wr = w)) (fun i _ => l - (intOf i).toNat)
  case atStart => exact ⟨0, Nat.zero_le _, rfl, fun k h h2 => by omega, rfl⟩
  case round =>
    obtain ⟨j, hj, rfl, R, B⟩ := hrel
    by_cases hlt : j < l
    · have hlt' : j < s.size := by omega
      have hj1 : j < ex.length := by rw [HL.out]; exact hlt
      have e1 := HAT.out j hlt' hj1
      have hb : ((s[j].toNat : Int) == x) = decide (ex[j] = c) := by rw [← HX.out, e1]; exact u8_beq _ _
      obtain ⟨tt, htt⟩ : ∃ z, decide (ex[j] = c) = z := ⟨_, rfl⟩
      rw [htt] at hb
      have hj1k : j ≤ 1000 := by omega
      cases tt with
      | true =>
        have T : Hid (true = ex.contains c) := by
          show true = _
          exact (List.contains_iff_mem.2 (of_decide_eq_true htt ▸ List.getElem_mem hj1)).symm
        clear htt e1 hj1 R
        go_wp2
        go_ret
        exact ⟨ret_bool T.out, B.out⟩
      | false =>
        have R2 : Hid (∀ k (h : k < ex.length), k < j + 1 → ex[k] ≠ c) := fun k h h2 => by
          by_cases e : k = j
          · subst e; exact of_decide_eq_false htt
          · exact R.out k h (by omega)
        clear htt e1 hj1 R
        go_wp2
        go_roundw
        case rel => exact ⟨j + 1, by omega, by go_num, R2.out, B.out⟩
        case measure => simp [intOf]; omega
    · have T : Hid (false = ex.contains c) := by
        show false = _
        refine (Bool.eq_false_iff.2 fun h => ?_).symm
        obtain ⟨k, hk, e⟩ := List.getElem_of_mem (List.contains_iff_mem.1 h)
        exact R.out k hk (by have := HL.out; omega) e
      clear R
      go_wp2
      go_ret
      exact ⟨ret_bool T.out, B.out⟩
theorem rwithin_any (c : UInt8) (n : Int) (w : World) :
    Calls Tryz.prog 40 #[.int .u8 (c.toNat : Int), .int .i64 n] w fun e w' => e = .returned (.bool (withR c n)) ∧ w' = w := by
  have e1 : ((c.toNat : Int) == 100) = decide (c = 100) := u8_beq c 100
  have e2 : ((c.toNat : Int) == 101) = decide (c = 101) := u8_beq c 101
  have e3 : ((c.toNat : Int) == 110) = decide (c = 110) := u8_beq c 110
  obtain ⟨x, hx⟩ : ∃ x, (c.toNat : Int) = x := ⟨_, rfl⟩
  rw [hx] at e1 e2 e3 ⊢
  clear hx
  have cmp : ∀ a b : Int, ((a ≤ n ∧ n ≤ b) ∨ (a ≤ n ∧ ¬ n ≤ b) ∨ ¬ a ≤ n) := fun a b => by omega
  by_cases h1 : c = 100
  · subst h1
    have T : Hid (withR 100 n = (decide (-128 ≤ n) && decide (n ≤ 127))) := rfl
    rw [decide_eq_true rfl] at e1
    clear e2 e3
    rcases cmp (-128) 127 with ⟨g1, g2⟩ | ⟨g1, g2⟩ | g1
    all_goals
      go_enter Tryz.func40, Tryz.ntmps40
      go_wp2
      go_ret
      exact ⟨ret_bool (by rw [T.out]; simp_all <;> (intros; omega)), rfl⟩
  · rw [decide_eq_false h1] at e1
    by_cases h2 : c = 101
    · subst h2
      have T : Hid (withR 101 n = (decide (-128 ≤ n) && decide (n ≤ 127))) := rfl
      rw [decide_eq_true rfl] at e2
      clear e3 h1
      rcases cmp (-128) 127 with ⟨g1, g2⟩ | ⟨g1, g2⟩ | g1
      all_goals
        go_enter Tryz.func40, Tryz.ntmps40
        go_wp2
        go_ret
        exact ⟨ret_bool (by rw [T.out]; simp_all <;> (intros; omega)), rfl⟩
    · rw [decide_eq_false h2] at e2
      by_cases h3 : c = 110
      · subst h3
        have T : Hid (withR 110 n = (decide (0 ≤ n) && decide (n ≤ 255))) := rfl
        rw [decide_eq_true rfl] at e3
        clear h1 h2
        rcases cmp 0 255 with ⟨g1, g2⟩ | ⟨g1, g2⟩ | g1
        all_goals
          go_enter Tryz.func40, Tryz.ntmps40
          go_wp2
          go_ret
          exact ⟨ret_bool (by rw [T.out]; simp_all <;> (intros; omega)), rfl⟩
      · have T : Hid (withR c n = (decide (0 ≤ n) && decide (n ≤ 65535))) := by show _ = _; unfold withR; rw [if_neg (by rintro (h | h) <;> contradiction), if_neg h3]
        rw [decide_eq_false h3] at e3
        clear h1 h2 h3
        rcases cmp 0 65535 with ⟨g1, g2⟩ | ⟨g1, g2⟩ | g1
        all_goals
          go_enter Tryz.func40, Tryz.ntmps40
          go_wp2
          go_ret
          exact ⟨ret_bool (by rw [T.out]; simp_all <;> (intros; omega)), rfl⟩
end Go.Proofs.YtclhaejdjogfbaaGreat
namespace Go.Proofs.YtclhaejdjogfbaaGreat
open Go.RowKit Go.Shelf
attribute [local go_sem] Oper.semAt_some
theorem varKB_eq (t : Tr) : varKB t = ((t.1 == 6) || (t.1 == 7)) := rfl
theorem drop_any {L : List Tr} {k : Nat} (h : ∀ j (hj : j < L.length), k < j → varKB L[j] = false) : (L.drop (k + 1)).any varKB = false := by
  rw [List.any_eq_false]
  intro x hx
  obtain ⟨i, hi, rfl⟩ := List.getElem_of_mem hx
  rw [List.getElem_drop]
  rw [h _ (by simp at hi; omega) (by omega)]
  decide
theorem drop_yes {L : List Tr} {k j : Nat} (hj : j < L.length) (hk : k < j) (h : varKB L[j] = true) : (L.drop (k + 1)).any varKB = true := by
  rw [List.any_eq_true]
  refine ⟨L[j], ?_, h⟩
  have : L[j] = (L.drop (k + 1))[j - (k + 1)]'(by simp; omega) := by rw [List.getElem_drop]; congr 1; omega
  rw [this]
  exact List.getElem_mem _
def lastR (ex : Str) : UInt8 := if ex.contains 110 = true then 110 else if ex.contains 119 = true then 119 else 0
theorem letR_a {ex : Str} {L : List Tr} {k : Nat} (hk : k < L.length) (h : L[k].1 = 5) (hc : ex.contains 100 = true) : letR ex L k = 100 := by
  unfold letR; rw [if_pos ⟨by rw [List.getD_eq_getElem?_getD, List.getElem?_eq_getElem hk]; exact h, hc⟩]
theorem letR_b {ex : Str} {L : List Tr} {k : Nat} (hk : k < L.length) (h1 : ¬ (L[k].1 = 5 ∧ ex.contains 100 = true)) (h : L[k].1 = 10) (hc : ex.contains 101 = true) : letR ex L k = 101 := by
  have e : (L.getD k tr0) = L[k] := by rw [List.getD_eq_getElem?_getD, List.getElem?_eq_getElem hk]; rfl
  unfold letR; rw [e, if_neg h1, if_pos ⟨h, hc⟩]
theorem letR_c {ex : Str} {L : List Tr} {k : Nat} (hk : k < L.length) (h1 : ¬ (L[k].1 = 5 ∧ ex.contains 100 = true)) (h2 : ¬ (L[k].1 = 10 ∧ ex.contains 101 = true)) (h : varKB L[k] = false) : letR ex L k = 0 := by
  have e : (L.getD k tr0) = L[k] := by rw [List.getD_eq_getElem?_getD, List.getElem?_eq_getElem hk]; rfl
  unfold letR; rw [e, if_neg h1, if_neg h2, if_pos h]
theorem letR_d {ex : Str} {L : List Tr} {k : Nat} (hk : k < L.length) (h1 : ¬ (L[k].1 = 5 ∧ ex.contains 100 = true)) (h2 : ¬ (L[k].1 = 10 ∧ ex.contains 101 = true)) (h : varKB L[k] = true) (hd : (L.drop (k + 1)).any varKB = true) : letR ex L k = 0 := by
  have e : (L.getD k tr0) = L[k] := by rw [List.getD_eq_getElem?_getD, List.getElem?_eq_getElem hk]; rfl
  unfold letR; rw [e, if_neg h1, if_neg h2, if_neg (by rw [h]; decide), if_pos hd]
theorem letR_e {ex : Str} {L : List Tr} {k : Nat} (hk : k < L.length) (h1 : ¬ (L[k].1 = 5 ∧ ex.contains 100 = true)) (h2 : ¬ (L[k].1 = 10 ∧ ex.contains 101 = true)) (h : varKB L[k] = true) (hd : (L.drop (k + 1)).any varKB = false) : letR ex L k = lastR ex := by
  have e : (L.getD k tr0) = L[k] := by rw [List.getD_eq_getElem?_getD, List.getElem?_eq_getElem hk]; rfl
  unfold letR; rw [e, if_neg h1, if_neg h2, if_neg (by rw [h]; decide), if_neg (by rw [hd]; decide)]; rfl
def RetLet (w : World) (c : UInt8) (e : Ending) (w' : World) : Prop := e = .returned (.int .u8 (c.toNat : Int)) ∧ Below w.heap.size w w'
end Go.Proofs.YtclhaejdjogfbaaGreat
