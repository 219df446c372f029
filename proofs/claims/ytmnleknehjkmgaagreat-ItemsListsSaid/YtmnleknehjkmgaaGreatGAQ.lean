/-
  SeVb, TbV, EnO, EnA, DeA, DeB, DeE, DeD, EnB, SeRa, SeRb, SeRc.
-/
import Derived.Test.YtmnleknehjkmgaaGreatGAB
import Derived.Test.YtmnleknehjkmgaaGreatMSeN
import Derived.Test.YtmnleknehjkmgaaGreatGAI
import Derived.Test.YtmnleknehjkmgaaGreatGAA
import Derived.Test.YtmnleknehjkmgaaGreatGAC
import Derived.Deep.DeepCutAuto
import Derived.Test.YtmnleknehjkmgaaGreatGAE
import Derived.Test.YtmnleknehjkmgaaGreatGAG
set_option linter.all false
set_option maxRecDepth 100000
set_option maxHeartbeats 4000000
namespace Go.Proofs.YtmnleknehjkmgaaGreat
open Go.RowKit
end Go.Proofs.YtmnleknehjkmgaaGreat
namespace Go.Proofs.YtmnleknehjkmgaaGreat
open Go.RowKit Go.Shelf
attribute [local go_sem] Oper.semAt_some
def letN (c : UInt8) : Nat := if c = 100 ∨ c = 101 ∨ c = 110 then 1 else if c = 119 then 2 else 0
def sumN (ex : Str) (k : Nat) : Nat := ((ex.take k).map letN).sum
theorem sumN_succ (ex : Str) (k : Nat) (h : k < ex.length) : sumN ex (k + 1) = sumN ex k + letN ex[k] := by
  unfold sumN
  rw [List.take_succ_eq_append_getElem h, List.map_append, List.sum_append]
  simp
theorem letN_le (c : UInt8) : letN c ≤ 2 := by
  unfold letN
  split
  · omega
  · split <;> omega
theorem sumN_le (ex : Str) : ∀ k, k ≤ ex.length → sumN ex k ≤ 2 * k
  | 0, _ => by unfold sumN; simp
  | k + 1, h => by
    rw [sumN_succ ex k (by omega)]
    have h1 := sumN_le ex k (by omega)
    have h2 := letN_le ex[k]
    omega
def sizeT (page : Int) (ex : Str) : Nat := (preS page).length + 1 + sumN ex ex.length
theorem pre_le (page : Int) : (preS page).length ≤ 2 := by
  unfold preS
  repeat' split
  all_goals simp
theorem size_any (page op : Int) (m : Str) (A : Option Addr) (n cap : Nat) (ex : Str) (hx : ex.length ≤ 1000) (al : Bool) (w : World) :
    Calls Tryz.prog 96 #[enV page op m (.slice A n cap) ex al] w fun e w' => e = .returned (.int .i64 (sizeT page ex : Nat)) ∧ Below w.heap.size w w' := by
  unfold enV
  obtain ⟨s, hs⟩ : ∃ s, sB ex = s := ⟨_, rfl⟩
  have hz : s.size = ex.length := by rw [← hs, sB_size]
  have hat : ∀ k (h : k < s.size) (h' : k < ex.length), s[k] = ex[k] := fun k h h' => by subst hs; exact sB_at ex k h h'
  have HAT := Lib.hid hat
  have HX := Lib.hid hx
  obtain ⟨l, hl⟩ : ∃ l, ex.length = l := ⟨_, rfl⟩
  have HL := Lib.hid hl
  rw [hl] at hz hx
  have hcv := fun (w : World) => run_bytes_of_string (P := Tryz.prog) w 9 22 5 s Tryz.underlying9 Tryz.underlying22 Tryz.underlying5
  rw [hs]
  clear hs hat hl
  obtain ⟨w0, hw0⟩ : ∃ w0, w.alloc (.cells #[.int .i64 page, .int .u8 op, .string (sB m), .slice A n cap, .string s, .bool al] 122) = w0 := ⟨_, rfl⟩
  obtain ⟨b, hb⟩ : ∃ b, w.heap.size = b := ⟨_, rfl⟩
  have B0 : Hid (Below b w w0) := by rw [← hw0, ← hb]; exact (Below.refl _ _).alloc (Nat.le_refl _) _
  have Z0 : w0.heap.size = b + 1 := by rw [← hw0, ← hb]; simp
  have c0 : w0.heap[b]? = some (.cells #[.int .i64 page, .int .u8 op, .string (sB m), .slice A n cap, .string s, .bool al] 122 (0, 0)) := by rw [← hw0, ← hb]; exact World.alloc_heap_new w _
  have C0 := Lib.hid c0
  have hpp := prefixes_any page w0
  have k0 := Lib.cell_of_heap c0 0
  have HB := Lib.hid hb
  have HPL := Lib.hid (pre_le page)
  obtain ⟨pl, hpl⟩ : ∃ p, (preS page).length = p := ⟨_, rfl⟩
  have HP := Lib.hid hpl
  clear c0
  go_enter Tryz.func96, Tryz.ntmps96
  go_wp2_with fail
  refine hpp.mono ?_
  rintro e w1 ⟨v, rfl, hO, hb1⟩
  obtain ⟨A1, cap1, rfl, -⟩ := hO.bytes
  rw [hpl]
  have B1 : Hid (Below b w w1) := B0.out.trans (hb1.mono (by omega))
  have c1 := (hb1.block b (by omega)).trans C0.out
  have C1 := Lib.hid c1
  have k4 := Lib.cell_of_heap c1 4
  have hp2 : pl ≤ 2 := by rw [← hpl]; exact HPL.out
  have S := Lib.hid (rowB_start w1 s (grownCap w1 s.size 0 5) 5)
  have B2 : Hid (Below b w (w1.alloc (.cells (bytesRow s (grownCap w1 s.size 0 5)) 5 ((bytesRow s (grownCap w1 s.size 0 5)).size, (bytesRow s (grownCap w1 s.size 0 5)).size + 1))).drew) :=
    (B1.out.alloc (by have := hb1.size; omega) _).drew
  rw [hz] at S B2
  obtain ⟨q, hq⟩ : ∃ q, w1.heap.size = q := ⟨_, rfl⟩
  rw [hq] at S
  clear hpp hO hb1 c1 k0 hw0 B0 C0 hpl
  go_wp2
  clear hcv
  go_loopw [15, 3] (fun i o wr => ∃ k : Nat, k ≤ l ∧ i = .int .i64 k ∧ o = .int .i64 ((pl + 1 + sumN ex k : Nat) : Int) ∧ Hid (RowB wr s q) ∧ Hid (Below b w wr)) (fun i _ _ => l - (intOf i).toNat)
  case atStart => exact ⟨0, Nat.zero_le _, rfl, rfl, S.out, B2.out⟩
  case round =>
    clear S B2
    obtain ⟨k, hk, rfl, rfl, R, B⟩ := hrel
    by_cases hlt : k < l
    · have hlt' : k < s.size := by omega
      have hlt2 : k < ex.length := by rw [HL.out]; exact hlt
      have g1 : wr.cell? ⟨q, k, none⟩ = some (.int .u8 (s[k].toNat : Int)) := R.out k hlt'
      rw [HAT.out k hlt' hlt2] at g1
      have SS := sumN_succ ex k hlt2
      have SL := sumN_le ex k (by omega)
      obtain ⟨c, hc⟩ : ∃ c, ex[k] = c := ⟨_, rfl⟩
      rw [hc] at g1 SS
      obtain ⟨t, ht⟩ : ∃ t, sumN ex k = t := ⟨_, rfl⟩
      rw [ht] at SS SL ⊢
      have SS := Lib.hid SS
      clear hc ht
      have hk1 : k ≤ 1000 := by omega
      go_wp2
      · have e : c = 100 := of_decide_eq_true (u8_is c 100 (by decide) true (by assumption))
        have LN : letN c = 1 := by rw [e]; rfl
        go_roundw
        case rel => exact ⟨k + 1, by omega, by go_num, by rw [SS.out, LN]; go_num, R, B⟩
        case measure => simp [intOf]; omega
      · have e : c = 101 := of_decide_eq_true (u8_is c 101 (by decide) true (by assumption))
        have LN : letN c = 1 := by rw [e]; rfl
        go_roundw
        case rel => exact ⟨k + 1, by omega, by go_num, by rw [SS.out, LN]; go_num, R, B⟩
        case measure => simp [intOf]; omega
      · have e : c = 110 := of_decide_eq_true (u8_is c 110 (by decide) true (by assumption))
        have LN : letN c = 1 := by rw [e]; rfl
        go_roundw
        case rel => exact ⟨k + 1, by omega, by go_num, by rw [SS.out, LN]; go_num, R, B⟩
        case measure => simp [intOf]; omega
      · have e : c = 119 := of_decide_eq_true (u8_is c 119 (by decide) true (by assumption))
        have LN : letN c = 2 := by rw [e]; rfl
        go_roundw
        case rel => exact ⟨k + 1, by omega, by go_num, by rw [SS.out, LN]; go_num, R, B⟩
        case measure => simp [intOf]; omega
      · have a1 : ¬ c = 100 := of_decide_eq_false (u8_is c 100 (by decide) false (by assumption))
        have a2 : ¬ c = 101 := of_decide_eq_false (u8_is c 101 (by decide) false (by assumption))
        have a3 : ¬ c = 110 := of_decide_eq_false (u8_is c 110 (by decide) false (by assumption))
        have a4 : ¬ c = 119 := of_decide_eq_false (u8_is c 119 (by decide) false (by assumption))
        have LN : letN c = 0 := by unfold letN; rw [if_neg (by rintro (h | h | h) <;> contradiction), if_neg a4]
        go_roundw
        case rel => exact ⟨k + 1, by omega, by go_num, by rw [SS.out, LN]; go_num, R, B⟩
        case measure => simp [intOf]; omega
    · obtain rfl : k = l := by omega
      have T : Hid (sizeT page ex = pl + 1 + sumN ex k) := by show sizeT page ex = _; unfold sizeT; rw [HP.out, HL.out]
      go_wp2
      go_ret
      exact ⟨by rw [T.out]; rfl, by rw [HB.out]; exact B.out⟩
end Go.Proofs.YtmnleknehjkmgaaGreat
namespace Go.Proofs.YtmnleknehjkmgaaGreat
open Go.RowKit
def byteI (n : Int) : UInt8 := UInt8.ofNat (n % 256).toNat
theorem byteI_nat (n : Int) : ((byteI n).toNat : Int) = n % 256 := by
  unfold byteI
  rw [UInt8.toNat_ofNat_of_lt' (by have := Int.emod_lt_of_pos n (show (0 : Int) < 256 by decide); have := Int.emod_nonneg n (show (256 : Int) ≠ 0 by decide); show (n % 256).toNat < 256; omega)]
  have := Int.emod_nonneg n (show (256 : Int) ≠ 0 by decide)
  omega
def letB (d n : Int) (c : UInt8) : Str := if c = 100 then [byteI d] else if c = 119 then [byteI n, byteI (n / 256)] else [byteI n]
def encB (page op : Int) (ex : Str) (d n : Int) : Str := if 5 ≤ page then preS page ++ [byteI d, byteI op] else preS page ++ byteI op :: ex.flatMap (letB d n)
end Go.Proofs.YtmnleknehjkmgaaGreat
namespace Go.Proofs.YtmnleknehjkmgaaGreat
open Go.RowKit
def exB (g : Int) (n : Nat) (ex : Str) : Bool :=
  (ex == [] || ex == [100] || ex == [101] || ex == [110] || ex == [119] || ex == [100, 110]) && (decide (g < 5) || ex == [100]) &&
  (g != 0 || (n != 203 && n != 221 && n != 237 && n != 253)) && ((g != 3 && g != 4) || n != 203)
def exN (g n : Nat) : Bool := match ratT (g : Int) n with
  | some x => exB (g : Int) n x.2.2.1
  | none => true
theorem ex_k : ∀ g : Fin 7, ∀ n : Fin 256, exN g.val n.val = true := by decide +kernel
theorem ex_of {page : Int} {n : Nat} (hn : n < 256) {x : En} (h : ratT page n = some x) : exB page n x.2.2.1 = true ∧ 0 ≤ page ∧ page ≤ 6 := by
  by_cases hp : 0 ≤ page ∧ page ≤ 6
  · obtain ⟨g, rfl⟩ : ∃ g : Nat, page = (g : Int) := ⟨page.toNat, by omega⟩
    have h1 := ex_k ⟨g, by omega⟩ ⟨n, hn⟩
    unfold exN at h1
    rw [h] at h1
    exact ⟨h1, hp⟩
  · rw [ratT_no hp] at h
    cases h
structure ExP (g : Int) (n : Nat) (ex : Str) : Prop where
  lst : ex = [] ∨ ex = [100] ∨ ex = [101] ∨ ex = [110] ∨ ex = [119] ∨ ex = [100, 110]
  hi : 5 ≤ g → ex = [100]
  main : g = 0 → n ≠ 203 ∧ n ≠ 221 ∧ n ≠ 237 ∧ n ≠ 253
  ind : g = 3 ∨ g = 4 → n ≠ 203
  pg : 0 ≤ g ∧ g ≤ 6
theorem exP_of {page : Int} {n : Nat} (hn : n < 256) {x : En} (h : ratT page n = some x) : ExP page n x.2.2.1 := by
  obtain ⟨h1, h2⟩ := ex_of hn h
  unfold exB at h1
  simp only [Bool.and_eq_true, Bool.or_eq_true, beq_iff_eq, bne_iff_ne, decide_eq_true_eq, ne_eq] at h1
  obtain ⟨⟨⟨a, b⟩, c⟩, d⟩ := h1
  refine ⟨?_, fun h => ?_, fun h => ?_, fun h => ?_, h2⟩
  · rcases a with ((((a | a) | a) | a) | a) | a
    · exact .inl a
    · exact .inr (.inl a)
    · exact .inr (.inr (.inl a))
    · exact .inr (.inr (.inr (.inl a)))
    · exact .inr (.inr (.inr (.inr (.inl a))))
    · exact .inr (.inr (.inr (.inr (.inr a))))
  · rcases b with b | b
    · omega
    · exact b
  · rcases c with c | c
    · exact absurd h c
    · exact ⟨c.1.1.1, c.1.1.2, c.1.2, c.2⟩
  · rcases d with d | d
    · rcases h with h | h
      · exact absurd h d.1
      · exact absurd h d.2
    · exact d
theorem putB_rng {v : Vr} {L : List Tr} {n : Int} (hz : v.2.1 ≤ 0 ∧ 0 ≤ v.2.2) (h : putB v L n = true) : v.2.1 ≤ n ∧ n ≤ v.2.2 := by
  unfold putB at h
  cases ha : atV v.1 L with
  | none =>
    rw [ha] at h
    simp only [decide_eq_true_eq] at h
    omega
  | some k =>
    rw [ha] at h
    simp only at h
    unfold inV at h
    simpa using h
def numsIn (ex : Str) (d n : Int) : Prop :=
  (ex = [] → d = 0 ∧ n = 0) ∧ (ex = [100] → -128 ≤ d ∧ d ≤ 127 ∧ n = 0) ∧ (ex = [101] → d = 0 ∧ -128 ≤ n ∧ n ≤ 127) ∧ (ex = [110] → d = 0 ∧ 0 ≤ n ∧ n ≤ 255) ∧ (ex = [119] → d = 0 ∧ 0 ≤ n ∧ n ≤ 65535) ∧ (ex = [100, 110] → -128 ≤ d ∧ d ≤ 127 ∧ 0 ≤ n ∧ n ≤ 255)
theorem nums_in {ex : Str} {L C : List Tr} {d n : Int} (h : fillV ex L d n = some C) : numsIn ex d n := by
  obtain ⟨-, h1, h2, -⟩ := fill_shape h
  refine ⟨?_, ?_, ?_, ?_, ?_, ?_⟩
  · rintro rfl
    have e1 := putB_rng (v := (varsV []).1) (by decide) h1
    have e2 := putB_rng (v := (varsV []).2) (by decide) h2
    have f1 : (varsV []).1.2 = (0, 0) := rfl
    have f2 : (varsV []).2.2 = (0, 0) := rfl
    rw [f1] at e1
    rw [f2] at e2
    simp only at e1 e2
    omega
  · rintro rfl
    have e1 := putB_rng (v := (varsV [100]).1) (by decide) h1
    have e2 := putB_rng (v := (varsV [100]).2) (by decide) h2
    have f1 : (varsV [100]).1.2 = (-128, 127) := rfl
    have f2 : (varsV [100]).2.2 = (0, 0) := rfl
    rw [f1] at e1
    rw [f2] at e2
    simp only at e1 e2
    omega
  · rintro rfl
    have e1 := putB_rng (v := (varsV [101]).1) (by decide) h1
    have e2 := putB_rng (v := (varsV [101]).2) (by decide) h2
    have f1 : (varsV [101]).1.2 = (0, 0) := rfl
    have f2 : (varsV [101]).2.2 = (-128, 127) := rfl
    rw [f1] at e1
    rw [f2] at e2
    simp only at e1 e2
    omega
  · rintro rfl
    have e1 := putB_rng (v := (varsV [110]).1) (by decide) h1
    have e2 := putB_rng (v := (varsV [110]).2) (by decide) h2
    have f1 : (varsV [110]).1.2 = (0, 0) := rfl
    have f2 : (varsV [110]).2.2 = (0, 255) := rfl
    rw [f1] at e1
    rw [f2] at e2
    simp only at e1 e2
    omega
  · rintro rfl
    have e1 := putB_rng (v := (varsV [119]).1) (by decide) h1
    have e2 := putB_rng (v := (varsV [119]).2) (by decide) h2
    have f1 : (varsV [119]).1.2 = (0, 0) := rfl
    have f2 : (varsV [119]).2.2 = (0, 65535) := rfl
    rw [f1] at e1
    rw [f2] at e2
    simp only at e1 e2
    omega
  · rintro rfl
    have e1 := putB_rng (v := (varsV [100, 110]).1) (by decide) h1
    have e2 := putB_rng (v := (varsV [100, 110]).2) (by decide) h2
    have f1 : (varsV [100, 110]).1.2 = (-128, 127) := rfl
    have f2 : (varsV [100, 110]).2.2 = (0, 255) := rfl
    rw [f1] at e1
    rw [f2] at e2
    simp only at e1 e2
    omega
def hdB : Str → Option (Int × UInt8 × Str)
  | [] => none
  | b :: r =>
    if b = 203 then (match r with | o :: t => some (1, o, t) | [] => none)
    else if b = 237 then (match r with | o :: t => some (2, o, t) | [] => none)
    else if b = 221 then (match r with | o :: t => if o = 203 then (match t with | x :: y :: u => some (5, y, x :: u) | _ => none) else some (3, o, t) | [] => none)
    else if b = 253 then (match r with | o :: t => if o = 203 then (match t with | x :: y :: u => some (6, y, x :: u) | _ => none) else some (4, o, t) | [] => none)
    else some (0, b, r)
theorem op_ne {n m : Nat} (hn : n < 256) (hm : m < 256) (h : n ≠ m) : byteI (n : Int) ≠ UInt8.ofNat m := fun e => by
  have h1 := byteI_nat (n : Int)
  rw [e, UInt8.toNat_ofNat_of_lt' (show m < 256 from hm)] at h1
  omega
theorem hd_enc {g : Int} {n : Nat} (hn : n < 256) {ex : Str} (hx : ExP g n ex) (d x : Int) (r : Str) :
    hdB (encB g (n : Int) ex d x ++ r) = some (g, byteI (n : Int), if 5 ≤ g then byteI d :: r else ex.flatMap (letB d x) ++ r) := by
  obtain ⟨h0, h6⟩ := hx.pg
  unfold encB
  rcases (by omega : g = 0 ∨ g = 1 ∨ g = 2 ∨ g = 3 ∨ g = 4 ∨ g = 5 ∨ g = 6) with rfl | rfl | rfl | rfl | rfl | rfl | rfl
  · obtain ⟨m1, m2, m3, m4⟩ := hx.main rfl
    have e1 : byteI (n : Int) ≠ 203 := op_ne hn (by decide) m1
    have e2 : byteI (n : Int) ≠ 221 := op_ne hn (by decide) m2
    have e3 : byteI (n : Int) ≠ 237 := op_ne hn (by decide) m3
    have e4 : byteI (n : Int) ≠ 253 := op_ne hn (by decide) m4
    have e5 : preS 0 = [] := rfl
    rw [e5, if_neg (by decide), if_neg (by decide)]
    simp only [List.nil_append, List.cons_append, hdB, if_neg e1, if_neg e2, if_neg e3, if_neg e4]
  · rfl
  · rfl
  · have e1 : byteI (n : Int) ≠ 203 := op_ne hn (by decide) (hx.ind (.inl rfl))
    have e5 : preS 3 = [221] := rfl
    rw [e5, if_neg (by decide), if_neg (by decide)]
    simp only [List.nil_append, List.cons_append, hdB, if_neg e1, show ((221 : UInt8) = 203) = False from by decide, show ((221 : UInt8) = 237) = False from by decide, if_false, if_true]
  · have e1 : byteI (n : Int) ≠ 203 := op_ne hn (by decide) (hx.ind (.inr rfl))
    have e5 : preS 4 = [253] := rfl
    rw [e5, if_neg (by decide), if_neg (by decide)]
    simp only [List.nil_append, List.cons_append, hdB, if_neg e1, show ((253 : UInt8) = 203) = False from by decide, show ((253 : UInt8) = 237) = False from by decide, show ((253 : UInt8) = 221) = False from by decide, if_false, if_true]
  · rfl
  · rfl
theorem enc_len {k : Ke} (hk : InTab k) (d n : Int) : (encB k.1 k.2.1 k.2.2.2.2.1 d n).length = sizeT k.1 k.2.2.2.2.1 ∧ 1 ≤ sizeT k.1 k.2.2.2.2.1 ∧ sizeT k.1 k.2.2.2.2.1 ≤ 4 := by
  obtain ⟨g, o, m, L, ex, al⟩ := k
  obtain ⟨i, hi, e1, e2⟩ := hk
  have hx := exP_of hi e2
  simp only at hx e1 ⊢
  subst e1
  obtain ⟨h0, h6⟩ := hx.pg
  have hsz : 1 ≤ sizeT g ex ∧ sizeT g ex ≤ 4 := by
    by_cases h5 : 5 ≤ g
    · rw [hx.hi h5]
      rcases (by omega : g = 5 ∨ g = 6) with rfl | rfl <;> decide
    · rcases (by omega : g = 0 ∨ g = 1 ∨ g = 2 ∨ g = 3 ∨ g = 4) with rfl | rfl | rfl | rfl | rfl <;> rcases hx.lst with rfl | rfl | rfl | rfl | rfl | rfl <;> decide
  refine ⟨?_, hsz⟩
  unfold encB sizeT
  by_cases h5 : 5 ≤ g
  · rw [if_pos h5, hx.hi h5]
    rcases (by omega : g = 5 ∨ g = 6) with rfl | rfl <;> rfl
  · rw [if_neg h5, List.length_append]
    rcases hx.lst with rfl | rfl | rfl | rfl | rfl | rfl <;> rfl
end Go.Proofs.YtmnleknehjkmgaaGreat
namespace Go.Proofs.YtmnleknehjkmgaaGreat
open Go.RowKit
def sgB (c : UInt8) : Int := sgnI (c.toNat : Int)
def numB (ex : Str) (t : Str) : Int × Int :=
  if ex = [100] then (sgB (t.getD 0 0), 0) else if ex = [101] then (0, sgB (t.getD 0 0)) else if ex = [110] then (0, ((t.getD 0 0).toNat : Int)) else
  if ex = [119] then (0, ((t.getD 0 0).toNat : Int) + 256 * ((t.getD 1 0).toNat : Int)) else if ex = [100, 110] then (sgB (t.getD 0 0), ((t.getD 1 0).toNat : Int)) else (0, 0)
theorem num_0 (t : Str) : numB [] t = (0, 0) := by unfold numB; rw [if_neg (by decide), if_neg (by decide), if_neg (by decide), if_neg (by decide), if_neg (by decide)]
theorem num_d (t : Str) : numB [100] t = (sgB (t.getD 0 0), 0) := by unfold numB; rw [if_pos rfl]
theorem num_e (t : Str) : numB [101] t = (0, sgB (t.getD 0 0)) := by unfold numB; rw [if_neg (by decide), if_pos rfl]
theorem num_n (t : Str) : numB [110] t = (0, ((t.getD 0 0).toNat : Int)) := by unfold numB; rw [if_neg (by decide), if_neg (by decide), if_pos rfl]
theorem num_w (t : Str) : numB [119] t = (0, ((t.getD 0 0).toNat : Int) + 256 * ((t.getD 1 0).toNat : Int)) := by unfold numB; rw [if_neg (by decide), if_neg (by decide), if_neg (by decide), if_pos rfl]
theorem num_dn (t : Str) : numB [100, 110] t = (sgB (t.getD 0 0), ((t.getD 1 0).toNat : Int)) := by unfold numB; rw [if_neg (by decide), if_neg (by decide), if_neg (by decide), if_neg (by decide), if_pos rfl]
theorem let_d1 (d n : Int) : letB d n 100 = [byteI d] := rfl
theorem let_e1 (d n : Int) : letB d n 101 = [byteI n] := rfl
theorem let_n1 (d n : Int) : letB d n 110 = [byteI n] := rfl
theorem let_w1 (d n : Int) : letB d n 119 = [byteI n, byteI (n / 256)] := rfl
structure Ite where
  kind : Int
  raw : Str
  m : Str
  C : List Tr
  al : Bool
deriving DecidableEq
def iteO (kind : Int) (raw : Str) : Ite := ⟨kind, raw, [], [], false⟩
def itR (b : Str) : Ite := match hdB b with
  | none => iteO 4 b
  | some (p, o, t) => match ratT p o.toNat with
    | none => if rkindT p o.toNat = 0 then iteO 2 (b.take 1) else iteO 3 (b.take 2)
    | some x => if b.length < sizeT p x.2.2.1 then iteO 4 b else ⟨1, b.take (sizeT p x.2.2.1), x.1, (fillV x.2.2.1 x.2.1 (numB x.2.2.1 t).1 (numB x.2.2.1 t).2).getD [], x.2.2.2⟩
theorem sgB_rng (c : UInt8) : -128 ≤ sgB c ∧ sgB c ≤ 127 := by
  have := c.toNat_lt
  unfold sgB sgnI
  split <;> omega
theorem sgB_byte {d : Int} (h : -128 ≤ d ∧ d ≤ 127) : sgB (byteI d) = d := by
  have := byteI_nat d
  unfold sgB sgnI
  split <;> omega
theorem byte_sgB (c : UInt8) : byteI (sgB c) = c := by
  have h := byteI_nat (sgB c)
  have := c.toNat_lt
  refine UInt8.toNat_inj.1 ?_
  unfold sgB sgnI at h ⊢
  split at h <;> rename_i hc
  · rw [if_pos hc]; omega
  · rw [if_neg hc]; omega
theorem byte_nat (c : UInt8) : byteI (c.toNat : Int) = c := by
  have h := byteI_nat (c.toNat : Int)
  have := c.toNat_lt
  refine UInt8.toNat_inj.1 ?_
  omega
theorem nat_byte {n : Int} (h : 0 ≤ n ∧ n ≤ 255) : ((byteI n).toNat : Int) = n := by
  have := byteI_nat n
  omega
theorem numB_in {g : Int} {i : Nat} {ex : Str} (hx : ExP g i ex) (t : Str) : numsIn ex (numB ex t).1 (numB ex t).2 := by
  have h0 := sgB_rng (t.getD 0 0)
  have h1 := (t.getD 0 0).toNat_lt
  have h2 := (t.getD 1 0).toNat_lt
  rcases hx.lst with rfl | rfl | rfl | rfl | rfl | rfl
  · rw [num_0]; exact ⟨fun _ => ⟨rfl, rfl⟩, by simp, by simp, by simp, by simp, by simp⟩
  · rw [num_d]; exact ⟨by simp, fun _ => by refine ⟨?_, ?_, ?_⟩ <;> simp only <;> omega, by simp, by simp, by simp, by simp⟩
  · rw [num_e]; exact ⟨by simp, by simp, fun _ => by refine ⟨?_, ?_, ?_⟩ <;> simp only <;> omega, by simp, by simp, by simp⟩
  · rw [num_n]; exact ⟨by simp, by simp, by simp, fun _ => by refine ⟨?_, ?_, ?_⟩ <;> simp only <;> omega, by simp, by simp⟩
  · rw [num_w]; exact ⟨by simp, by simp, by simp, by simp, fun _ => by refine ⟨?_, ?_, ?_⟩ <;> simp only <;> omega, by simp⟩
  · rw [num_dn]; exact ⟨by simp, by simp, by simp, by simp, by simp, fun _ => by refine ⟨?_, ?_, ?_, ?_⟩ <;> simp only <;> omega⟩
theorem num_lets {g : Int} {i : Nat} {ex : Str} (hx : ExP g i ex) {d n : Int} (h : numsIn ex d n) (r : Str) : numB ex (ex.flatMap (letB d n) ++ r) = (d, n) := by
  obtain ⟨a0, a1, a2, a3, a4, a5⟩ := h
  rcases hx.lst with rfl | rfl | rfl | rfl | rfl | rfl
  · obtain ⟨rfl, rfl⟩ := a0 rfl; rw [num_0]
  · obtain ⟨c1, c2, rfl⟩ := a1 rfl
    rw [num_d]
    simp only [List.flatMap_cons, List.flatMap_nil, let_d1, List.cons_append, List.nil_append, List.getD_cons_zero]
    rw [sgB_byte ⟨c1, c2⟩]
  · obtain ⟨rfl, c1, c2⟩ := a2 rfl
    rw [num_e]
    simp only [List.flatMap_cons, List.flatMap_nil, let_e1, List.cons_append, List.nil_append, List.getD_cons_zero]
    rw [sgB_byte ⟨c1, c2⟩]
  · obtain ⟨rfl, c1, c2⟩ := a3 rfl
    rw [num_n]
    simp only [List.flatMap_cons, List.flatMap_nil, let_n1, List.cons_append, List.nil_append, List.getD_cons_zero]
    rw [nat_byte ⟨c1, c2⟩]
  · obtain ⟨rfl, c1, c2⟩ := a4 rfl
    rw [num_w]
    simp only [List.flatMap_cons, List.flatMap_nil, let_w1, List.cons_append, List.nil_append, List.getD_cons_zero, List.getD_cons_succ]
    have e1 := byteI_nat n
    have e2 := byteI_nat (n / 256)
    congr 1
    omega
  · obtain ⟨c1, c2, c3, c4⟩ := a5 rfl
    rw [num_dn]
    simp only [List.flatMap_cons, List.flatMap_nil, let_d1, let_n1, List.cons_append, List.nil_append, List.getD_cons_zero, List.getD_cons_succ]
    rw [sgB_byte ⟨c1, c2⟩, nat_byte ⟨c3, c4⟩]
theorem oneS_of {t : Str} (h : 1 ≤ t.length) : ∃ a u, t = a :: u := by
  cases t with
  | nil => simp at h
  | cons a u => exact ⟨a, u, rfl⟩
theorem twoS_of {t : Str} (h : 2 ≤ t.length) : ∃ a b u, t = a :: b :: u := by
  match t, h with
  | [], h => simp at h
  | [a], h => simp at h
  | a :: b :: u, _ => exact ⟨a, b, u, rfl⟩
theorem lets_num {g : Int} {i : Nat} {ex : Str} (hx : ExP g i ex) (t : Str) (hl : (ex.flatMap (letB 0 0)).length ≤ t.length) : ex.flatMap (letB (numB ex t).1 (numB ex t).2) = t.take (ex.flatMap (letB 0 0)).length := by
  rcases hx.lst with rfl | rfl | rfl | rfl | rfl | rfl
  · simp
  · obtain ⟨a, t, rfl⟩ := oneS_of hl
    rw [num_d]
    simp only [List.flatMap_cons, List.flatMap_nil, let_d1, List.getD_cons_zero, byte_sgB]
    rfl
  · obtain ⟨a, t, rfl⟩ := oneS_of hl
    rw [num_e]
    simp only [List.flatMap_cons, List.flatMap_nil, let_e1, List.getD_cons_zero, byte_sgB]
    rfl
  · obtain ⟨a, t, rfl⟩ := oneS_of hl
    rw [num_n]
    simp only [List.flatMap_cons, List.flatMap_nil, let_n1, List.getD_cons_zero, byte_nat]
    rfl
  · obtain ⟨a, b, t, rfl⟩ := twoS_of hl
    rw [num_w]
    simp only [List.flatMap_cons, List.flatMap_nil, let_w1, List.getD_cons_zero, List.getD_cons_succ]
    have h1 := a.toNat_lt
    have h2 := b.toNat_lt
    have e1 := byteI_nat ((a.toNat : Int) + 256 * (b.toNat : Int))
    have e2 := byteI_nat (((a.toNat : Int) + 256 * (b.toNat : Int)) / 256)
    have f1 : byteI ((a.toNat : Int) + 256 * (b.toNat : Int)) = a := UInt8.toNat_inj.1 (by omega)
    have f2 : byteI (((a.toNat : Int) + 256 * (b.toNat : Int)) / 256) = b := UInt8.toNat_inj.1 (by omega)
    rw [f1, f2]
    rfl
  · obtain ⟨a, b, t, rfl⟩ := twoS_of hl
    rw [num_dn]
    simp only [List.flatMap_cons, List.flatMap_nil, let_d1, let_n1, List.getD_cons_zero, List.getD_cons_succ, byte_sgB, byte_nat]
    rfl
def plcB (L : List Tr) (ex : Str) : Bool := (!ex.contains 100 || (atV (varsV ex).1.1 L).isSome) && (!(ex.contains 101 || ex.contains 110 || ex.contains 119) || (atV (varsV ex).2.1 L).isSome)
def plcN (g n : Nat) : Bool := match ratT (g : Int) n with
  | some x => plcB x.2.1 x.2.2.1
  | none => true
theorem plc_k : ∀ g : Fin 7, ∀ n : Fin 256, plcN g.val n.val = true := by decide +kernel
theorem plc_of {page : Int} {n : Nat} (hn : n < 256) {x : En} (h : ratT page n = some x) : plcB x.2.1 x.2.2.1 = true := by
  obtain ⟨h1, h2⟩ := (exP_of hn h).pg
  obtain ⟨g, rfl⟩ : ∃ g : Nat, page = (g : Int) := ⟨page.toNat, by omega⟩
  have h3 := plc_k ⟨g, by omega⟩ ⟨n, hn⟩
  unfold plcN at h3
  rw [h] at h3
  exact h3
theorem put_ok {v : Vr} {L : List Tr} {n : Int} (h : (atV v.1 L).isSome = true ∧ v.2.1 ≤ n ∧ n ≤ v.2.2 ∨ n = 0 ∧ v.2.1 ≤ 0 ∧ 0 ≤ v.2.2) : putB v L n = true := by
  unfold putB
  cases ha : atV v.1 L with
  | none =>
    rw [ha] at h
    rcases h with ⟨h, -⟩ | ⟨rfl, -⟩
    · cases h
    · simp
  | some k =>
    simp only
    unfold inV
    rcases h with ⟨-, h⟩ | ⟨rfl, h⟩ <;> simp [h]
theorem fill_in {g : Int} {i : Nat} {ex : Str} (hx : ExP g i ex) {L : List Tr} (hp : plcB L ex = true) {d n : Int} (h : numsIn ex d n) : ∃ C, fillV ex L d n = some C := by
  obtain ⟨a0, a1, a2, a3, a4, a5⟩ := h
  have key : putB (varsV ex).1 L d = true ∧ putB (varsV ex).2 L n = true := by
    unfold plcB at hp
    rcases hx.lst with rfl | rfl | rfl | rfl | rfl | rfl
    · obtain ⟨rfl, rfl⟩ := a0 rfl
      exact ⟨put_ok (.inr ⟨rfl, by decide⟩), put_ok (.inr ⟨rfl, by decide⟩)⟩
    · obtain ⟨c1, c2, rfl⟩ := a1 rfl
      exact ⟨put_ok (.inl ⟨by simpa using hp, c1, c2⟩), put_ok (.inr ⟨rfl, by decide⟩)⟩
    · obtain ⟨rfl, c1, c2⟩ := a2 rfl
      exact ⟨put_ok (.inr ⟨rfl, by decide⟩), put_ok (.inl ⟨by simpa using hp, c1, c2⟩)⟩
    · obtain ⟨rfl, c1, c2⟩ := a3 rfl
      exact ⟨put_ok (.inr ⟨rfl, by decide⟩), put_ok (.inl ⟨by simpa using hp, c1, c2⟩)⟩
    · obtain ⟨rfl, c1, c2⟩ := a4 rfl
      exact ⟨put_ok (.inr ⟨rfl, by decide⟩), put_ok (.inl ⟨by simpa using hp, c1, c2⟩)⟩
    · obtain ⟨c1, c2, c3, c4⟩ := a5 rfl
      have hp2 : (atV (varsV [100, 110]).1.1 L).isSome = true ∧ (atV (varsV [100, 110]).2.1 L).isSome = true := by simpa using hp
      exact ⟨put_ok (.inl ⟨hp2.1, c1, c2⟩), put_ok (.inl ⟨hp2.2, c3, c4⟩)⟩
  unfold fillV
  rw [putB_shape (varsV ex).2 (putL_shape (varsV ex).1.1 L d) n]
  simp [key.1, key.2]
end Go.Proofs.YtmnleknehjkmgaaGreat
namespace Go.Proofs.YtmnleknehjkmgaaGreat
open Go.RowKit
theorem byteI_n {n : Nat} (h : n < 256) : (byteI (n : Int)).toNat = n := by
  have := byteI_nat (n : Int)
  omega
theorem dec_enc {k : Ke} (hk : InTab k) {d n : Int} {C : List Tr} (hf : fillV k.2.2.2.2.1 k.2.2.2.1 d n = some C) (r : Str) :
    itR (encB k.1 k.2.1 k.2.2.2.2.1 d n ++ r) = ⟨1, encB k.1 k.2.1 k.2.2.2.2.1 d n, k.2.2.1, C, k.2.2.2.2.2⟩ := by
  have hl := enc_len hk d n
  obtain ⟨g, o, m, L, ex, al⟩ := k
  obtain ⟨i, hi, e1, e2⟩ := hk
  simp only at e1 e2 hf hl ⊢
  subst e1
  have hx := exP_of hi e2
  simp only at hx
  have hn := nums_in hf
  have hnum : numB ex (if 5 ≤ g then byteI d :: r else ex.flatMap (letB d n) ++ r) = (d, n) := by
    by_cases h5 : 5 ≤ g
    · rw [if_pos h5]
      obtain rfl := hx.hi h5
      exact num_lets hx hn r
    · rw [if_neg h5]
      exact num_lets hx hn r
  unfold itR
  rw [hd_enc hi hx d n r]
  simp only [byteI_n hi, e2, hnum, hf, Option.getD_some]
  rw [if_neg (by rw [List.length_append]; omega)]
  congr 1
  rw [← hl.1]
  exact List.take_left
theorem hd_inv {b : Str} {p : Int} {o : UInt8} {t : Str} (h : hdB b = some (p, o, t)) : (0 ≤ p ∧ p ≤ 6) ∧ ((¬ 5 ≤ p ∧ b = preS p ++ o :: t) ∨ (5 ≤ p ∧ ∃ x u, t = x :: u ∧ b = preS p ++ x :: o :: u)) := by
  cases b with
  | nil => cases h
  | cons c r =>
    simp only [hdB] at h
    split at h
    · rename_i hc
      subst hc
      cases r with
      | nil => cases h
      | cons y u => simp only [Option.some.injEq, Prod.mk.injEq] at h; obtain ⟨rfl, rfl, rfl⟩ := h; exact ⟨by omega, .inl ⟨by omega, rfl⟩⟩
    · split at h
      · rename_i hc
        subst hc
        cases r with
        | nil => cases h
        | cons y u => simp only [Option.some.injEq, Prod.mk.injEq] at h; obtain ⟨rfl, rfl, rfl⟩ := h; exact ⟨by omega, .inl ⟨by omega, rfl⟩⟩
      · split at h
        · rename_i hc
          subst hc
          cases r with
          | nil => cases h
          | cons y u =>
            simp only at h
            split at h
            · rename_i hy
              subst hy
              match u, h with
              | [], h => cases h
              | [_], h => cases h
              | x :: z :: v, h => simp only [Option.some.injEq, Prod.mk.injEq] at h; obtain ⟨rfl, rfl, rfl⟩ := h; exact ⟨by omega, .inr ⟨by omega, x, v, rfl, rfl⟩⟩
            · simp only [Option.some.injEq, Prod.mk.injEq] at h; obtain ⟨rfl, rfl, rfl⟩ := h; exact ⟨by omega, .inl ⟨by omega, rfl⟩⟩
        · split at h
          · rename_i hc
            subst hc
            cases r with
            | nil => cases h
            | cons y u =>
              simp only at h
              split at h
              · rename_i hy
                subst hy
                match u, h with
                | [], h => cases h
                | [_], h => cases h
                | x :: z :: v, h => simp only [Option.some.injEq, Prod.mk.injEq] at h; obtain ⟨rfl, rfl, rfl⟩ := h; exact ⟨by omega, .inr ⟨by omega, x, v, rfl, rfl⟩⟩
              · simp only [Option.some.injEq, Prod.mk.injEq] at h; obtain ⟨rfl, rfl, rfl⟩ := h; exact ⟨by omega, .inl ⟨by omega, rfl⟩⟩
          · simp only [Option.some.injEq, Prod.mk.injEq] at h; obtain ⟨rfl, rfl, rfl⟩ := h; exact ⟨by omega, .inl ⟨by omega, rfl⟩⟩
theorem dec_raw {b : Str} {p : Int} {o : UInt8} {t : Str} {x : En} (h : hdB b = some (p, o, t)) (hr : ratT p o.toNat = some x) (hl : sizeT p x.2.2.1 ≤ b.length) :
    ∃ C, fillV x.2.2.1 x.2.1 (numB x.2.2.1 t).1 (numB x.2.2.1 t).2 = some C ∧ b.take (sizeT p x.2.2.1) = encB p (o.toNat : Int) x.2.2.1 (numB x.2.2.1 t).1 (numB x.2.2.1 t).2 ∧
      itR b = ⟨1, b.take (sizeT p x.2.2.1), x.1, C, x.2.2.2⟩ ∧ InTab (p, (o.toNat : Int), x.1, x.2.1, x.2.2.1, x.2.2.2) := by
  have ho : o.toNat < 256 := o.toNat_lt
  have hx := exP_of ho hr
  have hin : InTab (p, (o.toNat : Int), x.1, x.2.1, x.2.2.1, x.2.2.2) := ⟨o.toNat, ho, rfl, hr⟩
  obtain ⟨C, hC⟩ := fill_in hx (plc_of ho hr) (numB_in hx t)
  refine ⟨C, hC, ?_, ?_, hin⟩
  · have hsz := (enc_len hin (numB x.2.2.1 t).1 (numB x.2.2.1 t).2).1
    simp only at hsz
    have hs0 := (enc_len hin 0 0).1
    simp only at hs0
    obtain ⟨hp, hcase⟩ := hd_inv h
    have hbo : byteI (o.toNat : Int) = o := byte_nat o
    rcases hcase with ⟨h5, rfl⟩ | ⟨h5, y, u, rfl, rfl⟩
    · unfold encB at hsz hs0 ⊢
      rw [if_neg h5, hbo] at hsz hs0 ⊢
      rw [List.length_append, List.length_cons] at hs0 hl
      rw [lets_num hx t (by omega)]
      rw [← hs0]
      rw [List.take_append]
      rw [show (preS p).length + ((x.2.2.1.flatMap (letB 0 0)).length + 1) - (preS p).length = (x.2.2.1.flatMap (letB 0 0)).length + 1 by omega, List.take_of_length_le (by omega), List.take_succ_cons]
    · have he := hx.hi h5
      unfold encB at hsz ⊢
      rw [if_pos h5, hbo] at hsz ⊢
      rw [List.length_append] at hsz
      simp only [List.length_cons, List.length_nil] at hsz
      rw [he, num_d]
      simp only [List.getD_cons_zero, byte_sgB]
      rw [he] at hsz
      rw [← hsz, List.take_append, List.take_of_length_le (by omega)]
      rw [show (preS p).length + (0 + 1 + 1) - (preS p).length = 2 by omega]
      rfl
  · unfold itR
    rw [h]
    simp only [hr, hC, Option.getD_some]
    rw [if_neg (by omega)]
end Go.Proofs.YtmnleknehjkmgaaGreat
namespace Go.Proofs.YtmnleknehjkmgaaGreat
open Go.RowKit
def pgA : Str → Int × Nat
  | [] => (0, 0)
  | c :: r => if c = 203 then (1, 1) else if c = 237 then (2, 1) else if c = 221 then (if r.head? = some 203 then (5, 3) else (3, 1)) else if c = 253 then (if r.head? = some 203 then (6, 3) else (4, 1)) else (0, 0)
def nxA (b : Str) : Nat := if 5 ≤ (pgA b).1 then 2 else (pgA b).2 + 1
theorem pg_none {b : Str} (h : b.length ≤ (pgA b).2) : hdB b = none := by
  cases b with
  | nil => rfl
  | cons c r =>
    simp only [pgA, hdB, List.length_cons] at h ⊢
    split
    · rw [if_pos ‹_›] at h
      cases r with
      | nil => rfl
      | cons y u => simp at h
    · rw [if_neg ‹_›] at h
      split
      · rw [if_pos ‹_›] at h
        cases r with
        | nil => rfl
        | cons y u => simp at h
      · rw [if_neg ‹_›] at h
        split
        · rw [if_pos ‹_›] at h
          cases r with
          | nil => rfl
          | cons y u =>
            simp only [List.head?_cons, Option.some.injEq] at h ⊢
            split
            · rw [if_pos ‹_›] at h
              match u, h with
              | [], h => rfl
              | [x], h => rfl
              | x :: z :: v, h => simp at h
            · rw [if_neg ‹_›] at h
              simp at h
        · rw [if_neg ‹_›] at h
          split
          · rw [if_pos ‹_›] at h
            cases r with
            | nil => rfl
            | cons y u =>
              simp only [List.head?_cons, Option.some.injEq] at h ⊢
              split
              · rw [if_pos ‹_›] at h
                match u, h with
                | [], h => rfl
                | [x], h => rfl
                | x :: z :: v, h => simp at h
              · rw [if_neg ‹_›] at h
                simp at h
          · rw [if_neg ‹_›] at h
            simp at h
theorem pg_some {b : Str} (h : (pgA b).2 < b.length) : hdB b = some ((pgA b).1, b[(pgA b).2], if 5 ≤ (pgA b).1 then b.getD 2 0 :: b.drop 4 else b.drop ((pgA b).2 + 1)) := by
  cases b with
  | nil => simp at h
  | cons c r =>
    by_cases h1 : c = 203
    · subst h1
      cases r with
      | nil => simp [pgA] at h
      | cons y u => rfl
    · by_cases h2 : c = 237
      · subst h2
        cases r with
        | nil => simp [pgA] at h
        | cons y u => rfl
      · by_cases h3 : c = 221
        · subst h3
          cases r with
          | nil => simp [pgA] at h
          | cons y u =>
            by_cases hy : y = 203
            · subst hy
              match u, h with
              | [], h => simp [pgA] at h
              | [x], h => simp [pgA] at h
              | x :: z :: v, h => rfl
            · have e : pgA (221 :: y :: u) = (3, 1) := by simp [pgA, hy]
              simp only [e]
              simp [hdB, hy]
        · by_cases h4 : c = 253
          · subst h4
            cases r with
            | nil => simp [pgA] at h
            | cons y u =>
              by_cases hy : y = 203
              · subst hy
                match u, h with
                | [], h => simp [pgA] at h
                | [x], h => simp [pgA] at h
                | x :: z :: v, h => rfl
              · have e : pgA (253 :: y :: u) = (4, 1) := by simp [pgA, hy]
                simp only [e]
                simp [hdB, hy]
          · have e : pgA (c :: r) = (0, 0) := by simp [pgA, h1, h2, h3, h4]
            simp only [e]
            simp [hdB, h1, h2, h3, h4]
theorem pg_rng (b : Str) : (0 ≤ (pgA b).1 ∧ (pgA b).1 ≤ 6) ∧ (pgA b).2 ≤ 3 ∧ (5 ≤ (pgA b).1 ↔ (pgA b).2 = 3) := by
  cases b with
  | nil => decide
  | cons c r =>
    simp only [pgA]
    repeat' split
    all_goals decide
end Go.Proofs.YtmnleknehjkmgaaGreat
namespace Go.Proofs.YtmnleknehjkmgaaGreat
open Go.RowKit
def needR (b : Str) : Nat := match hdB b with
  | some (p, o, t) => (match ratT p o.toNat with
    | none => if rkindT p o.toNat = 0 then 1 else 2
    | some x => sizeT p x.2.2.1)
  | none => match b with
    | [] => 1
    | _ :: 203 :: _ => 4
    | _ => 2
def kndB (p n : Nat) : Bool := (ratT (p : Int) n).isSome || decide (rkindT (p : Int) n = 0) || (decide (rkindT (p : Int) n = 3) && decide (p = 2)) || (decide (p = 0) && (n == 203 || n == 221 || n == 237 || n == 253)) || ((decide (p = 3) || decide (p = 4)) && n == 203)
theorem knd_k : ∀ g : Fin 7, ∀ n : Fin 256, kndB g.val n.val = true := by decide +kernel
theorem hd_kind {b : Str} {p : Int} {o : UInt8} {t : Str} (h : hdB b = some (p, o, t)) (hr : ratT p o.toNat = none) : rkindT p o.toNat = 0 ∨ (rkindT p o.toNat = 3 ∧ p = 2) := by
  have hp := (hd_inv h).1
  have ho := o.toNat_lt
  obtain ⟨g, rfl⟩ : ∃ g : Nat, p = (g : Int) := ⟨p.toNat, by omega⟩
  have hk := knd_k ⟨g, by omega⟩ ⟨o.toNat, ho⟩
  unfold kndB at hk
  simp only [hr, Option.isSome_none, Bool.false_or, Bool.or_eq_true, Bool.and_eq_true, decide_eq_true_eq, beq_iff_eq] at hk
  have hne : ∀ k : Nat, k < 256 → o.toNat = k → o = UInt8.ofNat k := fun k hk e => by
    refine UInt8.toNat_inj.1 ?_
    rw [UInt8.toNat_ofNat_of_lt' (show k < 256 from hk)]
    exact e
  rcases hk with ((hk | hk) | hk) | hk
  · exact .inl hk
  · exact .inr ⟨hk.1, by omega⟩
  · exfalso
    obtain ⟨h0, hk⟩ := hk
    obtain rfl : g = 0 := h0
    cases b with
    | nil => cases h
    | cons c r =>
      have hc : c ≠ 203 ∧ c ≠ 237 ∧ c ≠ 221 ∧ c ≠ 253 ∧ o = c := by
        simp only [hdB] at h
        refine ⟨?_, ?_, ?_, ?_, ?_⟩
        · rintro rfl; rw [if_pos rfl] at h; cases r <;> simp at h
        · rintro rfl; rw [if_neg (by decide), if_pos rfl] at h; cases r <;> simp at h
        · rintro rfl
          rw [if_neg (by decide), if_neg (by decide), if_pos rfl] at h
          cases r with
          | nil => cases h
          | cons y u =>
            simp only at h
            split at h
            · match u, h with
              | [], h => cases h
              | [_], h => cases h
              | x :: z :: v, h => simp at h
            · simp at h
        · rintro rfl
          rw [if_neg (by decide), if_neg (by decide), if_neg (by decide), if_pos rfl] at h
          cases r with
          | nil => cases h
          | cons y u =>
            simp only at h
            split at h
            · match u, h with
              | [], h => cases h
              | [_], h => cases h
              | x :: z :: v, h => simp at h
            · simp at h
        · split at h
          · cases r <;> simp at h
          · split at h
            · cases r <;> simp at h
            · split at h
              · cases r with
                | nil => cases h
                | cons y u =>
                  simp only at h
                  split at h
                  · match u, h with
                    | [], h => cases h
                    | [_], h => cases h
                    | x :: z :: v, h => simp at h
                  · simp at h
              · split at h
                · cases r with
                  | nil => cases h
                  | cons y u =>
                    simp only at h
                    split at h
                    · match u, h with
                      | [], h => cases h
                      | [_], h => cases h
                      | x :: z :: v, h => simp at h
                    · simp at h
                · simp only [Option.some.injEq, Prod.mk.injEq] at h
                  exact h.2.1.symm
      obtain ⟨c1, c2, c3, c4, rfl⟩ := hc
      rcases hk with ((hk | hk) | hk) | hk
      · exact c1 (hne 203 (by decide) hk)
      · exact c3 (hne 221 (by decide) hk)
      · exact c2 (hne 237 (by decide) hk)
      · exact c4 (hne 253 (by decide) hk)
  · exfalso
    obtain ⟨h0, hk⟩ := hk
    have h203 : o = 203 := hne 203 (by decide) hk
    subst h203
    have h34 : (g : Int) = 3 ∨ (g : Int) = 4 := by omega
    cases b with
    | nil => cases h
    | cons c r =>
      simp only [hdB] at h
      split at h
      · cases r <;> simp at h; omega
      · split at h
        · cases r <;> simp at h; omega
        · split at h
          · cases r with
            | nil => cases h
            | cons y u =>
              simp only at h
              split at h
              · match u, h with
                | [], h => cases h
                | [_], h => cases h
                | x :: z :: v, h => simp at h; omega
              · rename_i hy
                simp only [Option.some.injEq, Prod.mk.injEq] at h
                exact hy h.2.1
          · split at h
            · cases r with
              | nil => cases h
              | cons y u =>
                simp only at h
                split at h
                · match u, h with
                  | [], h => cases h
                  | [_], h => cases h
                  | x :: z :: v, h => simp at h; omega
                · rename_i hy
                  simp only [Option.some.injEq, Prod.mk.injEq] at h
                  exact hy h.2.1
            · simp only [Option.some.injEq, Prod.mk.injEq] at h; omega
theorem hd_len {b : Str} {p : Int} {o : UInt8} {t : Str} (h : hdB b = some (p, o, t)) : (preS p).length + 1 ≤ b.length ∧ (5 ≤ p → 4 ≤ b.length) := by
  obtain ⟨hp, hc⟩ := hd_inv h
  rcases hc with ⟨h5, rfl⟩ | ⟨h5, x, u, rfl, rfl⟩
  · exact ⟨by rw [List.length_append, List.length_cons]; omega, fun h => absurd h h5⟩
  · refine ⟨by rw [List.length_append, List.length_cons, List.length_cons]; omega, fun _ => ?_⟩
    have : (preS p).length = 2 := by rcases (by omega : p = 5 ∨ p = 6) with rfl | rfl <;> rfl
    rw [List.length_append, List.length_cons, List.length_cons]
    omega
theorem need_some {b : Str} {p : Int} {o : UInt8} {t : Str} (h : hdB b = some (p, o, t)) : needR b = match ratT p o.toNat with | none => if rkindT p o.toNat = 0 then 1 else 2 | some x => sizeT p x.2.2.1 := by
  unfold needR
  rw [h]
theorem hd_none {b : Str} (h : hdB b = none) : b = [] ∨ (∃ c, b = [c] ∧ (c = 203 ∨ c = 237 ∨ c = 221 ∨ c = 253)) ∨ (∃ c, (c = 221 ∨ c = 253) ∧ (b = [c, 203] ∨ ∃ x, b = [c, 203, x])) := by
  cases b with
  | nil => exact .inl rfl
  | cons c r =>
    simp only [hdB] at h
    refine .inr ?_
    split at h
    · cases r with
      | nil => exact .inl ⟨c, rfl, .inl ‹_›⟩
      | cons y u => cases h
    · split at h
      · cases r with
        | nil => exact .inl ⟨c, rfl, .inr (.inl ‹_›)⟩
        | cons y u => cases h
      · split at h
        · rename_i hc
          cases r with
          | nil => exact .inl ⟨c, rfl, .inr (.inr (.inl hc))⟩
          | cons y u =>
            simp only at h
            split at h
            · rename_i hy
              subst hy
              match u, h with
              | [], h => exact .inr ⟨c, .inl hc, .inl rfl⟩
              | [x], h => exact .inr ⟨c, .inl hc, .inr ⟨x, rfl⟩⟩
              | x :: z :: v, h => cases h
            · cases h
        · split at h
          · rename_i hc
            cases r with
            | nil => exact .inl ⟨c, rfl, .inr (.inr (.inr hc))⟩
            | cons y u =>
              simp only at h
              split at h
              · rename_i hy
                subst hy
                match u, h with
                | [], h => exact .inr ⟨c, .inr hc, .inl rfl⟩
                | [x], h => exact .inr ⟨c, .inr hc, .inr ⟨x, rfl⟩⟩
                | x :: z :: v, h => cases h
              · cases h
          · cases h
theorem need_rng (b : Str) : 1 ≤ needR b ∧ needR b ≤ 4 := by
  cases h : hdB b with
  | none =>
    unfold needR
    rw [h]
    simp only
    split <;> omega
  | some q =>
    obtain ⟨p, o, t⟩ := q
    rw [need_some h]
    cases hr : ratT p o.toNat with
    | none => simp only; split <;> omega
    | some x =>
      have := enc_len (k := (p, (o.toNat : Int), x.1, x.2.1, x.2.2.1, x.2.2.2)) ⟨o.toNat, o.toNat_lt, rfl, hr⟩ 0 0
      exact ⟨this.2.1, this.2.2⟩
theorem trunc_iff {b : Str} (hb : b ≠ []) : (itR b).kind = 4 ↔ b.length < needR b := by
  cases h : hdB b with
  | none =>
    have e : itR b = iteO 4 b := by unfold itR; rw [h]
    rw [e]
    refine ⟨fun _ => ?_, fun _ => rfl⟩
    rcases hd_none h with rfl | ⟨c, rfl, hc⟩ | ⟨c, hc, rfl | ⟨x, rfl⟩⟩
    · exact absurd rfl hb
    · rcases hc with rfl | rfl | rfl | rfl <;> decide
    · rcases hc with rfl | rfl <;> decide
    · rcases hc with rfl | rfl <;> (unfold needR; rw [h]; simp)
  | some q =>
    obtain ⟨p, o, t⟩ := q
    have hl := hd_len h
    rw [need_some h]
    unfold itR
    rw [h]
    simp only
    cases hr : ratT p o.toNat with
    | none =>
      simp only
      rcases hd_kind h hr with h0 | ⟨h3, rfl⟩
      · rw [if_pos h0, if_pos h0]
        exact ⟨fun e => (by cases e), fun e => by omega⟩
      · have hn0 : ¬ rkindT 2 o.toNat = 0 := by omega
        rw [if_neg hn0, if_neg hn0]
        have e2 : (preS 2).length = 1 := rfl
        exact ⟨fun e => (by cases e), fun e => by omega⟩
    | some x =>
      simp only
      by_cases hz : b.length < sizeT p x.2.2.1
      · rw [if_pos hz]; exact ⟨fun _ => hz, fun _ => rfl⟩
      · rw [if_neg hz]; exact ⟨fun e => (by cases e), fun e => absurd e hz⟩
theorem hd_more {b : Str} {p : Int} {o : UInt8} {t : Str} (h : hdB b = some (p, o, t)) (r : Str) : hdB (b ++ r) = some (p, o, t ++ r) := by
  cases b with
  | nil => cases h
  | cons c s =>
    simp only [hdB, List.cons_append] at h ⊢
    split at h
    · rw [if_pos ‹_›]
      cases s with
      | nil => cases h
      | cons y u => simp only [Option.some.injEq, Prod.mk.injEq] at h; obtain ⟨rfl, rfl, rfl⟩ := h; rfl
    · rw [if_neg ‹_›]
      split at h
      · rw [if_pos ‹_›]
        cases s with
        | nil => cases h
        | cons y u => simp only [Option.some.injEq, Prod.mk.injEq] at h; obtain ⟨rfl, rfl, rfl⟩ := h; rfl
      · rw [if_neg ‹_›]
        split at h
        · rw [if_pos ‹_›]
          cases s with
          | nil => cases h
          | cons y u =>
            simp only [List.cons_append] at h ⊢
            split at h
            · rw [if_pos ‹_›]
              match u, h with
              | [], h => cases h
              | [_], h => cases h
              | x :: z :: v, h => simp only [Option.some.injEq, Prod.mk.injEq] at h; obtain ⟨rfl, rfl, rfl⟩ := h; rfl
            · rw [if_neg ‹_›]
              simp only [Option.some.injEq, Prod.mk.injEq] at h; obtain ⟨rfl, rfl, rfl⟩ := h; rfl
        · rw [if_neg ‹_›]
          split at h
          · rw [if_pos ‹_›]
            cases s with
            | nil => cases h
            | cons y u =>
              simp only [List.cons_append] at h ⊢
              split at h
              · rw [if_pos ‹_›]
                match u, h with
                | [], h => cases h
                | [_], h => cases h
                | x :: z :: v, h => simp only [Option.some.injEq, Prod.mk.injEq] at h; obtain ⟨rfl, rfl, rfl⟩ := h; rfl
              · rw [if_neg ‹_›]
                simp only [Option.some.injEq, Prod.mk.injEq] at h; obtain ⟨rfl, rfl, rfl⟩ := h; rfl
          · rw [if_neg ‹_›]
            simp only [Option.some.injEq, Prod.mk.injEq] at h; obtain ⟨rfl, rfl, rfl⟩ := h; rfl
end Go.Proofs.YtmnleknehjkmgaaGreat
namespace Go.Proofs.YtmnleknehjkmgaaGreat
open Go.RowKit Go.Shelf
theorem cellsB_one (ys : Str) : ∀ u ∈ cellsB ys, u.oneCell' = true := fun u hu => by
  unfold cellsB at hu
  obtain ⟨b, -, rfl⟩ := List.mem_map.1 hu
  rfl
theorem cellsB_append (xs ys : Str) : cellsB (xs ++ ys) = cellsB xs ++ cellsB ys := by unfold cellsB; rw [List.map_append]
theorem BytesAt.news {w : World} {A : Option Addr} {ys : Str} (h : BytesAt w A ys) : ys.length = 0 ∨ ∃ a, A = some a ∧ ∀ j u, (cellsB ys)[j]? = some u → w.cell? (a.add j) = some u := by
  rcases h with rfl | ⟨b, off, rfl, hc⟩
  · exact .inl rfl
  · refine .inr ⟨_, rfl, fun j u hu => ?_⟩
    have hadd : (⟨b, off, none⟩ : Addr).add j = ⟨b, off + j, none⟩ := by unfold Addr.add; split <;> simp_all
    rw [hadd]
    unfold cellsB at hu
    rw [List.getElem?_map] at hu
    cases hy : ys[j]? with
    | none => rw [hy] at hu; cases hu
    | some y =>
      rw [hy] at hu
      obtain ⟨hj, hy2⟩ := List.getElem?_eq_some_iff.1 hy
      obtain rfl := Option.some.inj hu
      rw [hc j hj, hy2]
theorem run_appBs (w : World) (B : Nat) (v : Value) (xs : Str) (h : TOwnB w B v xs) (A : Option Addr) (c : Nat) (ys : Str) (hP : BytesAt w A ys) (hB : B ≤ w.heap.size) (hs : xs.length + ys.length ≤ 100000) :
    ∃ v' w', (Builtin.append_ #[22, 22] 22 #[v, .slice A ys.length c]).run Tryz.prog w = .ok v' w' ∧ TOwnB w' B v' (xs ++ ys) ∧ Below B w w' ∧ w.grownBy w' v.ownBlock := by
  obtain ⟨i0, hi, hz0, hz1, hz2⟩ := info_parts tinfo_u8
  obtain ⟨v', w', k1, k2, k3⟩ := run_append_src w B 22 22 5 i0 _ 1 1 Tryz.underlying22 hi hz0 hz1 hz2 rfl (by decide) v xs.length (cellsB xs) h A ys.length c (cellsB ys)
    (by unfold cellsB; simp) hP.news (cellsB_one ys) (by unfold maxLen; omega) (by omega) hB
  refine ⟨v', w', k1, ?_, (Below.refl B w).grown k3 hB fun k hk => (World.ownsRow.lt h k hk).1, k3⟩
  unfold TOwnB
  rw [cellsB_append, List.length_append]
  exact k2
theorem wpList_appBs {wr : World} {B : Nat} {v : Value} {xs : Str} (h : TOwnB wr B v xs) {A : Option Addr} {c : Nat} {ys : Str} (hP : BytesAt wr A ys) (hB : B ≤ wr.heap.size) (hs : xs.length + ys.length ≤ 100000) {ops : Array Oper} {rest : List Oper} {o : Oper} {a : Act} {Q : Exit → Act → World → Prop} (hgd : o.guard = none) (s x : Operand)
    (ho : o.op = .call { callee := .builtin .append, args := #[s, x], argTypes := #[22, 22] }) (hty : o.type = 22) (hsv : a.eval s = v) (m : Nat) (hm : ys.length = m) (hx : a.eval x = .slice A m c) (n : Nat) (hn : xs.length + m = n)
    (k : ∀ A' cap' w1, TOwnB w1 B (.slice A' n cap') (xs ++ ys) → Below B wr w1 → wpList Tryz.prog ops Q rest (a.put o.dst (.slice A' n cap')) w1) : wpList Tryz.prog ops Q (o :: rest) a wr := by
  subst hm hn
  obtain ⟨v', w', k1, k2, k3, -⟩ := run_appBs wr B v xs h A c ys hP hB hs
  obtain ⟨A', cap', rfl, -⟩ := k2.bytes
  rw [List.length_append] at k1 k2
  exact wpList_run_append k1 hgd s x ho hty hsv hx (k A' cap' w' k2 k3)
theorem townB_nil (w : World) (n : Nat) : TOwnB w n (.slice none 0 0) [] := World.ownsRow_nil _ _ _ _
theorem TOwnB.lift {w : World} {n m : Nat} {v : Value} {xs : Str} (h : TOwnB w n v xs) (k : m ≤ n) : TOwnB w m v xs := row_mono h k
end Go.Proofs.YtmnleknehjkmgaaGreat
namespace Go.Proofs.YtmnleknehjkmgaaGreat
open Go.RowKit Go.Shelf
attribute [local go_sem] Oper.semAt_some
theorem u8_beq (a b : UInt8) : ((a.toNat : Int) == (b.toNat : Int)) = decide (a = b) := by
  by_cases h : a = b
  · subst h
    rw [decide_eq_true rfl]
    exact beq_self_eq_true _
  · rw [decide_eq_false h]
    exact beq_eq_false_iff_ne.2 fun e => h (UInt8.toNat_inj.1 (by omega))
theorem rhas_any (ex : Str) (hx : ex.length ≤ 1000) (c : UInt8) (w : World) :
    Calls Tryz.prog 77 #[.string (sB ex), .int .u8 (c.toNat : Int)] w fun e w' => e = .returned (.bool (ex.contains c)) ∧ w' = w := by
  obtain ⟨s, hs⟩ : ∃ s, sB ex = s := ⟨_, rfl⟩
  have hz : s.size = ex.length := by rw [← hs, sB_size]
  have hat : ∀ k (h : k < s.size) (h' : k < ex.length), s[k] = ex[k] := fun k h h' => by subst hs; exact sB_at ex k h h'
  have HAT := Lib.hid hat
  rw [hs]
  obtain ⟨l, hl⟩ : ∃ l, ex.length = l := ⟨_, rfl⟩
  have HL := Lib.hid hl
  rw [hl] at hz hx
  obtain ⟨x, hx9⟩ : ∃ x, (c.toNat : Int) = x := ⟨_, rfl⟩
  have HX := Lib.hid hx9
  rw [hx9]
  clear hs hat hl hx9
  go_enter Tryz.func77, Tryz.ntmps77
  go_wp2
  go_loopw [5] (fun i wr => ∃ j : Nat, j ≤ l ∧ i = .int .i64 j ∧ Hid (∀ k (h : k < ex.length), k < j → ex[k] ≠ c) ∧ Hid (wr = w)) (fun i _ => l - (intOf i).toNat)
  case atStart => exact ⟨0, Nat.zero_le _, rfl, fun k h h2 => by omega, rfl⟩
  case round =>
    obtain ⟨j, hj, rfl, R, B⟩ := hrel
    by_cases hlt : j < l
    · have hlt' : j < s.size := by omega
      have hj1 : j < ex.length := by rw [HL.out]; exact hlt
      have e1 := HAT.out j hlt' hj1
      have hb : ((s[j].toNat : Int) == x) = decide (ex[j] = c) := by rw [← HX.out, e1]; exact u8_beq _ _
      obtain ⟨tt, htt⟩ : ∃ z, decide (ex[j] = c) = z := ⟨_, rfl⟩
      rw [htt] at hb
      have hj1k : j ≤ 1000 := by omega
      cases tt with
      | true =>
        have T : Hid (true = ex.contains c) := by
          show true = _
          exact (List.contains_iff_mem.2 (of_decide_eq_true htt ▸ List.getElem_mem hj1)).symm
        clear htt e1 hj1 R
        go_wp2
        go_ret
        exact ⟨ret_bool T.out, B.out⟩
      | false =>
        have R2 : Hid (∀ k (h : k < ex.length), k < j + 1 → ex[k] ≠ c) := fun k h h2 => by
          by_cases e : k = j
          · subst e; exact of_decide_eq_false htt
          · exact R.out k h (by omega)
        clear htt e1 hj1 R
        go_wp2
        go_roundw
        case rel => exact ⟨j + 1, by omega, by go_num, R2.out, B.out⟩
        case measure => simp [intOf]; omega
    · have T : Hid (false = ex.contains c) := by
        show false = _
        refine (Bool.eq_false_iff.2 fun h => ?_).symm
        obtain ⟨k, hk, e⟩ := List.getElem_of_mem (List.contains_iff_mem.1 h)
        exact R.out k hk (by have := HL.out; omega) e
      clear R
      go_wp2
      go_ret
      exact ⟨ret_bool T.out, B.out⟩
theorem rwithin_any (c : UInt8) (n : Int) (w : World) :
    Calls Tryz.prog 62 #[.int .u8 (c.toNat : Int), .int .i64 n] w fun e w' => e = .returned (.bool (withR c n)) ∧ w' = w := by
  have e1 : ((c.toNat : Int) == 100) = decide (c = 100) := u8_beq c 100
  have e2 : ((c.toNat : Int) == 101) = decide (c = 101) := u8_beq c 101
  have e3 : ((c.toNat : Int) == 110) = decide (c = 110) := u8_beq c 110
  obtain ⟨x, hx⟩ : ∃ x, (c.toNat : Int) = x := ⟨_, rfl⟩
  rw [hx] at e1 e2 e3 ⊢
  clear hx
  have cmp : ∀ a b : Int, ((a ≤ n ∧ n ≤ b) ∨ (a ≤ n ∧ ¬ n ≤ b) ∨ ¬ a ≤ n) := fun a b => by omega
  by_cases h1 : c = 100
  · subst h1
    have T : Hid (withR 100 n = (decide (-128 ≤ n) && decide (n ≤ 127))) := rfl
    rw [decide_eq_true rfl] at e1
    clear e2 e3
    rcases cmp (-128) 127 with ⟨g1, g2⟩ | ⟨g1, g2⟩ | g1
    all_goals
      go_enter Tryz.func62, Tryz.ntmps62
      go_wp2
      go_ret
      exact ⟨ret_bool (by rw [T.out]; simp_all <;> (intros; omega)), rfl⟩
  · rw [decide_eq_false h1] at e1
    by_cases h2 : c = 101
    · subst h2
      have T : Hid (withR 101 n = (decide (-128 ≤ n) && decide (n ≤ 127))) := rfl
      rw [decide_eq_true rfl] at e2
      clear e3 h1
      rcases cmp (-128) 127 with ⟨g1, g2⟩ | ⟨g1, g2⟩ | g1
      all_goals
        go_enter Tryz.func62, Tryz.ntmps62
        go_wp2
        go_ret
        exact ⟨ret_bool (by rw [T.out]; simp_all <;> (intros; omega)), rfl⟩
    · rw [decide_eq_false h2] at e2
      by_cases h3 : c = 110
      · subst h3
        have T : Hid (withR 110 n = (decide (0 ≤ n) && decide (n ≤ 255))) := rfl
        rw [decide_eq_true rfl] at e3
        clear h1 h2
        rcases cmp 0 255 with ⟨g1, g2⟩ | ⟨g1, g2⟩ | g1
        all_goals
          go_enter Tryz.func62, Tryz.ntmps62
          go_wp2
          go_ret
          exact ⟨ret_bool (by rw [T.out]; simp_all <;> (intros; omega)), rfl⟩
      · have T : Hid (withR c n = (decide (0 ≤ n) && decide (n ≤ 65535))) := by show _ = _; unfold withR; rw [if_neg (by rintro (h | h) <;> contradiction), if_neg h3]
        rw [decide_eq_false h3] at e3
        clear h1 h2 h3
        rcases cmp 0 65535 with ⟨g1, g2⟩ | ⟨g1, g2⟩ | g1
        all_goals
          go_enter Tryz.func62, Tryz.ntmps62
          go_wp2
          go_ret
          exact ⟨ret_bool (by rw [T.out]; simp_all <;> (intros; omega)), rfl⟩
end Go.Proofs.YtmnleknehjkmgaaGreat
namespace Go.Proofs.YtmnleknehjkmgaaGreat
open Go.RowKit Go.Shelf
attribute [local go_sem] Oper.semAt_some
theorem varKB_eq (t : Tr) : varKB t = ((t.1 == 6) || (t.1 == 7)) := rfl
theorem drop_any {L : List Tr} {k : Nat} (h : ∀ j (hj : j < L.length), k < j → varKB L[j] = false) : (L.drop (k + 1)).any varKB = false := by
  rw [List.any_eq_false]
  intro x hx
  obtain ⟨i, hi, rfl⟩ := List.getElem_of_mem hx
  rw [List.getElem_drop]
  rw [h _ (by simp at hi; omega) (by omega)]
  decide
theorem drop_yes {L : List Tr} {k j : Nat} (hj : j < L.length) (hk : k < j) (h : varKB L[j] = true) : (L.drop (k + 1)).any varKB = true := by
  rw [List.any_eq_true]
  refine ⟨L[j], ?_, h⟩
  have : L[j] = (L.drop (k + 1))[j - (k + 1)]'(by simp; omega) := by rw [List.getElem_drop]; congr 1; omega
  rw [this]
  exact List.getElem_mem _
def lastR (ex : Str) : UInt8 := if ex.contains 110 = true then 110 else if ex.contains 119 = true then 119 else 0
theorem letR_a {ex : Str} {L : List Tr} {k : Nat} (hk : k < L.length) (h : L[k].1 = 5) (hc : ex.contains 100 = true) : letR ex L k = 100 := by
  unfold letR; rw [if_pos ⟨by rw [List.getD_eq_getElem?_getD, List.getElem?_eq_getElem hk]; exact h, hc⟩]
theorem letR_b {ex : Str} {L : List Tr} {k : Nat} (hk : k < L.length) (h1 : ¬ (L[k].1 = 5 ∧ ex.contains 100 = true)) (h : L[k].1 = 10) (hc : ex.contains 101 = true) : letR ex L k = 101 := by
  have e : (L.getD k tr0) = L[k] := by rw [List.getD_eq_getElem?_getD, List.getElem?_eq_getElem hk]; rfl
  unfold letR; rw [e, if_neg h1, if_pos ⟨h, hc⟩]
theorem letR_c {ex : Str} {L : List Tr} {k : Nat} (hk : k < L.length) (h1 : ¬ (L[k].1 = 5 ∧ ex.contains 100 = true)) (h2 : ¬ (L[k].1 = 10 ∧ ex.contains 101 = true)) (h : varKB L[k] = false) : letR ex L k = 0 := by
  have e : (L.getD k tr0) = L[k] := by rw [List.getD_eq_getElem?_getD, List.getElem?_eq_getElem hk]; rfl
  unfold letR; rw [e, if_neg h1, if_neg h2, if_pos h]
theorem letR_d {ex : Str} {L : List Tr} {k : Nat} (hk : k < L.length) (h1 : ¬ (L[k].1 = 5 ∧ ex.contains 100 = true)) (h2 : ¬ (L[k].1 = 10 ∧ ex.contains 101 = true)) (h : varKB L[k] = true) (hd : (L.drop (k + 1)).any varKB = true) : letR ex L k = 0 := by
  have e : (L.getD k tr0) = L[k] := by rw [List.getD_eq_getElem?_getD, List.getElem?_eq_getElem hk]; rfl
  unfold letR; rw [e, if_neg h1, if_neg h2, if_neg (by rw [h]; decide), if_pos hd]
theorem letR_e {ex : Str} {L : List Tr} {k : Nat} (hk : k < L.length) (h1 : ¬ (L[k].1 = 5 ∧ ex.contains 100 = true)) (h2 : ¬ (L[k].1 = 10 ∧ ex.contains 101 = true)) (h : varKB L[k] = true) (hd : (L.drop (k + 1)).any varKB = false) : letR ex L k = lastR ex := by
  have e : (L.getD k tr0) = L[k] := by rw [List.getD_eq_getElem?_getD, List.getElem?_eq_getElem hk]; rfl
  unfold letR; rw [e, if_neg h1, if_neg h2, if_neg (by rw [h]; decide), if_neg (by rw [hd]; decide)]; rfl
def RetLet (w : World) (c : UInt8) (e : Ending) (w' : World) : Prop := e = .returned (.int .u8 (c.toNat : Int)) ∧ Below w.heap.size w w'
end Go.Proofs.YtmnleknehjkmgaaGreat
namespace Go.Proofs.YtmnleknehjkmgaaGreat
open Go.RowKit Go.Shelf
attribute [local go_sem] Oper.semAt_some
theorem letter_any (page op : Int) (m : Str) (A : Option Addr) (cap l : Nat) (L : List Tr) (hl : L.length = l) (hL : l ≤ 1000) (ex : Str) (hx : ex.length ≤ 1000) (al : Bool) (k : Nat) (hk : k < l) (w : World) (H : OpsP w A L) :
    Calls Tryz.prog 61 #[enV page op m (.slice A l cap) ex al, .int .i64 k] w (RetLet w (letR ex L k)) := by
  have hk1 : k < L.length := by omega
  have rh := fun c w' => rhas_any ex hx c w'
  unfold enV
  obtain ⟨s, hs⟩ : ∃ s, sB ex = s := ⟨_, rfl⟩
  rw [hs] at rh ⊢
  clear hs
  obtain ⟨b, off, rfl, hb, p0, p1, p2⟩ := H.at_ hk1
  obtain ⟨⟨t0, t1, t2⟩, ht⟩ : ∃ t, L[k] = t := ⟨_, rfl⟩
  rw [ht] at p0 p1 p2
  simp only at p0 p1 p2
  obtain ⟨w0, hw0⟩ : ∃ z, w.alloc (.cells #[.int .i64 page, .int .u8 op, .string (sB m), .slice (some ⟨b, off, none⟩) l cap, .string s, .bool al] 80) = z := ⟨_, rfl⟩
  obtain ⟨n, hn⟩ : ∃ z, w.heap.size = z := ⟨_, rfl⟩
  have b0 : Below w.heap.size w w0 := by rw [← hw0]; exact up1 _ _
  have c0 : w0.heap[n]? = some (.cells #[.int .i64 page, .int .u8 op, .string (sB m), .slice (some ⟨b, off, none⟩) l cap, .string s, .bool al] 80 (0, 0)) := by rw [← hw0, ← hn]; exact World.alloc_heap_new w _
  have z0 : w0.heap.size = n + 1 := by rw [← hw0, ← hn]; simp
  obtain ⟨w1, hw1⟩ : ∃ z, w0.alloc (.cells #[.int .i64 t0, .int .i64 t1, .int .i64 t2] 67) = z := ⟨_, rfl⟩
  have b1 : Below w0.heap.size w0 w1 := by rw [← hw1]; exact up1 _ _
  have c1 : w1.heap[n + 1]? = some (.cells #[.int .i64 t0, .int .i64 t1, .int .i64 t2] 67 (0, 0)) := by rw [← hw1, ← z0]; exact World.alloc_heap_new w0 _
  have bb : Below w.heap.size w w1 := b0.trans (b1.mono b0.size)
  have d0 := (b1.block n (by omega)).trans c0
  have BB : Hid (Below n w w1) := by rw [← hn]; exact bb
  have HN := Lib.hid hn
  have PL := Lib.hid (H.below bb)
  have q0 := (b0.cell (p := ⟨b, off + k * 3, none⟩) hb).trans p0
  have q1 := (b0.cell (p := ⟨b, off + k * 3 + 1, none⟩) hb).trans p1
  have q2 := (b0.cell (p := ⟨b, off + k * 3 + 2, none⟩) hb).trans p2
  have k3 := Lib.cell_of_heap c0 3
  have hkc : (k : Int) < (l : Int) := by omega
  have LA := Lib.hid (letR_a (ex := ex) hk1)
  have LB := Lib.hid (letR_b (ex := ex) hk1)
  have LC := Lib.hid (letR_c (ex := ex) hk1)
  have LD := Lib.hid (letR_d (ex := ex) hk1)
  have LE := Lib.hid (letR_e (ex := ex) hk1)
  rw [ht] at LA LB LC LD LE
  simp only [varKB_eq] at LA LB LC LD LE
  have HL := Lib.hid hl
  have DY := Lib.hid (fun j (hj : j < L.length) => drop_yes (k := k) hj)
  have DA := Lib.hid (drop_any (L := L) (k := k))
  have V3 := Lib.hid (Lib.cell_of_heap d0 3)
  have V4 := Lib.hid (Lib.cell_of_heap d0 4)
  obtain ⟨h100, e100⟩ : ∃ z, ex.contains 100 = z := ⟨_, rfl⟩
  obtain ⟨h101, e101⟩ : ∃ z, ex.contains 101 = z := ⟨_, rfl⟩
  obtain ⟨h110, e110⟩ : ∃ z, ex.contains 110 = z := ⟨_, rfl⟩
  obtain ⟨h119, e119⟩ : ∃ z, ex.contains 119 = z := ⟨_, rfl⟩
  have R1 := Lib.hid (rh 100 w1)
  have R2 := Lib.hid (rh 101 w1)
  have R3 := Lib.hid (rh 110 w1)
  have R4 := Lib.hid (rh 119 w1)
  rw [e100] at R1 LA LB LC LD LE
  rw [e101] at R2 LB LC LD LE
  rw [e110] at R3
  rw [e119] at R4
  have LR : Hid (lastR ex = if h110 = true then 110 else if h119 = true then 119 else 0) := by show _ = _; unfold lastR; rw [e110, e119]
  have u0 := Lib.cell_of_heap c1 0
  have u4 := Lib.cell_of_heap d0 4
  clear H b0 c0 b1 bb d0 rh ht hl e100 e101 e110 e119 hx hb p0 p1 p2 hk1
  obtain ⟨r, hr⟩ : ∃ z, letR ex L k = z := ⟨_, rfl⟩
  rw [hr] at LA LB LC LD LE ⊢
  clear hr
  go_enter Tryz.func61, Tryz.ntmps61
  go_upto_region 2 with fail
  clear k3 q0 q1 q2 hw1 hw0
  by_cases k5 : t0 = 5
  · subst k5
    go_wp2_with fail
    refine R1.out.mono ?_
    rintro e w' ⟨rfl, rfl⟩
    cases h100 with
    | true =>
      obtain rfl := LA.out (by first | trivial | rfl) (by first | trivial | rfl)
      go_wp2
      go_ret
      exact ⟨rfl, by rw [HN.out]; exact BB.out⟩
    | false =>
      obtain rfl := LC.out (by simp) (by simp) (by decide)
      go_wp2
      go_ret
      exact ⟨rfl, by rw [HN.out]; exact BB.out⟩
  · have e5 : (t0 == 5) = false := beq_eq_false_iff_ne.2 k5
    by_cases k10 : t0 = 10
    · subst k10
      go_wp2_with fail
      refine R2.out.mono ?_
      rintro e w' ⟨rfl, rfl⟩
      cases h101 with
      | true =>
        obtain rfl := LB.out (by simp) (by first | trivial | rfl) (by first | trivial | rfl)
        go_wp2
        go_ret
        exact ⟨rfl, by rw [HN.out]; exact BB.out⟩
      | false =>
        obtain rfl := LC.out (by simp) (by simp) (by decide)
        go_wp2
        go_ret
        exact ⟨rfl, by rw [HN.out]; exact BB.out⟩
    · have e10 : (t0 == 10) = false := beq_eq_false_iff_ne.2 k10
      by_cases k67 : t0 = 6 ∨ t0 = 7
      · have K5 := Lib.hid k5
        have K10 := Lib.hid k10
        clear k5 k10 e5 e10
        rcases k67 with rfl | rfl
        · skip
          go_wp2
          go_loopw [6] (fun i wr => ∃ j : Nat, k + 1 ≤ j ∧ j ≤ l ∧ i = .int .i64 j ∧ wr = w1 ∧ Hid (∀ i (hi : i < L.length), k < i → i < j → varKB L[i] = false)) (fun i _ => l - (intOf i).toNat)
          case atStart => exact ⟨k + 1, Nat.le_refl _, by omega, by go_num, rfl, fun i hi h1 h2 => by omega⟩
          case round =>
            obtain ⟨j, hkj, hj, rfl, rfl, RR⟩ := hrel
            have w3 := V3.out
            by_cases hlt : j < l
            · have hj1 : j < L.length := by have := HL.out; omega
              obtain ⟨b2, o2, hA2, -, g0, g1, g2⟩ := PL.out.at_ hj1
              simp only [Option.some.injEq, Addr.mk.injEq, and_true] at hA2
              obtain ⟨rfl, rfl⟩ := hA2
              have hjc : (j : Int) < (l : Int) := by omega
              have DYj := Lib.hid (DY.out j hj1 (by omega))
              have RN : Hid (varKB L[j] = false → ∀ i (hi : i < L.length), k < i → i < j + 1 → varKB L[i] = false) := fun h i hi h1 h2 => by
                by_cases e : i = j
                · subst e; exact h
                · exact RR.out i hi h1 (by omega)
              obtain ⟨⟨y0, y1, y2⟩, hy⟩ : ∃ y, L[j] = y := ⟨_, rfl⟩
              rw [hy] at g0 DYj RN
              simp only [varKB_eq] at DYj RN
              simp only at g0
              clear g1 g2 hy hj1 RR
              by_cases y6 : y0 = 6 ∨ y0 = 7
              · obtain rfl := LD.out (fun h => by cases h.1) (fun h => by cases h.1) (by decide) (DYj.out (by rcases y6 with rfl | rfl <;> decide))
                rcases y6 with rfl | rfl
                all_goals
                  go_wp2
                  go_ret
                  exact ⟨rfl, by rw [HN.out]; exact BB.out⟩
              · have n6 : ¬ y0 = 6 := fun h => y6 (.inl h)
                have n7 : ¬ y0 = 7 := fun h => y6 (.inr h)
                have m6 : (y0 == 6) = false := beq_eq_false_iff_ne.2 n6
                have m7 : (y0 == 7) = false := beq_eq_false_iff_ne.2 n7
                have R9 := Lib.hid (RN.out (by rw [m6, m7]; rfl))
                clear y6 RN DYj
                go_wp2
                go_roundw
                case rel => exact ⟨j + 1, by omega, by omega, by go_num, by first | rfl | trivial, R9.out⟩
                case measure => simp [intOf]; omega
            · obtain rfl : j = l := by omega
              have DD : Hid (r = lastR ex) := LE.out (fun h => by cases h.1) (fun h => by cases h.1) (by decide) (DA.out fun i hi h1 => RR.out i hi h1 (by have := HL.out; omega))
              have v4 := V4.out
              have DD2 : Hid (r = if h110 = true then 110 else if h119 = true then 119 else 0) := by show r = _; rw [DD.out, LR.out]
              clear RR DD
              go_wp2_with fail
              refine R3.out.mono ?_
              rintro e w' ⟨rfl, rfl⟩
              cases h110 with
              | true =>
                obtain rfl : r = 110 := DD2.out
                go_wp2
                go_ret
                exact ⟨rfl, by rw [HN.out]; exact BB.out⟩
              | false =>
                go_wp2_with fail
                refine R4.out.mono ?_
                rintro e w' ⟨rfl, rfl⟩
                cases h119 with
                | true =>
                  obtain rfl : r = 119 := DD2.out
                  go_wp2
                  go_ret
                  exact ⟨rfl, by rw [HN.out]; exact BB.out⟩
                | false =>
                  obtain rfl : r = 0 := DD2.out
                  go_wp2
                  go_ret
                  exact ⟨rfl, by rw [HN.out]; exact BB.out⟩
        · skip
          go_wp2
          go_loopw [6] (fun i wr => ∃ j : Nat, k + 1 ≤ j ∧ j ≤ l ∧ i = .int .i64 j ∧ wr = w1 ∧ Hid (∀ i (hi : i < L.length), k < i → i < j → varKB L[i] = false)) (fun i _ => l - (intOf i).toNat)
          case atStart => exact ⟨k + 1, Nat.le_refl _, by omega, by go_num, rfl, fun i hi h1 h2 => by omega⟩
          case round =>
            obtain ⟨j, hkj, hj, rfl, rfl, RR⟩ := hrel
            have w3 := V3.out
            by_cases hlt : j < l
            · have hj1 : j < L.length := by have := HL.out; omega
              obtain ⟨b2, o2, hA2, -, g0, g1, g2⟩ := PL.out.at_ hj1
              simp only [Option.some.injEq, Addr.mk.injEq, and_true] at hA2
              obtain ⟨rfl, rfl⟩ := hA2
              have hjc : (j : Int) < (l : Int) := by omega
              have DYj := Lib.hid (DY.out j hj1 (by omega))
              have RN : Hid (varKB L[j] = false → ∀ i (hi : i < L.length), k < i → i < j + 1 → varKB L[i] = false) := fun h i hi h1 h2 => by
                by_cases e : i = j
                · subst e; exact h
                · exact RR.out i hi h1 (by omega)
              obtain ⟨⟨y0, y1, y2⟩, hy⟩ : ∃ y, L[j] = y := ⟨_, rfl⟩
              rw [hy] at g0 DYj RN
              simp only [varKB_eq] at DYj RN
              simp only at g0
              clear g1 g2 hy hj1 RR
              by_cases y6 : y0 = 6 ∨ y0 = 7
              · obtain rfl := LD.out (fun h => by cases h.1) (fun h => by cases h.1) (by decide) (DYj.out (by rcases y6 with rfl | rfl <;> decide))
                rcases y6 with rfl | rfl
                all_goals
                  go_wp2
                  go_ret
                  exact ⟨rfl, by rw [HN.out]; exact BB.out⟩
              · have n6 : ¬ y0 = 6 := fun h => y6 (.inl h)
                have n7 : ¬ y0 = 7 := fun h => y6 (.inr h)
                have m6 : (y0 == 6) = false := beq_eq_false_iff_ne.2 n6
                have m7 : (y0 == 7) = false := beq_eq_false_iff_ne.2 n7
                have R9 := Lib.hid (RN.out (by rw [m6, m7]; rfl))
                clear y6 RN DYj
                go_wp2
                go_roundw
                case rel => exact ⟨j + 1, by omega, by omega, by go_num, by first | rfl | trivial, R9.out⟩
                case measure => simp [intOf]; omega
            · obtain rfl : j = l := by omega
              have DD : Hid (r = lastR ex) := LE.out (fun h => by cases h.1) (fun h => by cases h.1) (by decide) (DA.out fun i hi h1 => RR.out i hi h1 (by have := HL.out; omega))
              have v4 := V4.out
              have DD2 : Hid (r = if h110 = true then 110 else if h119 = true then 119 else 0) := by show r = _; rw [DD.out, LR.out]
              clear RR DD
              go_wp2_with fail
              refine R3.out.mono ?_
              rintro e w' ⟨rfl, rfl⟩
              cases h110 with
              | true =>
                obtain rfl : r = 110 := DD2.out
                go_wp2
                go_ret
                exact ⟨rfl, by rw [HN.out]; exact BB.out⟩
              | false =>
                go_wp2_with fail
                refine R4.out.mono ?_
                rintro e w' ⟨rfl, rfl⟩
                cases h119 with
                | true =>
                  obtain rfl : r = 119 := DD2.out
                  go_wp2
                  go_ret
                  exact ⟨rfl, by rw [HN.out]; exact BB.out⟩
                | false =>
                  obtain rfl : r = 0 := DD2.out
                  go_wp2
                  go_ret
                  exact ⟨rfl, by rw [HN.out]; exact BB.out⟩
      · have e6 : (t0 == 6) = false := beq_eq_false_iff_ne.2 (fun h => k67 (.inl h))
        have e7 : (t0 == 7) = false := beq_eq_false_iff_ne.2 (fun h => k67 (.inr h))
        obtain rfl := LC.out (fun h => k5 h.1) (fun h => k10 h.1) (by rw [e6, e7]; rfl)
        have n6 : ¬ t0 = 6 := fun h => k67 (.inl h)
        have n7 : ¬ t0 = 7 := fun h => k67 (.inr h)
        have m6 : (t0 != 6) = true := bne_iff_ne.2 n6
        have m7 : (t0 != 7) = true := bne_iff_ne.2 n7
        clear k5 k10 k67 e6 e7
        go_wp2
        go_ret
        exact ⟨rfl, by rw [HN.out]; exact BB.out⟩
end Go.Proofs.YtmnleknehjkmgaaGreat
