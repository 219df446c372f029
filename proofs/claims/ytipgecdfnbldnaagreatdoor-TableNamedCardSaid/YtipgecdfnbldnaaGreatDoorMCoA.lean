/-
  The iterator over the opcodes of a pattern.
-/
import Derived.Test.YtipgecdfnbldnaaGreatDoorMLpA
import Derived.Test.YtipgecdfnbldnaaGreatDoorTaB
set_option linter.all false
set_option maxRecDepth 100000
set_option maxHeartbeats 4000000
namespace Go.Proofs.YtipgecdfnbldnaaGreatDoor
open Go.RowKit Go.Shelf
attribute [local go_sem] Oper.semAt_some
def nxtG (open_ f : Int) : Int := bits .and .u8 (IntKind.u8.wrap (f - open_)) open_
def opsG (ones open_ : Int) : Nat → Int → List Int
  | 0, _ => []
  | k + 1, f => bits .or .u8 ones f :: (if f = open_ then [] else opsG ones open_ k (nxtG open_ f))
def okG (ones open_ : Int) : Nat → Int → Bool
  | 0, _ => false
  | k + 1, f => decide (0 ≤ bits .or .u8 ones f) && decide (bits .or .u8 ones f ≤ 255) && (decide (f = open_) || okG ones open_ k (nxtG open_ f))
def opsP (p : Pat) : List Int := opsG (opnF p.1).1 (opnF p.1).2 256 0
def okP (p : Pat) : Bool := okG (opnF p.1).1 (opnF p.1).2 256 0
theorem opsG_fuel (ones open_ : Int) : ∀ (k m : Nat) (v : Int), okG ones open_ k v = true → k ≤ m → opsG ones open_ m v = opsG ones open_ k v
  | 0, m, v, h, _ => by cases h
  | k + 1, 0, v, _, hm => by omega
  | k + 1, m + 1, v, h, hm => by
    unfold okG at h
    simp only [Bool.and_eq_true, Bool.or_eq_true, decide_eq_true_eq] at h
    unfold opsG
    by_cases e : v = open_
    · rw [if_pos e, if_pos e]
    · rw [if_neg e, if_neg e, opsG_fuel ones open_ k m _ (h.2.resolve_left e) (by omega)]
theorem opsG_less (ones open_ : Int) (k : Nat) (v : Int) (h : okG ones open_ (k + 1) v = true) (e : v ≠ open_) (hk : k + 1 ≤ 256) : (opsG ones open_ 256 (nxtG open_ v)).length < (opsG ones open_ 256 v).length := by
  have h2 := h
  unfold okG at h2
  simp only [Bool.and_eq_true, Bool.or_eq_true, decide_eq_true_eq] at h2
  rw [opsG_fuel ones open_ (k + 1) 256 v h hk, opsG_fuel ones open_ k 256 _ (h2.2.resolve_left e) (by omega)]
  show _ < (_ :: _).length
  rw [if_neg e]
  exact Nat.lt_succ_self _
theorem opcodes_gives (n : Nat) (p : Pat) (h8 : p.1.length = 8) (hok : okP p = true) (w : World) :
    Each.GivesB Fence.wide n Tryz.prog 98 #[.agg #[.string (sB p.1), .string (sB p.2)]] #[] (fun x : Int => #[.int .u8 x]) (fun x _ => 0 ≤ x ∧ x ≤ 255) (fun _ _ => True) (fun xs => xs = opsP p) 256 w := fun lp J W hW hJ hY h0 => by
  have hJb : ∀ (z : List Int) (X Y : World), J z X → Below X.heap.size X Y → J z Y := fun z X Y h hb => hJ z X Y none h ⟨hb.os, hb.tape, hb.output, hb.size, fun i hi _ => hb.block i hi⟩ (fun r e => by cases e)
  have hm := fun o => masks_any p.1 p.2 h8 (W.alloc o)
  obtain ⟨ones, ho⟩ : ∃ z, (opnF p.1).1 = z := ⟨_, rfl⟩
  obtain ⟨op, hop⟩ : ∃ z, (opnF p.1).2 = z := ⟨_, rfl⟩
  have OP : Hid (opsP p = opsG ones op 256 0) := by show opsP p = _; unfold opsP; rw [ho, hop]
  have OK : Hid (okG ones op 256 0 = true) := by show _ = _; rw [← hok]; unfold okP; rw [ho, hop]
  rw [ho, hop] at hm
  have HY := Lib.hid hY
  have HJb := Lib.hid hJb
  have J0 : Hid (∀ o, J [] (W.alloc o)) := fun o => hJb _ _ _ h0 ((Below.refl _ _).alloc (Nat.le_refl _) o)
  clear h0 hY hJb hJ hW ho hop hok h8
  refine callsIn_wide.2 ?_
  show Calls Tryz.prog 98 #[.agg #[.string (sB p.1), .string (sB p.2)], .func (.yield lp) #[] #[]] W _
  go_enter Tryz.func98, Tryz.ntmps98
  go_wp2_with fail
  refine (hm _).mono ?_
  rintro e w1 ⟨rfl, hb1⟩
  have J1 := Lib.hid (HJb.out _ _ _ (J0.out _) hb1)
  clear hm hb1 J0
  go_upto_region 2 with fail
  go_wp2
  go_loopw [6] (fun f wr => ∃ (pre : List Int) (k : Nat) (v : Int), f = .int .u8 v ∧ Hid (okG ones op k v = true) ∧ Hid (pre ++ opsG ones op k v = opsP p) ∧ Hid (pre.length + k = 256) ∧ Hid (J pre wr) ) (fun f _ => (opsG ones op 256 (intOf f)).length)
  case atStart => exact ⟨[], 256, 0, rfl, OK.out, OP.out.symm, rfl, J1.out⟩
  case round =>
    clear J1 OP OK
    obtain ⟨pre, k, v, rfl, OK, EQ, LEN, JJ⟩ := hrel
    cases k with
    | zero => exact absurd OK.out (by unfold okG; decide)
    | succ k =>
      have OK2 : Hid ((0 ≤ bits .or .u8 ones v ∧ bits .or .u8 ones v ≤ 255) ∧ (v = op ∨ okG ones op k (nxtG op v) = true)) := by
        have h := OK.out
        unfold okG at h
        simp only [Bool.and_eq_true, Bool.or_eq_true, decide_eq_true_eq] at h
        exact h
      have hyd := HY.out pre (bits .or .u8 ones v) wr JJ.out OK2.out.1 (by have := LEN.out; omega)
      obtain ⟨fn, tmps, assign, body, hy, hR⟩ := hyd
      have LS := Lib.hid (opsG_less ones op k v OK.out)
      have LK : Hid (k + 1 ≤ 256) := (by have := LEN.out; omega : k + 1 ≤ 256)
      have EQ2 : Hid (pre ++ bits .or .u8 ones v :: (if v = op then [] else opsG ones op k (nxtG op v)) = opsP p) := EQ.out
      have LEN2 : Hid ((pre ++ [bits .or .u8 ones v]).length + k = 256) := by show _ = _; rw [List.length_append]; have := LEN.out; simp; omega
      clear EQ OK JJ LEN
      go_upto_region 3 with fail
      refine (wpIn_wide (n := n)).1 ?_
      gi_wp2
      refine ⟨fun h => (by cases h), hR.mono ?_⟩
      rintro e3 W3 ⟨rfl, hJ3, -⟩
      have J3 := Lib.hid hJ3
      clear hJ3 hR hy
      by_cases hv : v = op
      · have EN : Hid (pre ++ [bits .or .u8 ones v] = opsP p) := by show _ = _; rw [← EQ2.out, if_pos hv]
        have hb : (v == op) = true := by rw [hv]; exact beq_self_eq_true _
        clear hv EQ2 LS
        gi_wp2
        go_wp2
        go_end0
        exact ⟨⟨_, rfl⟩, _, EN.out, J3.out⟩
      · have hb : (v == op) = false := by simpa using hv
        have OK3 : Hid (okG ones op k (nxtG op v) = true) := OK2.out.2.resolve_left hv
        have EN : Hid ((pre ++ [bits .or .u8 ones v]) ++ opsG ones op k (nxtG op v) = opsP p) := by show _ = _; rw [← EQ2.out, if_neg hv, List.append_assoc]; rfl
        have LS2 := Lib.hid (LS.out hv LK.out)
        clear hv EQ2 LS OK2
        gi_wp2
        go_wp2
        go_roundw
        case rel => exact ⟨pre ++ [bits .or .u8 ones v], k, nxtG op v, rfl, OK3.out, EN.out, LEN2.out, J3.out⟩
        case measure => exact LS2.out
end Go.Proofs.YtipgecdfnbldnaaGreatDoor
