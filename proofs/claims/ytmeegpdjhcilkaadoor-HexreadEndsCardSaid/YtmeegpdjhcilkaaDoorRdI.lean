/-
  strings.SplitSeq at a line feed: the walk over it, and the contract of the function that it returns.
-/
import Derived.Test.YtmeegpdjhcilkaaDoorStops
import Derived.Test.YtmeegpdjhcilkaaDoorRdS
import Derived.Test.YtmeegpdjhcilkaaDoorHexRp
import Derived.Test.YtmeegpdjhcilkaaDoorHexPa
import Derived.Shelf.Abstract
import Derived.Shelf.RegionOpen
import Derived.WalkKit
import Derived.LoopNIn
import Derived.LoopIn
namespace Go.Proofs.YtmeegpdjhcilkaaDoor
open Go.RowKit Go.Shelf
set_option linter.unusedVariables false
attribute [local go_sem] Oper.semAt_some

set_option maxHeartbeats 1000000 in
theorem splitSeq0_any (s p : ByteArray) (v : Int) (w : World) :
    Calls Tryd.prog 62 #[.string s, .string p, .int .i64 v] w fun e w' => e = .returned (.func (.func 95) #[] #[.pointer (some ⟨w.heap.size + 1, 0, none⟩), .pointer (some ⟨w.heap.size, 0, none⟩), .pointer (some ⟨w.heap.size + 1 + 1, 0, none⟩)]) ∧
      ((w.alloc (.cells #[.string s] 9)).alloc (.cells #[.string p] 9)).alloc (.cells #[.int .i64 v] 3) = w' := by
  go_enter Tryd.func62, Tryd.ntmps62
  go_wp2
  go_ret
  exact ⟨rfl, rfl⟩
theorem splitSeq_any (s p : ByteArray) (w : World) (n : Nat) (hn : w.heap.size = n) :
    Calls Tryd.prog 32 #[.string s, .string p] w fun e w' => e = .returned (.func (.func 95) #[] #[.pointer (some ⟨n + 1, 0, none⟩), .pointer (some ⟨n, 0, none⟩), .pointer (some ⟨n + 1 + 1, 0, none⟩)]) ∧
      ((w.alloc (.cells #[.string s] 9)).alloc (.cells #[.string p] 9)).alloc (.cells #[.int .i64 0] 3) = w' := by
  subst hn
  go_enter Tryd.func32, Tryd.ntmps32
  go_wp2_with fail
  refine (splitSeq0_any s p 0 _).mono ?_
  rintro e w' ⟨rfl, hw⟩
  go_wp2
  go_ret
  exact ⟨rfl, hw⟩
def strAt (w : World) (b : Nat) : Nat := match w.cell? ⟨b, 0, none⟩ with | some v => strLen v | none => 0
theorem strAt_of {w : World} {b : Nat} {s : ByteArray} (h : w.cell? ⟨b, 0, none⟩ = some (.string s)) : strAt w b = s.size := by unfold strAt; rw [h]; rfl
theorem pre_get {α : Type} (l : List α) (u : α) (k : Nat) (h : k < l.length) : l.take k ++ [l[k]] <+: l ++ [u] := by
  rw [← List.take_succ_eq_append_getElem h]
  exact (List.take_prefix _ _).trans (List.prefix_append _ _)
set_option maxRecDepth 100000 in
set_option maxHeartbeats 4000000 in
theorem splitSeq1_tells (n : Nat) (Q : Nat → Prop) (Bp Bs Bv : Nat) (hQp : Q Bp) (hQs : Q Bs) (hQv : Q Bv) (hps : Bp ≠ Bs) (hvs : Bv ≠ Bs) (L : List (List UInt8)) (u : List UInt8) (hL : ∀ x ∈ L, NoLf x) (hu : NoLf u) (hb : (joinL L ++ u).length ≤ 40000000) (w : World)
    (hp : Boxed w Bp 9 (.string ⟨#[10]⟩)) (hs : Boxed w Bs 9 (.string (strOf (joinL L ++ u)))) (hv : Boxed w Bv 3 (.int .i64 0)) :
    Stops.Tells Fence.wide n Tryd.prog 95 #[.pointer (some ⟨Bp, 0, none⟩), .pointer (some ⟨Bs, 0, none⟩), .pointer (some ⟨Bv, 0, none⟩)] (fun x : List UInt8 => #[.string (strOf x)]) (fun pre x => pre ++ [x] <+: L ++ [u]) Bs (KeptP Q) (fun ys => ys = L ++ [u]) w := fun l J Jx W hW hJ hJB hY hJx h0 => by
  have hJd : ∀ (m : Nat) (z : List (List UInt8)) (X : World), J z X → J z (X.drewN m) := fun m z X h => hJ z X _ none h ⟨rfl, rfl, rfl, Nat.le_refl _, fun _ _ _ => rfl⟩ (fun r e => by cases e)
  have kp : Boxed W Bp 9 (.string ⟨#[10]⟩) := (hW.block Bp hp.lt).trans hp
  have ks : Boxed W Bs 9 (.string (strOf (joinL L ++ u))) := (hW.block Bs hs.lt).trans hs
  have kv : Boxed W Bv 3 (.int .i64 0) := (hW.block Bv hv.lt).trans hv
  have HL := Lib.hid hL
  have HU := Lib.hid hu
  have HB := Lib.hid hb
  have NE := Lib.hid (And.intro hps hvs)
  have HQ := Lib.hid (And.intro hQp (And.intro hQs hQv))
  have KP := Lib.hid kp
  have KS := Lib.hid ks
  have KV := Lib.hid kv
  have J0 := Lib.hid h0
  have HY := Lib.hid hY
  have HJB := Lib.hid hJB
  have h10 : (⟨#[10]⟩ : ByteArray).size = 1 := rfl
  have kpc := kp.cell
  clear hL hu hb hps hvs hQp hQs hQv kp ks kv h0 hY hJB hJd hJ hJx hW hp hs hv
  refine callsIn_wide.2 ?_
  show Calls Tryd.prog 95 #[.func (.yield l) #[] #[], .pointer (some ⟨Bp, 0, none⟩), .pointer (some ⟨Bs, 0, none⟩), .pointer (some ⟨Bv, 0, none⟩)] W _
  go_enter Tryd.func95, Tryd.ntmps95
  go_wp2
  go_loopw [7] (fun _ wr => ∃ (k : Nat) (S : ByteArray), k ≤ L.length ∧ Hid (S = strOf (joinL (L.drop k) ++ u)) ∧ Hid (Boxed wr Bp 9 (.string ⟨#[10]⟩)) ∧ Hid (Boxed wr Bs 9 (.string S)) ∧ Hid (Boxed wr Bv 3 (.int .i64 0)) ∧ Hid (J (L.take k) wr)) (fun _ wr => strAt wr Bs)
  case atStart => exact ⟨0, _, Nat.zero_le _, rfl, KP.out, KS.out, KV.out, J0.out⟩
  case round =>
    clear KP KS KV J0 kpc
    obtain ⟨k, S, hk, E, P, B, V, JJ⟩ := hrel
    have pc := P.out.cell
    have bc := B.out.cell
    have vc := V.out.cell
    have hSb : S.size ≤ 40000000 := by
      have h1 := HB.out
      have h2 : (joinL L ++ u).length = (joinL (L.take k)).length + (joinL (L.drop k) ++ u).length := by
        conv => lhs; rw [← List.take_append_drop k L, joinL_append, List.append_assoc, List.length_append]
      rw [E.out, strOf_size]
      omega
    by_cases hlt : k < L.length
    · obtain ⟨e1, e2, e3, e4⟩ := cut_line L u k hlt S E.out
      have hix := index_any S wr
      rw [e4 (HL.out _ (List.getElem_mem hlt))] at hix
      have hN : (L.take k) ++ [L[k]] = L.take (k + 1) := (List.take_succ_eq_append_getElem hlt).symm
      obtain ⟨fn, tmps, assign, body, hy, hR⟩ := HY.out (L.take k) L[k] wr JJ.out (pre_get L u k hlt)
      obtain ⟨m, hm⟩ : ∃ m, L[k].length = m := ⟨_, rfl⟩
      rw [← e1, hm] at hy
      rw [hN] at hR
      rw [hm] at e2 e3 hix
      have E2 := Lib.hid e2
      have hm40 : m ≤ 40000000 := by omega
      clear e1 e2 e4 hN hm
      go_wp2_with fail
      refine hix.mono ?_
      rintro e w' ⟨rfl, rfl⟩
      clear hix
      go_upto_region 8 with fail
      refine (wpIn_wide (n := n)).1 ?_
      gi_wp2
      refine ⟨fun h => (by cases h), hR.mono ?_⟩
      rintro e3' W3 (⟨rfl, hJ3, hk3⟩ | ⟨rfl, hJx3⟩)
      · have p3 : Boxed W3 Bp 9 (.string ⟨#[10]⟩) := (hk3.block Bp P.out.lt HQ.out.1).trans P.out
        have b3 : Boxed W3 Bs 9 (.string S) := (hk3.block Bs B.out.lt HQ.out.2.1).trans B.out
        have v3 : Boxed W3 Bv 3 (.int .i64 0) := (hk3.block Bv V.out.lt HQ.out.2.2).trans V.out
        obtain ⟨T, hT⟩ : ∃ T, S.extract (m + 1) S.size = T := ⟨_, rfl⟩
        have hTl : T.size < S.size := by rw [← hT]; simp; omega
        have hg := grownBy_setCell' W3 Bs (.string T)
        have F : Hid (Boxed (W3.setCell ⟨Bs, 0, none⟩ (.string T)) Bp 9 (.string ⟨#[10]⟩) ∧ Boxed (W3.setCell ⟨Bs, 0, none⟩ (.string T)) Bs 9 (.string T) ∧ Boxed (W3.setCell ⟨Bs, 0, none⟩ (.string T)) Bv 3 (.int .i64 0) ∧ J (L.take (k + 1)) (W3.setCell ⟨Bs, 0, none⟩ (.string T))) :=
          ⟨(hg.block Bp p3.lt (by have := NE.out.1; simpa using this)).trans p3, b3.set _, (hg.block Bv v3.lt (by have := NE.out.2; simpa using this)).trans v3, HJB.out _ _ _ hJ3 hg⟩
        have M1 : Hid (strAt (W3.setCell ⟨Bs, 0, none⟩ (.string T)) Bs = T.size) := strAt_of F.out.2.1.cell
        have M0 : Hid (strAt wr Bs = S.size) := strAt_of bc
        have q1 := p3.cell
        have q2 := b3.cell
        have q3 := b3.frozen
        clear hJ3 hk3 hR hy p3 b3 v3 hg pc vc
        subst hT
        gi_wp2
        go_wp2
        go_roundw
        case rel => exact ⟨k + 1, _, hlt, E2.out, F.out.1, F.out.2.1, F.out.2.2.1, F.out.2.2.2⟩
        case measure => rw [M1.out, M0.out]; exact hTl
      · clear hR hy
        gi_wp2
        go_wp2
        refine bodyPost_ret (results_none rfl _ _ _) rfl ?_
        exact ⟨⟨_, rfl⟩, .inr ⟨_, hJx3⟩⟩
    · have hkL : k = L.length := by omega
      have hSu : S = strOf u := by
        have h := E.out
        rw [hkL, List.drop_length] at h
        exact h
      have hix := index_any S wr
      rw [hSu, strOf_list, index_none u HU.out] at hix
      have JL := JJ.out
      rw [hkL, List.take_length] at JL
      obtain ⟨fn, tmps, assign, body, hy, hR⟩ := HY.out L u wr JL (List.prefix_refl _)
      rw [hSu] at bc
      clear JL
      go_wp2_with fail
      refine hix.mono ?_
      rintro e w' ⟨rfl, rfl⟩
      clear hix
      go_upto_region 10 with fail
      refine (wpIn_wide (n := n)).1 ?_
      gi_wp2
      refine ⟨fun h => (by cases h), hR.mono ?_⟩
      rintro e3' W3 (⟨rfl, hJ3, hk3⟩ | ⟨rfl, hJx3⟩)
      · clear hR hy
        gi_wp2
        go_end0
        exact ⟨⟨_, rfl⟩, .inl ⟨_, rfl, hJ3⟩⟩
      · clear hR hy
        gi_wp2
        go_end0
        exact ⟨⟨_, rfl⟩, .inr ⟨_, hJx3⟩⟩
end Go.Proofs.YtmeegpdjhcilkaaDoor
