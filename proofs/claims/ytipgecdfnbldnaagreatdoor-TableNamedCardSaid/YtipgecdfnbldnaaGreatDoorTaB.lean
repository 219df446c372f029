/-
  TbC, TbD, TbE: texts joined to one.
-/
import Derived.Test.YtipgecdfnbldnaaGreatDoorTaA
import Derived.Test.YtipgecdfnbldnaaGreatDoorCut
import Derived.Test.YtipgecdfnbldnaaGreatDoorBaA
import Derived.Shelf.Abstract
import Derived.Shelf.RegionOpen
import Derived.WalkKit
import Derived.TacticsIn
import Derived.TacticsInMore
import Derived.OwnWalkIn
import Derived.Deep.Cut
import Derived.LoopNIn
import Derived.LoopIn
import Derived.KernelRfl
import Derived.Laws.EntriesVeiled
set_option linter.all false
set_option maxRecDepth 100000
set_option maxHeartbeats 4000000
/-
  strings.Cut at byte lists; the iterator over the patterns of a list.
-/
namespace Go.Proofs.YtipgecdfnbldnaaGreatDoor
open Go.RowKit Go.Shelf
attribute [local go_sem] Oper.semAt_some
def MaxAt (w : World) : Prop := ∃ m, w.cell? ⟨0, 0, none⟩ = some (.int .i64 m)
theorem MaxAt.lt {w : World} (h : MaxAt w) : 0 < w.heap.size := by
  obtain ⟨m, h⟩ := h
  exact World.block_lt_of_cell? w _ h
theorem MaxAt.below {w w' : World} (h : MaxAt w) (hb : Below w.heap.size w w') : MaxAt w' := by
  have hl := h.lt
  obtain ⟨m, h⟩ := h
  exact ⟨m, (hb.cell hl).trans h⟩
theorem MaxAt.belowN {w w' : World} {n : Nat} (h : MaxAt w) (hb : Below n w w') (hn : 0 < n) : MaxAt w' := by
  obtain ⟨m, h⟩ := h
  exact ⟨m, (hb.cell hn).trans h⟩
theorem cut_any (l sep : Str) (hl : l.length ≤ 100000) (w : World) (hM : MaxAt w) :
    Calls Tryz.prog 78 #[.string (sB l), .string (sB sep)] w fun e w' => e = .returned (.tuple #[.string (sB (cutL sep l).1), .string (sB (cutL sep l).2.1), .bool (cutL sep l).2.2]) ∧ ∃ n, w' = w.drewN n := by
  obtain ⟨m, hm⟩ := hM
  have h := Tryz.strings_Cut (sB l) (sB sep) m w (by rw [sB_size]; omega) hm
  rw [cut_cutL] at h
  exact h
theorem sB_nil (l : Str) : ((sB l).toList == ([] : List UInt8)) = l.isEmpty := by
  rw [ByteArray.toList_eq]
  cases l <;> rfl
def patsOf (l : Str) : List Pat := patsF l.length l
theorem patsF_nil (n : Nat) : patsF n [] = [] := by cases n <;> rfl
theorem patterns_any (l : Str) (w : World) :
    Calls Tryz.prog 49 #[.string (sB l)] w fun e w' => e = .returned (.func (.func 77) #[] #[.pointer (some ⟨w.heap.size, 0, none⟩)]) ∧ w.alloc (.cells #[.string (sB l)] 9) = w' := by
  go_enter Tryz.func49, Tryz.ntmps49
  go_wp2
  go_ret
  exact ⟨rfl, rfl⟩
def strSz : Value → Nat
  | .string s => s.size
  | _ => 0
def KeepM (W W' : World) : Prop := W'.cell? ⟨0, 0, none⟩ = W.cell? ⟨0, 0, none⟩
theorem KeepM.trans {A B C : World} (h : KeepM A B) (k : KeepM B C) : KeepM A C := Eq.trans k h
theorem KeepM.max {A B : World} (h : KeepM A B) (k : MaxAt A) : MaxAt B := by
  obtain ⟨m, k⟩ := k
  exact ⟨m, Eq.trans h k⟩
theorem patterns1_tells (n : Nat) (Bs : Nat) (l : Str) (hl : l.length ≤ 100000) (w : World) (hs : Boxed w Bs 9 (.string (sB l))) (hM : MaxAt w) :
    Stops.Tells Fence.wide n Tryz.prog 77 #[.pointer (some ⟨Bs, 0, none⟩)] (fun x : Pat => #[.agg #[.string (sB x.1), .string (sB x.2)]]) (fun pre x => pre ++ [x] <+: patsOf l) Bs KeepM (fun ys => ys = patsOf l) w := fun lp J Jx W hW hJ hJB hY hJx h0 => by
  have hJd : ∀ (m : Nat) (z : List Pat) (X : World), J z X → J z (X.drewN m) := fun m z X h => hJ z X _ none h ⟨rfl, rfl, rfl, Nat.le_refl _, fun _ _ _ => rfl⟩ (fun r e => by cases e)
  have kb : Boxed W Bs 9 (.string (sB l)) := (hW.block Bs hs.lt).trans hs
  have hc := kb.cell
  have M0 : Hid (MaxAt W) := hM.below hW
  have J0 := Lib.hid h0
  have HY := Lib.hid hY
  have HJd := Lib.hid hJd
  have HL := Lib.hid hl
  clear hl h0 hY hJB hJd hJ hJx hW hs hM kb
  refine callsIn_wide.2 ?_
  show Calls Tryz.prog 77 #[.func (.yield lp) #[] #[], .pointer (some ⟨Bs, 0, none⟩)] W _
  go_enter Tryz.func77, Tryz.ntmps77
  go_wp2
  go_loopw [3] (fun r wr => ∃ (pre : List Pat) (l' : Str) (k : Nat), r = .string (sB l') ∧ l'.length ≤ k ∧ l'.length ≤ l.length ∧ Hid (pre ++ patsF k l' = patsOf l) ∧ Hid (MaxAt wr) ∧ Hid (J pre wr)) (fun r _ => strSz r)
  case atStart => exact ⟨[], l, l.length, rfl, Nat.le_refl _, Nat.le_refl _, rfl, M0.out, J0.out⟩
  case round =>
    clear M0 J0 hc
    obtain ⟨pre, l', k, rfl, hk, hle, EQ, MA, JJ⟩ := hrel
    by_cases hemp : l' = []
    · subst hemp
      have hn := sB_nil []
      have P : Hid (pre = patsOf l) := by
        have h := EQ.out
        rw [patsF_nil, List.append_nil] at h
        exact h
      go_wp2
      go_end0
      have h := JJ.out
      exact ⟨⟨_, rfl⟩, .inl ⟨_, P.out, h⟩⟩
    · have hn := sB_nil l'
      rw [List.isEmpty_eq_false_iff.2 hemp] at hn
      have hl' : l'.length ≤ 100000 := by have := HL.out; omega
      have h0' : 0 < l'.length := List.length_pos_iff.2 hemp
      obtain ⟨k, rfl⟩ : ∃ j, k = j + 1 := ⟨k - 1, by omega⟩
      have c1 := cutL_lt [59, 32] l' (by decide) h0'
      have hcut := cut_any l' [59, 32] hl' wr MA.out
      have hcut2 := cut_any (cutL [59, 32] l').1 [32] (by omega)
      obtain ⟨row, hrow⟩ : ∃ r, (cutL [59, 32] l').1 = r := ⟨_, rfl⟩
      obtain ⟨rest, hrest⟩ : ∃ r, (cutL [59, 32] l').2.1 = r := ⟨_, rfl⟩
      have EQ2 : Hid ((pre ++ [rowP row]) ++ patsF k rest = patsOf l) := by
        have h := EQ.out
        rw [patsF, if_neg (by simpa using hemp), hrow, hrest] at h
        rw [List.append_assoc]
        exact h
      have LT : Hid (rest.length < l'.length) := by rw [← hrest]; exact c1.1
      have S0 : Hid (strSz (.string (sB l')) = l'.length) := sB_size l'
      have S1 : Hid (strSz (.string (sB rest)) = rest.length) := sB_size rest
      rw [hrow, hrest] at hcut
      rw [hrow] at hcut2
      have PF : pre ++ [rowP row] <+: patsOf l := by rw [← EQ2.out]; exact List.prefix_append _ _
      have PF := Lib.hid PF
      clear EQ c1 hrow hrest hemp
      go_wp2_with fail
      refine hcut.mono ?_
      rintro e w' ⟨rfl, q, rfl⟩
      have M1 : Hid (MaxAt (wr.drewN q)) := MA.out.below (below_drewN _ _ _)
      have J1 := Lib.hid (HJd.out q _ _ JJ.out)
      have hcut2 := hcut2 _ M1.out
      clear hcut
      go_wp2_with fail
      refine hcut2.mono ?_
      rintro e w' ⟨rfl, q2, rfl⟩
      have M2 : Hid (MaxAt ((wr.drewN q).drewN q2)) := M1.out.below (below_drewN _ _ _)
      have J2 := Lib.hid (HJd.out q2 _ _ J1.out)
      clear hcut2 M1 J1 JJ MA
      obtain ⟨w2, hw2⟩ : ∃ w2, (wr.drewN q).drewN q2 = w2 := ⟨_, rfl⟩
      rw [hw2] at M2 J2 ⊢
      clear hw2
      have hyd := HY.out pre (rowP row) w2 J2.out PF.out
      obtain ⟨fn, tmps, assign, body, hy, hR⟩ := hyd
      simp only [rowP] at hy
      go_upto_region 5 with fail
      refine (wpIn_wide (n := n)).1 ?_
      gi_wp2
      refine ⟨fun h => (by cases h), hR.mono ?_⟩
      rintro e3 W3 (⟨rfl, hJ3, hk3⟩ | ⟨rfl, hJx3⟩)
      · have M3 : Hid (MaxAt W3) := hk3.max M2.out
        have J3 := Lib.hid hJ3
        clear hJ3 hk3 hR hy
        gi_wp2
        go_wp2
        go_roundw
        case rel => exact ⟨pre ++ [rowP row], rest, k, rfl, by have := LT.out; omega, by have := LT.out; omega, EQ2.out, M3.out, J3.out⟩
        case measure => rw [S0.out, S1.out]; exact LT.out
      · clear hR hy
        gi_wp2
        go_wp2
        refine bodyPost_ret (results_none rfl _ _ _) rfl ?_
        exact ⟨⟨_, rfl⟩, .inr ⟨_, hJx3⟩⟩
end Go.Proofs.YtipgecdfnbldnaaGreatDoor
/-
  table.listOf; table.find: an opcode's pattern in a list.
-/
namespace Go.Proofs.YtipgecdfnbldnaaGreatDoor
open Go.RowKit Go.Shelf
attribute [local go_sem] Oper.semAt_some
def codeV (p : Pat) (op : Int) : Value := .agg #[.string (sB p.1), .string (sB p.2), .int .u8 op]
def findP (l : Str) (op : Int) : Option Pat := (patsOf l).find? fun p => fitsP p.1 op
def RetFind (w : World) (o : Option Pat) (op : Int) (e : Ending) (w' : World) : Prop :=
  e = .returned (.tuple #[match o with | some p => codeV p op | none => .agg #[.string ⟨#[]⟩, .string ⟨#[]⟩, .int .u8 0], .bool o.isSome]) ∧ Below w.heap.size w w'
theorem find_none {l : Str} {op : Int} {ys : List Pat} (h : ys = patsOf l) (k : ∀ y ∈ ys, fitsP y.1 op = false) : findP l op = none := by
  unfold findP
  rw [← h, List.find?_eq_none]
  intro x hx
  rw [k x hx]
  decide
theorem find_some {l : Str} {op : Int} {pre : List Pat} {x : Pat} (h : pre ++ [x] <+: patsOf l) (k : ∀ y ∈ pre, fitsP y.1 op = false) (hx : fitsP x.1 op = true) : findP l op = some x := by
  unfold findP
  obtain ⟨t, ht⟩ := h
  rw [← ht, List.find?_append, List.find?_append]
  have h1 : pre.find? (fun p => fitsP p.1 op) = none := by
    rw [List.find?_eq_none]
    intro y hy
    rw [k y hy]
    decide
  rw [h1]
  simp [hx]
theorem mem_of_pre {l : Str} {pre : List Pat} {x : Pat} (h : pre ++ [x] <+: patsOf l) : x ∈ patsOf l := h.subset (by simp)
theorem keepM_put {W0 : World} (h : MaxAt W0) (W : World) (l : Nat) (o' : Obj) (hl : W0.heap.size ≤ l) : KeepM W (W.putObj l o') := by
  have hlt := h.lt
  exact World.cell?_of_block (World.putObj_heap_other (by show 0 ≠ l; omega))
theorem set3 {w : World} {b : Nat} {T : TypeId} {a0 a1 a2 : Value} (h : w.heap[b]? = some (.cells #[a0, a1, a2] T (0, 0))) (v0 v1 v2 : Value) : (((w.setCell ⟨b, 0, none⟩ v0).setCell ⟨b, 1, none⟩ v1).setCell ⟨b, 2, none⟩ v2).heap[b]? = some (.cells #[v0, v1, v2] T (0, 0)) := by
  have h1 := heap_setCell_same w b 0 _ _ v0 h
  have h2 := heap_setCell_same (w.setCell ⟨b, 0, none⟩ v0) b 1 _ _ v1 h1
  have h3 := heap_setCell_same ((w.setCell ⟨b, 0, none⟩ v0).setCell ⟨b, 1, none⟩ v1) b 2 _ _ v2 h2
  exact h3
theorem set31 {w : World} {b : Nat} {T U : TypeId} {a0 a1 a2 u : Value} (h : w.heap[b]? = some (.cells #[a0, a1, a2] T (0, 0))) (k : Boxed w (b + 1) U u) (v0 v1 v2 v : Value) :
    ∃ w', (((w.setCell ⟨b, 0, none⟩ v0).setCell ⟨b, 1, none⟩ v1).setCell ⟨b, 2, none⟩ v2).setCell ⟨b + 1, 0, none⟩ v = w' ∧ w'.heap[b]? = some (.cells #[v0, v1, v2] T (0, 0)) ∧ Boxed w' (b + 1) U v ∧ KeepsOthers w w' ∧ Below b w w' ∧ w'.heap.size = w.heap.size := by
  refine ⟨_, rfl, (heap_setCell_other _ ⟨b + 1, 0, none⟩ b v (by simp)).trans (set3 h v0 v1 v2), ?_, ?_, ?_, by simp⟩
  · refine Boxed.set (v := u) v ?_
    exact (heap_setCell_other _ ⟨b, 2, none⟩ (b + 1) v2 (by simp)).trans ((heap_setCell_other _ ⟨b, 1, none⟩ (b + 1) v1 (by simp)).trans ((heap_setCell_other _ ⟨b, 0, none⟩ (b + 1) v0 (by simp)).trans k))
  · exact (((KeepsOthers.setCell _ _ _).trans (KeepsOthers.setCell _ _ _)).trans (KeepsOthers.setCell _ _ _)).trans (KeepsOthers.setCell _ _ _)
  · exact ((((Below.refl b w).setCell (p := ⟨b, 0, none⟩) (Nat.le_refl _) _).setCell (p := ⟨b, 1, none⟩) (Nat.le_refl _) _).setCell (p := ⟨b, 2, none⟩) (Nat.le_refl _) _).setCell (p := ⟨b + 1, 0, none⟩) (by simp) _
theorem keepM_below {B : Nat} {W W' : World} (h : Below B W W') (hB : 0 < B) : KeepM W W' := h.cell hB
theorem keepsFrom_below {W W' : World} (h : Below W.heap.size W W') (B : Nat) : KeepsFrom B W W' := ⟨h.size, fun k o _ hk _ => (h.block k (Array.getElem?_eq_some_iff.1 hk).1).trans hk⟩
theorem tfind_any (l : Str) (hl : l.length ≤ 100000) (h8 : ∀ p ∈ patsOf l, p.1.length = 8) (op : Int) (w : World) (hM : MaxAt w) :
    Calls Tryz.prog 23 #[.string (sB l), .int .u8 op] w (RetFind w (findP l op) op) := by
  obtain ⟨w0, hw0⟩ : ∃ w0, ((w.alloc (.cells #[.int .u8 op] 5)).alloc (.cells #[.string ⟨#[]⟩, .string ⟨#[]⟩, .int .u8 0] 58)).alloc (.cells #[.bool false] 4) = w0 := ⟨_, rfl⟩
  obtain ⟨n, hn⟩ : ∃ n, w.heap.size = n := ⟨_, rfl⟩
  have z0 : w0.heap.size = n + 1 + 1 + 1 := by rw [← hw0, ← hn]; simp
  have b0 : Below n w w0 := by rw [← hw0, ← hn]; exact (((Below.refl _ w).alloc (Nat.le_refl _) _).alloc (by simp) _).alloc (by simp; omega) _
  have c0 : Boxed w0 n 5 (.int .u8 op) := by rw [← hw0, ← hn]; exact ((Boxed.new w 5 (.int .u8 op)).alloc _).alloc _
  have c1 : w0.heap[n + 1]? = some (.cells #[.string ⟨#[]⟩, .string ⟨#[]⟩, .int .u8 0] 58 (0, 0)) := by
    rw [← hw0, ← hn]
    refine (Below.heap_alloc _ _ _ (by simp)).trans ?_
    have h := World.alloc_heap_new (w.alloc (.cells #[.int .u8 op] 5)) (.cells #[.string ⟨#[]⟩, .string ⟨#[]⟩, .int .u8 0] 58)
    rwa [World.size_alloc] at h
  have c2 : Boxed w0 (n + 1 + 1) 4 (.bool false) := by
    rw [← hw0, ← hn]
    have h := Boxed.new ((w.alloc (.cells #[.int .u8 op] 5)).alloc (.cells #[.string ⟨#[]⟩, .string ⟨#[]⟩, .int .u8 0] 58)) 4 (.bool false)
    rwa [World.size_alloc, World.size_alloc] at h
  have hM0 : MaxAt w0 := hM.below (by rw [hn]; exact b0)
  have hgn : 0 < n := by rw [← hn]; exact hM.lt
  have hpt := patterns_any l w0
  rw [z0] at hpt
  refine callsIn_wide.1 (callsIn_of_wp_marks (n := 3) Tryz.func23 rfl trivial ?_ rfl)
  simp only [Tryz.ntmps23, List.size_toArray, List.length_cons, List.length_nil, Nat.reduceAdd, Nat.reduceSub, Array.replicate_succ, Array.replicate_zero, List.push_toArray, List.append_toArray, List.nil_append, List.cons_append]
  refine wpIn_wide.2 ?_
  go_wp2_with fail
  refine hpt.mono ?_
  rintro e W0 ⟨rfl, hW0⟩
  have hs : Boxed W0 (n + 1 + 1 + 1) 9 (.string (sB l)) := by
    have h := Boxed.new w0 9 (.string (sB l))
    rw [hW0, z0] at h
    exact h
  have zW : W0.heap.size = n + 1 + 1 + 1 + 1 := by rw [← hW0]; simp; omega
  have bW : Below w0.heap.size w0 W0 := by rw [← hW0]; exact (Below.refl _ _).alloc (Nat.le_refl _) _
  have d0 : Boxed W0 n 5 (.int .u8 op) := (bW.block _ c0.lt).trans c0
  have d1 := (bW.block (n + 1) (by omega)).trans c1
  have d2 : Boxed W0 (n + 1 + 1) 4 (.bool false) := (bW.block _ c2.lt).trans c2
  have bN : Below n w W0 := b0.trans (bW.mono (by omega))
  have hMW : MaxAt W0 := hM0.below bW
  have hseq := patterns1_tells 2 (n + 1 + 1 + 1) l hl W0 hs hMW
  have H8 := Lib.hid h8
  have hn0 := hn
  have HM0 := Lib.hid hMW
  clear hM hM0 hpt hs bW b0 c0 c1 c2 hW0 hw0 hn z0 hl h8 w0 hMW
  go_wp2_with fail
  refine wpIn_wide.1 (Stops.wpIn_tellsA (F := Fence.wide) (n := 3) rfl (by omega) (gf := 77) (lb := #[.pointer (some ⟨n + 1 + 1 + 1, 0, none⟩)]) rfl trivial (enters_of Tryz.func77 (by kernel_rfl) rfl)
    hseq (by omega) (fun h k => h.trans k) (fun W l o o' hl _ _ => keepM_put HM0.out W l o' (by omega)) (fun _ => rfl)
    (fun pre W => (∀ y ∈ pre, fitsP y.1 op = false) ∧ Below (n + 1 + 1 + 1) W0 W)
    (fun pre W => ∃ p x, pre = p ++ [x] ∧ (∀ y ∈ p, fitsP y.1 op = false) ∧ fitsP x.1 op = true ∧ p ++ [x] <+: patsOf l ∧ W.heap[n + 1]? = some (.cells #[.string (sB x.1), .string (sB x.2), .int .u8 op] 58 (0, 0)) ∧ Boxed W (n + 1 + 1) 4 (.bool true) ∧ Below n w W)
    (fun s X Y row h hg hr => ⟨h.1, h.2.grown hg (by have := h.2.size; omega) fun r e => by have := (hr r e).1; omega⟩)
    (fun s X Y h hg => ⟨h.1, h.2.grown hg (by have := h.2.size; omega) fun r e => by cases e; omega⟩)
    (fun s X Y row h hg hr => by
      obtain ⟨p, x, h1, h2, h3, h4, h5, h6, h7⟩ := h
      have hne : ∀ k, k < n + 1 + 1 + 1 + 1 → some k ≠ row := fun k hk e => by have := (hr k e.symm).1; omega
      exact ⟨p, x, h1, h2, h3, h4, (hg.block _ (Array.getElem?_eq_some_iff.1 h5).1 (hne _ (by omega))).trans h5, h6.kept hg (hne _ (by omega)), h7.grown hg (by have := (Array.getElem?_eq_some_iff.1 h5).1; omega) fun r e => by have := (hr r e).1; omega⟩)
    ⟨fun y hy => (by cases hy), Below.refl _ _⟩
    (fun x a' W => ∃ b, n + 4 ≤ b ∧ W.heap[b]? = some (.cells #[.string (sB x.1), .string (sB x.2)] 56 (0, 0)) ∧ a' = { tmps := #[.string (sB l), .int .u8 op, undef, .pointer (some ⟨n, 0, none⟩), .pointer (some ⟨n + 1, 0, none⟩), .pointer (some ⟨n + 1 + 1, 0, none⟩), .pointer (some ⟨b, 0, none⟩), .string (sB l), .func (.func 77) #[] #[.pointer (some ⟨n + 1 + 1 + 1, 0, none⟩)], .agg #[.string (sB x.1), .string (sB x.2)], undef, undef, undef, undef, undef, undef, undef], defers := [] })
    (fun x s X Y row h hg hr => by
      obtain ⟨b, h1, h2, h3⟩ := h
      exact ⟨b, h1, (grownBy_keeps_cells hg (fun r e => (hr r e).2) h2 rfl).trans h2, h3⟩)
    ?assign ?body ?done ?stop)
  case assign =>
    rintro lp pre x W K hI hE hK
    gi_wp2
    refine hK _ _ ((KeepsOthers.alloc _ _).from _) (keepM_below ((Below.refl n W).alloc (by have := hI.2.size; omega) _) hgn) ⟨hI.1, hI.2.alloc (by have := hI.2.size; omega) _⟩ ⟨W.heap.size, by have := hI.2.size; omega, World.alloc_heap_new W _, rfl⟩
  case body =>
    rintro lp pre x a' W ⟨g1, g2⟩ ⟨b, hb, hc, rfl⟩ hpre
    have hmem := mem_of_pre hpre
    have e0 : Boxed W n 5 (.int .u8 op) := (g2.block n (by omega)).trans d0
    have p1 := e0.cell
    have q0 := Lib.cell_of_heap hc 0
    have q1 := Lib.cell_of_heap hc 1
    have hf := tfits_any x.1 x.2 (H8.out x hmem) op W
    have G := Lib.hid (And.intro g1 (And.intro g2 (And.intro hb hpre)))
    clear hmem g1 g2 hb hpre
    have E0 := Lib.hid e0
    have hWb : Hid (W.heap.size ≥ n + 4) := by have := G.out.2.1.size; show _ ≥ _; omega
    have q2 := Lib.frozen_of_heap hc
    cases hfit : fitsP x.1 op
    · have FT := Lib.hid hfit
      rw [hfit] at hf
      clear e0 hfit hc
      gi_wp2_with fail
      refine ⟨trivial, CallsIn.inRound lp (callsIn_wide.2 hf) |>.mono ?_⟩
      rintro e w' ⟨rfl, hb⟩
      have P : Hid (KeepsFrom W0.heap.size W w' ∧ KeepM W w' ∧ (∀ y ∈ pre ++ [x], fitsP y.1 op = false) ∧ Below (n + 1 + 1 + 1) W0 w') := by
        refine ⟨keepsFrom_below hb _, keepM_below hb (by have := hWb.out; omega), fun y hy => ?_, G.out.2.1.trans (hb.mono (by have := hWb.out; omega))⟩
        rcases List.mem_append.1 hy with h | h
        · exact G.out.1 y h
        · rw [List.mem_singleton.1 h]; exact FT.out
      clear hf hb
      gi_wp2
      exact P.out
    · have FT := Lib.hid hfit
      have b1 : W.heap[n + 1]? = _ := (G.out.2.1.block (n + 1) (by omega)).trans d1
      have b2 : Boxed W (n + 1 + 1) 4 (.bool false) := (G.out.2.1.block (n + 1 + 1) (by omega)).trans d2
      rw [hfit] at hf
      clear hfit hc
      gi_wp2_with fail
      refine ⟨trivial, CallsIn.inRound lp (callsIn_wide.2 hf) |>.mono ?_⟩
      rintro e w' ⟨rfl, hb⟩
      have x0 : Boxed w' n 5 (.int .u8 op) := (hb.block n e0.lt).trans e0
      have x1 := (hb.block (n + 1) (Array.getElem?_eq_some_iff.1 b1).1).trans b1
      have x2 : Boxed w' (n + 1 + 1) 4 (.bool false) := (hb.block (n + 1 + 1) b2.lt).trans b2
      have x3 := (hb.cell (World.block_lt_of_cell? W _ q0)).trans q0
      have x4 := (hb.cell (World.block_lt_of_cell? W _ q1)).trans q1
      have y0 := x0.cell
      have y1 := Lib.cell_of_heap x1 0
      have y2 := Lib.cell_of_heap x1 1
      have y3 := Lib.cell_of_heap x1 2
      have y4 := Lib.frozen_of_heap x1
      have y5 := x2.cell
      have y6 := x2.frozen
      have X1 := Lib.hid x1
      have X2 := Lib.hid x2
      have BW : Hid (Below n w w') := (bN.trans ((G.out.2.1.mono (by omega)))).trans (hb.mono (by have := hWb.out; omega))
      have BK : Hid (Below W.heap.size W w') := hb
      clear hf hb b1 b2 x0 x1 x2 p1 q0 q1 q2 e0
      gi_wp2
      obtain ⟨w2, hw2, z1, z2, z3, z4, z5⟩ := set31 X1.out X2.out (.string (sB x.1)) (.string (sB x.2)) (.int .u8 op) (.bool true)
      rw [hw2]
      refine ⟨((keepsFrom_below BK.out _).trans (z3.from _)), pre, x, rfl, G.out.1, FT.out, G.out.2.2.2, z1, z2, BW.out.trans (z4.mono (by omega))⟩
  case done =>
    rintro D ys W hD rfl ⟨g1, g2⟩ hK
    have b1 : W.heap[n + 1]? = _ := (g2.block (n + 1) (by omega)).trans d1
    have b2 : Boxed W (n + 1 + 1) 4 (.bool false) := (g2.block (n + 1 + 1) (by omega)).trans d2
    have y1 := Lib.cell_of_heap b1 0
    have y2 := Lib.cell_of_heap b1 1
    have y3 := Lib.cell_of_heap b1 2
    have y4 := Lib.frozen_of_heap b1
    have y5 := b2.cell
    have y6 := b2.frozen
    have X1 := Lib.hid b1
    have X2 := Lib.hid b2
    have HK := Lib.hid hK
    have FN : Hid (findP l op = none) := find_none rfl g1
    have BW : Hid (Below n w W) := bN.trans (g2.mono (by omega))
    have HD := Lib.hid hD
    clear g1 g2 hK b1 b2 hD hseq d0 d1 d2 bN
    go_wp2
    obtain ⟨w2, hw2, z1, z2, z3, z4, z5⟩ := set31 X1.out X2.out (.string ⟨#[]⟩) (.string ⟨#[]⟩) (.int .u8 0) (.bool false)
    rw [hw2]
    have hK2 : w2.heap[D]? = some (.deferred (some [])) := z3.same D _ HK.out rfl
    have hg := grownBy_putObj' w2 D (.deferred none)
    have hDn := HD.out
    have q1 := (hg.block (n + 1) (Array.getElem?_eq_some_iff.1 z1).1 (by simp; omega)).trans z1
    have q2 := (z2.kept hg (by simp; omega)).cell
    have q3 := Lib.cell_of_heap q1 0
    have q4 := Lib.cell_of_heap q1 1
    have q5 := Lib.cell_of_heap q1 2
    refine ⟨by simp, .inl ⟨_, _, rfl, run_takeDeferred hK2, ?_⟩⟩
    refine ⟨.tuple #[.agg #[.string ⟨#[]⟩, .string ⟨#[]⟩, .int .u8 0], .bool false], ?_, ?_⟩
    · simp [results, Tryz.results23, go_sem, q2, q3, q4, q5]
    · rw [FN.out]
      exact ⟨rfl, by rw [hn0]; exact (BW.out.trans (z4.mono (by omega))).trans (belowK_b (w := w) (by omega) w2 D _ _ (by omega) hK2 rfl rfl)⟩
  case stop =>
    rintro D pre W hD ⟨p, x, rfl, h2, h3, h4, h5, h6, h7⟩ hK
    have hg := grownBy_putObj' W D (.deferred none)
    have q1 := (hg.block (n + 1) (Array.getElem?_eq_some_iff.1 h5).1 (by simp; omega)).trans h5
    have q2 := (h6.kept hg (by simp; omega)).cell
    have q3 := Lib.cell_of_heap q1 0
    have q4 := Lib.cell_of_heap q1 1
    have q5 := Lib.cell_of_heap q1 2
    have F : Hid (RetFind w (findP l op) op (.returned (.tuple #[codeV x op, .bool true])) (W.putObj D (.deferred none))) := by
      show RetFind _ _ _ _ _
      rw [find_some h4 h2 h3]
      exact ⟨rfl, by rw [hn0]; exact h7.trans (belowK_b (w := w) (by omega) W D _ _ (by omega) hK rfl rfl)⟩
    have HK := Lib.hid hK
    clear h2 h3 h4 h5 h6 h7 hK hg q1
    gi_wp2
    refine ⟨by simp, .inl ⟨_, _, rfl, run_takeDeferred HK.out, ?_⟩⟩
    refine ⟨.tuple #[codeV x op, .bool true], ?_, F.out⟩
    simp [results, Tryz.results23, go_sem, q2, q3, q4, q5, codeV]
end Go.Proofs.YtipgecdfnbldnaaGreatDoor
/-
  table.listOf: the list of a page; facts of the three lists.
-/
namespace Go.Proofs.YtipgecdfnbldnaaGreatDoor
open Go.RowKit Go.Shelf
theorem listOf_any (page : Int) (w : World) :
    Calls Tryz.prog 24 #[.int .i64 page] w fun e w' => e = .returned (.string (sB (listS page))) ∧ w' = w := by
  by_cases h0 : page = 0
  · subst h0
    go_enter Tryz.func24, Tryz.ntmps24
    go_wp2
    go_ret
    exact ⟨rfl, rfl⟩
  by_cases h1 : page = 1
  · subst h1
    go_enter Tryz.func24, Tryz.ntmps24
    go_wp2
    go_ret
    exact ⟨rfl, rfl⟩
  by_cases h2 : page = 2
  · subst h2
    go_enter Tryz.func24, Tryz.ntmps24
    go_wp2
    go_ret
    exact ⟨rfl, rfl⟩
  by_cases h3 : page = 3
  · subst h3
    go_enter Tryz.func24, Tryz.ntmps24
    go_wp2
    go_ret
    exact ⟨rfl, rfl⟩
  by_cases h4 : page = 4
  · subst h4
    go_enter Tryz.func24, Tryz.ntmps24
    go_wp2
    go_ret
    exact ⟨rfl, rfl⟩
  by_cases h5 : page = 5
  · subst h5
    go_enter Tryz.func24, Tryz.ntmps24
    go_wp2
    go_ret
    exact ⟨rfl, rfl⟩
  by_cases h6 : page = 6
  · subst h6
    go_enter Tryz.func24, Tryz.ntmps24
    go_wp2
    go_ret
    exact ⟨rfl, rfl⟩
  · have e : listS page = [] := by unfold listS; simp [h0, h1, h2, h3, h4, h5, h6]
    rw [e]
    go_enter Tryz.func24, Tryz.ntmps24
    go_wp2
    go_ret
    exact ⟨rfl, rfl⟩
theorem patsOf_main : patsOf mainS = mainP := by decide +kernel
theorem patsOf_cb : patsOf cbS = cbP := by decide +kernel
theorem patsOf_ed : patsOf edS = edP := by decide +kernel
def pagePats (page : Int) : List Pat := if page = 0 ∨ page = 3 ∨ page = 4 then mainP else if page = 1 ∨ page = 5 ∨ page = 6 then cbP else if page = 2 then edP else []
theorem patsOf_page (page : Int) : patsOf (listS page) = pagePats page := by
  unfold listS pagePats
  split
  · exact patsOf_main
  · split
    · exact patsOf_cb
    · split
      · exact patsOf_ed
      · rfl
theorem listS_len (page : Int) : (listS page).length ≤ 100000 := by
  have h0 : mainS.length ≤ 100000 := by decide +kernel
  have h1 : cbS.length ≤ 100000 := by decide +kernel
  have h2 : edS.length ≤ 100000 := by decide +kernel
  have h3 : ([] : Str).length ≤ 100000 := by decide +kernel
  unfold listS
  split
  · exact h0
  · split
    · exact h1
    · split
      · exact h2
      · exact h3
theorem all8 : ∀ p ∈ mainP ++ cbP ++ edP, p.1.length = 8 := by decide +kernel
theorem page_mem {page : Int} {p : Pat} (h : p ∈ pagePats page) : p ∈ mainP ++ cbP ++ edP := by
  unfold pagePats at h
  split at h
  · simp [h]
  · split at h
    · simp [h]
    · split at h
      · simp [h]
      · cases h
theorem page8 (page : Int) : ∀ p ∈ patsOf (listS page), p.1.length = 8 := fun p h => all8 p (page_mem (by rw [← patsOf_page]; exact h))
end Go.Proofs.YtipgecdfnbldnaaGreatDoor
