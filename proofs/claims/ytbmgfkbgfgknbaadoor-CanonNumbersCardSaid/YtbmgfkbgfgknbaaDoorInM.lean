/-
  The walk over instr.mnemonics: the map with all mnemonics as keys.
-/
import Derived.Test.YtbmgfkbgfgknbaaDoorProg
import Derived.WalkKit
import Derived.WalkSpells
import Derived.WalkLawsBesides
import Derived.Lib.Hide
import Derived.Maps.Own
import Derived.Maps.OwnOps
import Derived.Maps.OwnSet
import Derived.Maps.Views
namespace Go.Proofs.YtbmgfkbgfgknbaaDoor
open Go.RowKit Go.Maps
set_option linter.unusedVariables false

/-- The mnemonics, in their order. -/
def opsC : List (List UInt8) := [[65, 68, 67], [65, 68, 68], [65, 78, 68], [66, 73, 84], [67, 65, 76, 76], [67, 67, 70], [67, 80], [67, 80, 68], [67, 80, 68, 82], [67, 80, 73], [67, 80, 73, 82], [67, 80, 76], [68, 65, 65], [68, 69, 67], [68, 73], [68, 74, 78, 90], [69, 73], [69, 88], [69, 88, 88], [72, 65, 76, 84], [73, 77], [73, 78], [73, 78, 67], [73, 78, 68], [73, 78, 68, 82], [73, 78, 73], [73, 78, 73, 82], [74, 80], [74, 82], [76, 68], [76, 68, 68], [76, 68, 68, 82], [76, 68, 73], [76, 68, 73, 82], [78, 69, 71], [78, 79, 80], [79, 82], [79, 84, 68, 82], [79, 84, 73, 82], [79, 85, 84], [79, 85, 84, 68], [79, 85, 84, 73], [80, 79, 80], [80, 85, 83, 72], [82, 69, 83], [82, 69, 84], [82, 69, 84, 73], [82, 69, 84, 78], [82, 76], [82, 76, 65], [82, 76, 67], [82, 76, 67, 65], [82, 76, 68], [82, 82], [82, 82, 65], [82, 82, 67], [82, 82, 67, 65], [82, 82, 68], [82, 83, 84], [83, 66, 67], [83, 67, 70], [83, 69, 84], [83, 76, 65], [83, 76, 76], [83, 82, 65], [83, 82, 76], [83, 85, 66], [88, 79, 82]]
def opsL : List ByteArray := opsC.map fun l => ⟨l.toArray⟩
def opsOf : Option Code → List Oper
  | some (.seq _ (.seq (.region _ ops _) _)) => ops.toList
  | _ => []
def firstOf : Option Code → List Oper
  | some (.seq (.region _ ops _) _) => ops.toList
  | _ => []
def mnPut (p : String) (k : ByteArray) : Oper := ⟨none, .insert 44 (.tmp 1) (.const (.string k)) (.const (.bool true)), 0, p, #[⟨0, .data⟩], none⟩
theorem mn_body : ∃ (p : String) (r o0 o1 o2 : Oper), Tryd.f16.body = some (.seq (.region 0 #[r] false) (.seq (.region 1 (o0 :: (opsL.map (mnPut p) ++ [o1, o2])).toArray false) .ret)) ∧ (r.op = .assign (.const (.map none)) ∧ r.dst = some 0 ∧ r.guard = none) ∧
    (o0.op = .makeMap 44 none ∧ o0.dst = some 1 ∧ o0.guard = none) ∧ (o1.op = .move (.tmp 1) ∧ o1.dst = some 2 ∧ o1.guard = none) ∧ (o2.op = .assign (.tmp 2) ∧ o2.dst = some 0 ∧ o2.guard = none) :=
  ⟨((opsOf Tryd.f16.body).getD 1 default).pos, (firstOf Tryd.f16.body).getD 0 default, (opsOf Tryd.f16.body).getD 0 default, (opsOf Tryd.f16.body).getD 69 default, (opsOf Tryd.f16.body).getD 70 default, by kernel_rfl,
    ⟨by kernel_rfl, by kernel_rfl, by kernel_rfl⟩, ⟨by kernel_rfl, by kernel_rfl, by kernel_rfl⟩, ⟨by kernel_rfl, by kernel_rfl, by kernel_rfl⟩, ⟨by kernel_rfl, by kernel_rfl, by kernel_rfl⟩⟩
theorem lawK : Keyed Tryd.prog 9 := string_keyed Tryd.underlying9
def klit (s : ByteArray) : Lit := .string s.data.toList
abbrev yesD : DataW Unit := .lit (.bool true)
set_option maxRecDepth 10000 in
theorem wpList_inserts {p : String} {ops : Array Oper} {rest : List Oper} {a : Act} {Q : Exit → Act → World → Prop} (b : Nat) (hm : a.eval (.tmp 1) = .map (some b)) :
    ∀ (ks : List ByteArray) (D : DataW Unit) (n : Nat) (w : World), (∀ s ∈ ks, s.size ≤ maxLen) → n + ks.length ≤ 1000 → w.ownsMap Tryd.prog 9 (plainElem Tryd.prog 4) b n D →
      (∀ w', w'.ownsMap Tryd.prog 9 (plainElem Tryd.prog 4) b (n + ks.length) ((ks.map klit).foldl (fun m x => m.put x yesD) D) → w.grownBy w' (some b) → wpList Tryd.prog ops Q rest a w') →
      wpList Tryd.prog ops Q (ks.map (mnPut p) ++ rest) a w
  | [], D, n, w, _, _, hown, hK => hK w hown (World.grownBy.refl _ _)
  | s :: ks, D, n, w, hs, hn, hown, hK => by
    have h1 : s.size ≤ maxLen := hs s (List.mem_cons_self ..)
    simp only [List.length_cons] at hn
    show wpList Tryd.prog ops Q (mnPut p s :: (ks.map (mnPut p) ++ rest)) a w
    obtain ⟨w', hrun, r1, r2⟩ := hown.update lawK Tryd.underlying44 (show n < maxLen by unfold maxLen; omega) (WideMaps.keyOf_string_mk Tryd.underlying9 h1) (plainElem_bool Tryd.underlying4 true)
    have ih := wpList_inserts (p := p) (ops := ops) (rest := rest) (Q := Q) b hm ks _ (n + 1) w' (fun x hx => hs x (List.mem_cons_of_mem _ hx)) (by omega) r1 fun w2 h2 g2 => hK w2 (by rw [show n + 1 + ks.length = n + (s :: ks).length by rw [List.length_cons]; omega] at h2; exact h2) (r2.trans g2)
    obtain ⟨o, ho⟩ : ∃ o, mnPut p s = o := ⟨_, rfl⟩
    have hop : o.op = .insert 44 (.tmp 1) (.const (.string s)) (.const (.bool true)) := by rw [← ho]; rfl
    have hd : o.dst = none := by rw [← ho]; rfl
    have hg : o.guard = none := by rw [← ho]; rfl
    rw [ho]
    have hx : a.eval (.const (.string s)) = .string s := rfl
    have hv : a.eval (.const (.bool true)) = .bool true := rfl
    refine wpList_plain hg fun K' hK' => ?_
    unfold Oper.wp
    simp [execOp, hop, hm, hx, hv, hrun, Result.andThen]
    have e : a.put o.dst undef = a := by rw [hd]; rfl
    unfold Oper.upon
    rw [e]
    exact hK' _ _ ih
theorem ops_len : opsL.length = 68 := by decide +kernel
theorem ops_short : ∀ s ∈ opsL, s.size ≤ 4 := by decide +kernel
def mnD : DataW Unit := setOf yesD (opsL.map klit)
attribute [local irreducible] opsL
set_option maxRecDepth 10000 in
set_option maxHeartbeats 1000000 in
theorem mn_any (w : World) :
    Calls Tryd.prog 16 #[] w fun e w' => e = .returned (.map (some w.heap.size)) ∧ w'.ownsMap Tryd.prog 9 (plainElem Tryd.prog 4) w.heap.size 68 mnD ∧ Below w.heap.size w w' := by
  obtain ⟨p, ⟨d9, p9, t9, q9, f9, g9⟩, ⟨d0, p0, t0, q0, f0, g0⟩, ⟨d1, p1, t1, q1, f1, g1⟩, ⟨d2, p2, t2, q2, f2, g2⟩, hb, ⟨e9, e10, e11⟩, ⟨e0, e1, e2⟩, ⟨e3, e4, e5⟩, ⟨e6, e7, e8⟩⟩ := mn_body
  simp only at e0 e1 e2 e3 e4 e5 e6 e7 e8 e9 e10 e11
  subst e0 e1 e2 e3 e4 e5 e6 e7 e8 e9 e10 e11
  have hmm := @run_makeMap Tryd.prog
  have B0 := Lib.hid ((Below.refl w.heap.size w).alloc (Nat.le_refl _) (.map #[] 0))
  have M0 := Lib.hid (World.ownsMap_made (H := Unit) w Tryd.prog 9 (plainElem Tryd.prog 4))
  refine calls_of_wp Tryd.func16 hb ?_
  clear hb
  simp only [Tryd.ntmps16, List.size_toArray, List.length_cons, List.length_nil, Nat.reduceAdd, Nat.reduceSub, Array.replicate_succ, Array.replicate_zero, List.push_toArray, List.append_toArray, List.nil_append, List.cons_append]
  go_wp2
  refine wpList_inserts w.heap.size rfl opsL (.map []) 0 _ (fun s hs => Nat.le_trans (ops_short s hs) (by unfold maxLen; omega)) (by rw [ops_len]; omega) M0.out ?_
  intro w1 h1 h2
  have M1 : Hid (w1.ownsMap Tryd.prog 9 (plainElem Tryd.prog 4) w.heap.size 68 mnD) := by rw [ops_len] at h1; exact h1
  have B1 := Lib.hid (B0.out.grown h2 (by simp) fun k hk => by cases hk; exact Nat.le_refl _)
  clear h1 h2
  go_wp2
  go_ret
  exact ⟨rfl, M1.out, B1.out⟩
end Go.Proofs.YtbmgfkbgfgknbaaDoor
