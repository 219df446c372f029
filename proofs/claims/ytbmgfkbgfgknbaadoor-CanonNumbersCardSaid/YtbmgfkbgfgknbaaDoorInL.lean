/-
  A look-up in the map of all mnemonics: whether the key is one of them.
-/
import Derived.Test.YtbmgfkbgfgknbaaDoorInM
namespace Go.Proofs.YtbmgfkbgfgknbaaDoor
open Go.RowKit Go.Maps
set_option linter.unusedVariables false

/-- Whether a string is a mnemonic. -/
def knB (s : ByteArray) : Bool := opsL.any fun x => x.toList == s.toList
theorem plainElem_bool_inv {H : Type} {P : Program} {e : TypeId} (he : P.underlying e = some .bool) {v : Value} {z : DataW H × List MemPlace} (h : plainElem P e v = some z) : ∃ x, v = .bool x ∧ z = (.lit (.bool x), []) := by
  unfold plainElem at h
  rw [he] at h
  cases v <;> simp at h
  rename_i x
  exact ⟨x, rfl, h.symm⟩
theorem key_klit (s : ByteArray) : WideAt.IsKeyLit (klit s) := by
  first | trivial | exact ⟨_, rfl⟩ | simp [klit, WideAt.IsKeyLit]
theorem same_klit (a b : ByteArray) : (klit a).sameKey (klit b) = (a.toList == b.toList) := by
  rw [ByteArray.toList_eq, ByteArray.toList_eq]; rfl
theorem at_fold (z : DataW Unit) (s : ByteArray) : ∀ (l : List ByteArray) (m : DataW Unit), IsMap m → ((l.map klit).foldl (fun m x => m.put x yesD) m).atKey (klit s) z = if (l.any fun x => x.toList == s.toList) then yesD else m.atKey (klit s) z
  | [], m, _ => rfl
  | x :: l, m, hm => by
    have ih := at_fold z s l (m.put (klit x) yesD) (hm.put _ _)
    show ((l.map klit).foldl (fun m x => m.put x yesD) (m.put (klit x) yesD)).atKey (klit s) z = _
    rw [ih, List.any_cons]
    by_cases hx : klit s = klit x
    · have h1 : (x.toList == s.toList) = true := by rw [← same_klit, hx]; show (x.data.toList == x.data.toList) = true; exact beq_self_eq_true _
      rw [hx, atKey_put_same hm (key_klit x)]
      simp [h1]
    · have h1 : (x.toList == s.toList) = false := by rw [← same_klit]; exact sameKey_ne fun e => hx e.symm
      rw [atKey_put_other hx]
      simp [h1]
theorem at_setOf (z : DataW Unit) (s : ByteArray) (l : List ByteArray) : (setOf yesD (l.map klit)).atKey (klit s) z = if (l.any fun x => x.toList == s.toList) then yesD else z := at_fold z s l (.map []) isMap_empty
theorem at_mnD (s : ByteArray) : mnD.atKey (klit s) (.lit (.bool false)) = .lit (.bool (knB s)) := by
  unfold mnD
  rw [at_setOf]
  unfold knB
  split <;> simp_all
theorem zero_bool (w : World) : (zeroValue 4).run Tryd.prog w = .ok (.bool false) w := by kernel_rfl
/-- What the call owns: the map of all mnemonics, at block b. -/
def Mn (w : World) (b : Nat) : Prop := w.ownsMap Tryd.prog 9 (plainElem Tryd.prog 4) b 68 mnD
theorem Mn.below {w w' : World} {b : Nat} (h : Mn w b) (k : Below w.heap.size w w') : Mn w' b := World.ownsMap.kept h (row := none) ⟨k.os, k.tape, k.output, k.size, fun i hi _ => k.block i hi⟩ (by simp)
theorem look_mn {w : World} {b : Nat} (h : Mn w b) (s : ByteArray) (hs : s.size ≤ maxLen) : (Instr.lookup 44 (.map (some b)) (.string s) false).run Tryd.prog w = .ok (.bool (knB s)) w := by
  obtain ⟨v, ps, hrun, hv⟩ := World.ownsMap.lookup h lawK Tryd.underlying44 (zero_bool w) (plainElem_bool Tryd.underlying4 false) (WideMaps.keyOf_string_mk Tryd.underlying9 hs)
  obtain ⟨x, rfl, hx⟩ := plainElem_bool_inv Tryd.underlying4 hv
  have e : mnD.atKey (klit s) (.lit (.bool false)) = .lit (.bool x) := (Prod.mk.injEq .. ▸ hx).1
  rw [at_mnD] at e
  have e2 : knB s = x := by simpa using e
  rw [e2]
  exact hrun
theorem mnemonics_any (w : World) : Calls Tryd.prog 16 #[] w fun e w' => ∃ b, e = .returned (.map (some b)) ∧ Mn w' b ∧ Below w.heap.size w w' := (mn_any w).mono fun e w' h => ⟨_, h⟩
end Go.Proofs.YtbmgfkbgfgknbaaDoor
