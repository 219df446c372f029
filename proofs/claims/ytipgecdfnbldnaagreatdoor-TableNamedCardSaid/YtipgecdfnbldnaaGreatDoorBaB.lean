/-
  InM, InL, Sa, NumF, NumG, NumE, NumH, NumI, NumJ, NumL, OpA, OpB, InR: texts joined to one.
-/
import Derived.Test.YtipgecdfnbldnaaGreatDoorProg
import Derived.WalkKit
import Derived.WalkSpells
import Derived.WalkLawsBesides
import Derived.Lib.Hide
import Derived.Maps.Own
import Derived.Maps.OwnOps
import Derived.Maps.OwnSet
import Derived.Maps.Views
import Derived.Test.YtipgecdfnbldnaaGreatDoorBaA
import Derived.Laws.IdiomStrings
import Derived.Lib.SlBytesRow
import Derived.Deep.OwnRows
import Derived.Laws.EntriesVeiled
import Derived.Deep.QuietTactic
import Derived.BigQuiet
set_option linter.all false
set_option maxRecDepth 100000
set_option maxHeartbeats 4000000
/-
  The walk over instr.mnemonics: the map with all mnemonics as keys.
-/
namespace Go.Proofs.YtipgecdfnbldnaaGreatDoor
open Go.RowKit Go.Maps
def opsC : List (List UInt8) := [[65, 68, 67], [65, 68, 68], [65, 78, 68], [66, 73, 84], [67, 65, 76, 76], [67, 67, 70], [67, 80], [67, 80, 68], [67, 80, 68, 82], [67, 80, 73], [67, 80, 73, 82], [67, 80, 76], [68, 65, 65], [68, 69, 67], [68, 73], [68, 74, 78, 90], [69, 73], [69, 88], [69, 88, 88], [72, 65, 76, 84], [73, 77], [73, 78], [73, 78, 67], [73, 78, 68], [73, 78, 68, 82], [73, 78, 73], [73, 78, 73, 82], [74, 80], [74, 82], [76, 68], [76, 68, 68], [76, 68, 68, 82], [76, 68, 73], [76, 68, 73, 82], [78, 69, 71], [78, 79, 80], [79, 82], [79, 84, 68, 82], [79, 84, 73, 82], [79, 85, 84], [79, 85, 84, 68], [79, 85, 84, 73], [80, 79, 80], [80, 85, 83, 72], [82, 69, 83], [82, 69, 84], [82, 69, 84, 73], [82, 69, 84, 78], [82, 76], [82, 76, 65], [82, 76, 67], [82, 76, 67, 65], [82, 76, 68], [82, 82], [82, 82, 65], [82, 82, 67], [82, 82, 67, 65], [82, 82, 68], [82, 83, 84], [83, 66, 67], [83, 67, 70], [83, 69, 84], [83, 76, 65], [83, 76, 76], [83, 82, 65], [83, 82, 76], [83, 85, 66], [88, 79, 82]]
def opsL : List ByteArray := opsC.map fun l => ⟨l.toArray⟩
def opsOf : Option Code → List Oper
  | some (.seq _ (.seq (.region _ ops _) _)) => ops.toList
  | _ => []
def firstOf : Option Code → List Oper
  | some (.seq (.region _ ops _) _) => ops.toList
  | _ => []
def mnPut (p : String) (k : ByteArray) : Oper := ⟨none, .insert 80 (.tmp 1) (.const (.string k)) (.const (.bool true)), 0, p, #[⟨0, .data⟩], none⟩
theorem mn_body : ∃ (p : String) (r o0 o1 o2 : Oper), Tryz.f44.body = some (.seq (.region 0 #[r] false) (.seq (.region 1 (o0 :: (opsL.map (mnPut p) ++ [o1, o2])).toArray false) .ret)) ∧ (r.op = .assign (.const (.map none)) ∧ r.dst = some 0 ∧ r.guard = none) ∧
    (o0.op = .makeMap 80 none ∧ o0.dst = some 1 ∧ o0.guard = none) ∧ (o1.op = .move (.tmp 1) ∧ o1.dst = some 2 ∧ o1.guard = none) ∧ (o2.op = .assign (.tmp 2) ∧ o2.dst = some 0 ∧ o2.guard = none) :=
  ⟨((opsOf Tryz.f44.body).getD 1 default).pos, (firstOf Tryz.f44.body).getD 0 default, (opsOf Tryz.f44.body).getD 0 default, (opsOf Tryz.f44.body).getD 69 default, (opsOf Tryz.f44.body).getD 70 default, by kernel_rfl,
    ⟨by kernel_rfl, by kernel_rfl, by kernel_rfl⟩, ⟨by kernel_rfl, by kernel_rfl, by kernel_rfl⟩, ⟨by kernel_rfl, by kernel_rfl, by kernel_rfl⟩, ⟨by kernel_rfl, by kernel_rfl, by kernel_rfl⟩⟩
theorem lawK : Keyed Tryz.prog 9 := string_keyed Tryz.underlying9
def klit (s : ByteArray) : Lit := .string s.data.toList
abbrev yesD : DataW Unit := .lit (.bool true)
theorem wpList_inserts {p : String} {ops : Array Oper} {rest : List Oper} {a : Act} {Q : Exit → Act → World → Prop} (b : Nat) (hm : a.eval (.tmp 1) = .map (some b)) :
    ∀ (ks : List ByteArray) (D : DataW Unit) (n : Nat) (w : World), (∀ s ∈ ks, s.size ≤ maxLen) → n + ks.length ≤ 1000 → w.ownsMap Tryz.prog 9 (plainElem Tryz.prog 4) b n D →
      (∀ w', w'.ownsMap Tryz.prog 9 (plainElem Tryz.prog 4) b (n + ks.length) ((ks.map klit).foldl (fun m x => m.put x yesD) D) → w.grownBy w' (some b) → wpList Tryz.prog ops Q rest a w') →
      wpList Tryz.prog ops Q (ks.map (mnPut p) ++ rest) a w
  | [], D, n, w, _, _, hown, hK => hK w hown (World.grownBy.refl _ _)
  | s :: ks, D, n, w, hs, hn, hown, hK => by
    have h1 : s.size ≤ maxLen := hs s (List.mem_cons_self ..)
    simp only [List.length_cons] at hn
    show wpList Tryz.prog ops Q (mnPut p s :: (ks.map (mnPut p) ++ rest)) a w
    obtain ⟨w', hrun, r1, r2⟩ := hown.update lawK Tryz.underlying80 (show n < maxLen by unfold maxLen; omega) (WideMaps.keyOf_string_mk Tryz.underlying9 h1) (plainElem_bool Tryz.underlying4 true)
    have ih := wpList_inserts (p := p) (ops := ops) (rest := rest) (Q := Q) b hm ks _ (n + 1) w' (fun x hx => hs x (List.mem_cons_of_mem _ hx)) (by omega) r1 fun w2 h2 g2 => hK w2 (by rw [show n + 1 + ks.length = n + (s :: ks).length by rw [List.length_cons]; omega] at h2; exact h2) (r2.trans g2)
    obtain ⟨o, ho⟩ : ∃ o, mnPut p s = o := ⟨_, rfl⟩
    have hop : o.op = .insert 80 (.tmp 1) (.const (.string s)) (.const (.bool true)) := by rw [← ho]; rfl
    have hd : o.dst = none := by rw [← ho]; rfl
    have hg : o.guard = none := by rw [← ho]; rfl
    rw [ho]
    have hx : a.eval (.const (.string s)) = .string s := rfl
    have hv : a.eval (.const (.bool true)) = .bool true := rfl
    refine wpList_plain hg fun K' hK' => ?_
    unfold Oper.wp
    simp [execOp, hop, hm, hx, hv, hrun, Result.andThen]
    have e : a.put o.dst undef = a := by rw [hd]; rfl
    unfold Oper.upon
    rw [e]
    exact hK' _ _ ih
theorem ops_len : opsL.length = 68 := by decide +kernel
theorem ops_short : ∀ s ∈ opsL, s.size ≤ 4 := by decide +kernel
def mnD : DataW Unit := setOf yesD (opsL.map klit)
attribute [local irreducible] opsL
theorem mn_any (w : World) :
    Calls Tryz.prog 44 #[] w fun e w' => e = .returned (.map (some w.heap.size)) ∧ w'.ownsMap Tryz.prog 9 (plainElem Tryz.prog 4) w.heap.size 68 mnD ∧ Below w.heap.size w w' := by
  obtain ⟨p, ⟨d9, p9, t9, q9, f9, g9⟩, ⟨d0, p0, t0, q0, f0, g0⟩, ⟨d1, p1, t1, q1, f1, g1⟩, ⟨d2, p2, t2, q2, f2, g2⟩, hb, ⟨e9, e10, e11⟩, ⟨e0, e1, e2⟩, ⟨e3, e4, e5⟩, ⟨e6, e7, e8⟩⟩ := mn_body
  simp only at e0 e1 e2 e3 e4 e5 e6 e7 e8 e9 e10 e11
  subst e0 e1 e2 e3 e4 e5 e6 e7 e8 e9 e10 e11
  have hmm := @run_makeMap Tryz.prog
  have B0 := Lib.hid ((Below.refl w.heap.size w).alloc (Nat.le_refl _) (.map #[] 0))
  have M0 := Lib.hid (World.ownsMap_made (H := Unit) w Tryz.prog 9 (plainElem Tryz.prog 4))
  refine calls_of_wp Tryz.func44 hb ?_
  clear hb
  simp only [Tryz.ntmps44, List.size_toArray, List.length_cons, List.length_nil, Nat.reduceAdd, Nat.reduceSub, Array.replicate_succ, Array.replicate_zero, List.push_toArray, List.append_toArray, List.nil_append, List.cons_append]
  go_wp2
  refine wpList_inserts w.heap.size rfl opsL (.map []) 0 _ (fun s hs => Nat.le_trans (ops_short s hs) (by unfold maxLen; omega)) (by rw [ops_len]; omega) M0.out ?_
  intro w1 h1 h2
  have M1 : Hid (w1.ownsMap Tryz.prog 9 (plainElem Tryz.prog 4) w.heap.size 68 mnD) := by rw [ops_len] at h1; exact h1
  have B1 := Lib.hid (B0.out.grown h2 (by simp) fun k hk => by cases hk; exact Nat.le_refl _)
  clear h1 h2
  go_wp2
  go_ret
  exact ⟨rfl, M1.out, B1.out⟩
end Go.Proofs.YtipgecdfnbldnaaGreatDoor
/-
  A look-up in the map of all mnemonics: whether the key is one of them.
-/
namespace Go.Proofs.YtipgecdfnbldnaaGreatDoor
open Go.RowKit Go.Maps
def knB (s : ByteArray) : Bool := opsL.any fun x => x.toList == s.toList
theorem plainElem_bool_inv {H : Type} {P : Program} {e : TypeId} (he : P.underlying e = some .bool) {v : Value} {z : DataW H × List MemPlace} (h : plainElem P e v = some z) : ∃ x, v = .bool x ∧ z = (.lit (.bool x), []) := by
  unfold plainElem at h
  rw [he] at h
  cases v <;> simp at h
  rename_i x
  exact ⟨x, rfl, h.symm⟩
theorem key_klit (s : ByteArray) : WideAt.IsKeyLit (klit s) := by
  first | trivial | exact ⟨_, rfl⟩ | simp [klit, WideAt.IsKeyLit]
theorem same_klit (a b : ByteArray) : (klit a).sameKey (klit b) = (a.toList == b.toList) := by
  rw [ByteArray.toList_eq, ByteArray.toList_eq]; rfl
theorem at_fold (z : DataW Unit) (s : ByteArray) : ∀ (l : List ByteArray) (m : DataW Unit), IsMap m → ((l.map klit).foldl (fun m x => m.put x yesD) m).atKey (klit s) z = if (l.any fun x => x.toList == s.toList) then yesD else m.atKey (klit s) z
  | [], m, _ => rfl
  | x :: l, m, hm => by
    have ih := at_fold z s l (m.put (klit x) yesD) (hm.put _ _)
    show ((l.map klit).foldl (fun m x => m.put x yesD) (m.put (klit x) yesD)).atKey (klit s) z = _
    rw [ih, List.any_cons]
    by_cases hx : klit s = klit x
    · have h1 : (x.toList == s.toList) = true := by rw [← same_klit, hx]; show (x.data.toList == x.data.toList) = true; exact beq_self_eq_true _
      rw [hx, atKey_put_same hm (key_klit x)]
      simp [h1]
    · have h1 : (x.toList == s.toList) = false := by rw [← same_klit]; exact sameKey_ne fun e => hx e.symm
      rw [atKey_put_other hx]
      simp [h1]
theorem at_setOf (z : DataW Unit) (s : ByteArray) (l : List ByteArray) : (setOf yesD (l.map klit)).atKey (klit s) z = if (l.any fun x => x.toList == s.toList) then yesD else z := at_fold z s l (.map []) isMap_empty
theorem at_mnD (s : ByteArray) : mnD.atKey (klit s) (.lit (.bool false)) = .lit (.bool (knB s)) := by
  unfold mnD
  rw [at_setOf]
  unfold knB
  split <;> simp_all
theorem zero_bool (w : World) : (zeroValue 4).run Tryz.prog w = .ok (.bool false) w := by kernel_rfl
def Mn (w : World) (b : Nat) : Prop := w.ownsMap Tryz.prog 9 (plainElem Tryz.prog 4) b 68 mnD
theorem Mn.below {w w' : World} {b : Nat} (h : Mn w b) (k : Below w.heap.size w w') : Mn w' b := World.ownsMap.kept h (row := none) ⟨k.os, k.tape, k.output, k.size, fun i hi _ => k.block i hi⟩ (by simp)
theorem look_mn {w : World} {b : Nat} (h : Mn w b) (s : ByteArray) (hs : s.size ≤ maxLen) : (Instr.lookup 80 (.map (some b)) (.string s) false).run Tryz.prog w = .ok (.bool (knB s)) w := by
  obtain ⟨v, ps, hrun, hv⟩ := World.ownsMap.lookup h lawK Tryz.underlying80 (zero_bool w) (plainElem_bool Tryz.underlying4 false) (WideMaps.keyOf_string_mk Tryz.underlying9 hs)
  obtain ⟨x, rfl, hx⟩ := plainElem_bool_inv Tryz.underlying4 hv
  have e : mnD.atKey (klit s) (.lit (.bool false)) = .lit (.bool x) := (Prod.mk.injEq .. ▸ hx).1
  rw [at_mnD] at e
  have e2 : knB s = x := by simpa using e
  rw [e2]
  exact hrun
theorem mnemonics_any (w : World) : Calls Tryz.prog 44 #[] w fun e w' => ∃ b, e = .returned (.map (some b)) ∧ Mn w' b ∧ Below w.heap.size w w' := (mn_any w).mono fun e w' h => ⟨_, h⟩
end Go.Proofs.YtipgecdfnbldnaaGreatDoor
/-
  Slices of strings in memory.
-/
namespace Go.Proofs.YtipgecdfnbldnaaGreatDoor
open Go.RowKit
theorem strs_new (w : World) (L : List ByteArray) (t : TypeId) : ∀ j (h : j < L.length), (w.alloc (.cells (L.map Value.string).toArray t)).cell? ⟨w.heap.size, j, none⟩ = some (.string L[j]) := by
  intro j h
  simp [go_sem, h]
def StrsA (w : World) (A : Option Addr) (L : List ByteArray) : Prop := L = [] ∨ ∃ b off, A = some ⟨b, off, none⟩ ∧ ∀ j (h : j < L.length), w.cell? ⟨b, off + j, none⟩ = some (.string L[j])
theorem StrsA.at_ {w : World} {A : Option Addr} {L : List ByteArray} (h : StrsA w A L) {k : Nat} (hk : k < L.length) : ∃ b off, A = some ⟨b, off, none⟩ ∧ w.cell? ⟨b, off + k, none⟩ = some (.string L[k]) := by
  rcases h with rfl | ⟨b, off, rfl, hc⟩
  · simp at hk
  · exact ⟨b, off, rfl, hc k hk⟩
theorem StrsA.below {w w' : World} {A : Option Addr} {L : List ByteArray} (h : StrsA w A L) (hb : Below w.heap.size w w') : StrsA w' A L := by
  rcases h with rfl | ⟨b, off, rfl, hc⟩
  · exact .inl rfl
  · exact .inr ⟨b, off, rfl, fun j hj => (hb.cell (World.block_lt_of_cell? w _ (hc j hj))).trans (hc j hj)⟩
end Go.Proofs.YtipgecdfnbldnaaGreatDoor
/-
  Walks over num.Fits and num.Hex.
-/
namespace Go.Proofs.YtipgecdfnbldnaaGreatDoor
open Go.RowKit
def IntsAt (w : World) (A : Option Addr) (zs : List Int) : Prop :=
  zs = [] ∨ ∃ b off, A = some ⟨b, off, none⟩ ∧ ∀ j (h : j < zs.length), w.cell? ⟨b, off + j, none⟩ = some (.int .i64 zs[j])
theorem IntsAt.at_ {w : World} {A : Option Addr} {zs : List Int} (h : IntsAt w A zs) {k : Nat} (hk : k < zs.length) : ∃ b off, A = some ⟨b, off, none⟩ ∧ w.cell? ⟨b, off + k, none⟩ = some (.int .i64 zs[k]) := by
  rcases h with rfl | ⟨b, off, rfl, hc⟩
  · simp at hk
  · exact ⟨b, off, rfl, hc k hk⟩
def fitsB (lo hi : Int) (zs : List Int) : Bool := zs.all fun n => decide (lo ≤ n) && decide (n ≤ hi)
theorem fits_bad (lo hi : Int) (zs : List Int) (k : Nat) (h : k < zs.length) (hb : zs[k] < lo ∨ hi < zs[k]) : fitsB lo hi zs = false := by
  unfold fitsB
  rw [List.all_eq_false]
  refine ⟨zs[k], List.getElem_mem h, ?_⟩
  simp
  omega
theorem fits_all (lo hi : Int) (zs : List Int) (h : ∀ j (h : j < zs.length), lo ≤ zs[j] ∧ zs[j] ≤ hi) : fitsB lo hi zs = true := by
  unfold fitsB
  rw [List.all_eq_true]
  intro x hx
  obtain ⟨j, hj, rfl⟩ := List.getElem_of_mem hx
  have := h j hj
  simp
  omega
theorem fits_any (lo hi : Int) (A : Option Addr) (cap : Nat) (zs : List Int) (hl : zs.length ≤ maxLen) (w : World) (hz : IntsAt w A zs) :
    Calls Tryz.prog 95 #[.int .i64 lo, .int .i64 hi, .slice A zs.length cap] w fun e w' => e = .returned (.bool (fitsB lo hi zs)) ∧ w = w' := by
  unfold maxLen at hl
  have Z := Lib.hid hz
  clear hz
  go_enter Tryz.func95, Tryz.ntmps95
  go_wp2
  go_loop [11] (fun i => ∃ k : Nat, k ≤ zs.length ∧ i = .int .i64 k ∧ Hid (∀ j (h : j < zs.length), j < k → lo ≤ zs[j] ∧ zs[j] ≤ hi)) (fun i => zs.length - (intOf i).toNat)
  case atStart => exact ⟨0, Nat.zero_le _, rfl, fun j h h' => by omega⟩
  case round =>
    obtain ⟨k, hk, rfl, R⟩ := hrel
    by_cases hlt : k < zs.length
    · obtain ⟨b, off, hA, hc⟩ := Z.out.at_ hlt
      subst hA
      by_cases h1 : zs[k] < lo
      · have F := Lib.hid (fits_bad lo hi zs k hlt (.inl h1))
        go_wp2
        go_ret
        exact ⟨ret_bool F.out.symm, rfl⟩
      · by_cases h2 : hi < zs[k]
        · have F := Lib.hid (fits_bad lo hi zs k hlt (.inr h2))
          go_wp2
          go_ret
          exact ⟨ret_bool F.out.symm, rfl⟩
        · have N : Hid (∀ j (h : j < zs.length), j < k + 1 → lo ≤ zs[j] ∧ zs[j] ≤ hi) := fun j h h' => by
            by_cases e : j = k
            · subst e; omega
            · exact R.out j h (by omega)
          go_wp2
          go_round
          case rel => exact ⟨k + 1, by omega, by go_num, N⟩
          case measure => simp [intOf]; omega
    · have F := Lib.hid (fits_all lo hi zs fun j h => R.out j h (by omega))
      go_wp2
      go_ret
      exact ⟨ret_bool F.out.symm, rfl⟩
theorem ints_one (w : World) (x : Int) (t : TypeId) : IntsAt (w.alloc (.cells #[.int .i64 x] t)) (some ⟨w.heap.size, 0, none⟩) [x] := by
  refine .inr ⟨_, _, rfl, fun j h => ?_⟩
  obtain rfl : j = 0 := by simp at h; omega
  simp [go_sem]
theorem info_u8 : (Tryz.prog.info? 5).map (fun i => (i.zero, i.size, i.bytes)) = some (some (.int .u8 0), 1, 1) := by kernel_rfl
def hexU (x : Int) : UInt8 := (if x < 10 then 48 + x else 55 + x).toNat.toUInt8
def hexTab : ByteArray := ⟨#[48, 49, 50, 51, 52, 53, 54, 55, 56, 57, 65, 66, 67, 68, 69, 70]⟩
theorem hexTab_at (x : Int) (h0 : 0 ≤ x) (h1 : x < 16) (h : x.toNat < hexTab.size) : hexTab[x.toNat] = hexU x := by
  have t : ∀ i : Fin 16, ∀ h : i.val < hexTab.size, hexTab[i.val] = hexU (i.val : Int) := by decide +kernel
  have := t ⟨x.toNat, by omega⟩ h
  simpa [Int.toNat_of_nonneg h0] using this
theorem and15 (x : Int) : bits .and .i64 x 15 = x % 16 := by
  show IntKind.i64.wrap ((BitVec.ofInt 64 x &&& BitVec.ofInt 64 15).toNat : Int) = _
  rw [BitVec.toNat_and, show (BitVec.ofInt 64 15).toNat = 2 ^ 4 - 1 from rfl, Nat.and_two_pow_sub_one_eq_mod, BitVec.toNat_ofInt, IntKind.wrap_i64]
  omega
def digI (n : Int) (i : Nat) : Int := (n / 2 ^ (4 * i)) % 16
theorem digI_bd (n : Int) (i : Nat) : 0 ≤ digI n i ∧ digI n i < 16 := by unfold digI; omega
def hexS (n : Int) (d : Nat) : ByteArray := ⟨((List.range d).map fun j => hexU (digI n (d - 1 - j))).toArray⟩
theorem hexS_size (n : Int) (d : Nat) : (hexS n d).size = d := by show (((List.range d).map fun j => hexU (digI n (d - 1 - j))).toArray).size = d; simp
theorem hexS_at (n : Int) (d j : Nat) (h : j < (hexS n d).size) : (hexS n d)[j] = hexU (digI n (d - 1 - j)) := by
  have h1 : (hexS n d).data[j]'h = hexU (digI n (d - 1 - j)) := by simp [hexS]
  exact h1
def HexRel (w : World) (n : Int) (d k : Nat) (wr : World) : Prop :=
  (∀ j, j < d → wr.cell? ⟨w.heap.size + 1, j, none⟩ = some (.int .u8 (if d - 1 - j < k then ((hexU (digI n (d - 1 - j))).toNat : Int) else 0))) ∧ (∀ j, j < d → wr.frozen? ⟨w.heap.size + 1, j, none⟩ = false) ∧ Below w.heap.size w wr
theorem hexRel_start (w : World) (n : Int) (d : Nat) (O : Obj) (e : TypeId) : HexRel w n d 0 ((w.alloc O).alloc (.cells (madeCells #[.int .u8 0] d) e)) := by
  refine ⟨fun j h => ?_, fun j h => ?_, ((Below.refl _ _).alloc (Nat.le_refl _) _).alloc (by simp) _⟩
  · rw [if_neg (by omega)]
    simp [go_sem, madeCells, h, Nat.mod_one]
  · simp [go_sem]
theorem hexRel_next (w wr : World) (n : Int) (d k : Nat) (hk : k < d) (hr : HexRel w n d k wr) :
    HexRel w n d (k + 1) (wr.setCell ⟨w.heap.size + 1, d - 1 - k, none⟩ (.int .u8 ((hexU (digI n k)).toNat : Int))) := by
  obtain ⟨r1, r2, r3⟩ := hr
  refine ⟨fun j hj => ?_, fun j hj => ?_, r3.setCell (by simp) _⟩
  · by_cases e : j = d - 1 - k
    · subst e
      have := r1 _ hj
      have e2 : d - 1 - (d - 1 - k) = k := by omega
      rw [if_pos (by omega), e2]
      simp [go_sem, this]
    · rw [World.cell?_setCell_other _ _ _ _ (by simp), r1 j hj]
      by_cases h1 : d - 1 - j < k
      · rw [if_pos h1, if_pos (by omega)]
      · rw [if_neg h1, if_neg (by omega)]
  · simp [go_sem, r2 j hj]
theorem hexRel_end (w wr : World) (n : Int) (d cap : Nat) (hr : HexRel w n d d wr) :
    (convert 42 9 (.slice (some ⟨w.heap.size + 1, 0, none⟩) d cap)).run Tryz.prog wr = .ok (.string (hexS n d)) wr := by
  have h := Lib.run_convert_whole (P := Tryz.prog) wr 42 5 9 Tryz.underlying42 Tryz.underlying5 Tryz.underlying9 (w.heap.size + 1) 0 (hexS n d) (fun i hi => by
    have hi' : i < d := by rw [hexS_size] at hi; exact hi
    rw [Nat.zero_add, hr.1 i hi', if_pos (by omega), hexS_at n d i hi]) cap
  rw [hexS_size] at h
  exact h
theorem hex_any (n : Int) (d : Nat) (hd : d ≤ 8) (w : World) :
    Calls Tryz.prog 144 #[.int .i64 n, .int .i64 d] w fun e w' => e = .returned (.string (hexS n d)) ∧ Below w.heap.size w w' := by
  have hF : fitsB 0 8 [(d : Int)] = true := by simp [fitsB]; omega
  have hmk := fun w => run_make_row' (P := Tryz.prog) 42 5 (.int .u8 0) 1 Tryz.underlying42 info_u8 rfl .i64 .i64 d (by omega) (by omega) w
  have S := fun O => Lib.hid (hexRel_start w n d O 5)
  go_enter Tryz.func144, Tryz.ntmps144
  go_wp2_with (go_at_call 95; refine (fits_any 0 8 _ _ [(d : Int)] (by simp [maxLen]) _ (ints_one _ _ _)).mono ?_; rintro e w' ⟨rfl, rfl⟩)
  clear hmk
  go_loopw [14] (fun i wr => ∃ k : Nat, k ≤ d ∧ i = .int .i64 k ∧ HexRel w n d k wr) (fun i _ => d - (intOf i).toNat)
  case atStart => exact ⟨0, Nat.zero_le _, rfl, (S _).out⟩
  case round =>
    obtain ⟨k, hk, rfl, hr⟩ := hrel
    have R := Lib.hid hr
    clear hr
    by_cases hlt : k < d
    · have hbit := and15 (n / 2 ^ (4 * k))
      obtain ⟨x0, x1⟩ := digI_bd n k
      have hd0 : digI n k = n / 2 ^ (4 * k) % 16 := rfl
      rw [← hd0] at hbit
      clear hd0
      obtain ⟨x, hx⟩ : ∃ x, digI n k = x := ⟨_, rfl⟩
      rw [hx] at hbit x0 x1
      have X := Lib.hid hx
      clear hx
      have g1 := R.out.1 (d - 1 - k) (by omega)
      have g2 := R.out.2.1 (d - 1 - k) (by omega)
      have N := Lib.hid (hexRel_next w wr n d k hlt R.out)
      go_wp2
      go_roundw
      case rel => exact ⟨k + 1, by omega, by go_num, by have h := N.out; rw [X.out, ← hexTab_at x x0 x1 (by show x.toNat < 16; omega)] at h; exact h⟩
      case measure => simp [intOf]; omega
    · obtain rfl : k = d := by omega
      have hback := hexRel_end w wr n k k R.out
      go_wp2
      go_ret
      exact ⟨rfl, R.out.2.2⟩
end Go.Proofs.YtipgecdfnbldnaaGreatDoor
/-
  Walks over strings.TrimLeft (at the cutset "0") and num.Text.
-/
namespace Go.Proofs.YtipgecdfnbldnaaGreatDoor
open Go.RowKit
theorem extract_le (s : ByteArray) (a b : Nat) : (s.extract a b).size ≤ s.size := by simp; omega
theorem bytes_ext {a b : ByteArray} (h : a.data.toList = b.data.toList) : a = b := by
  apply ByteArray.ext
  exact Array.toList_inj.1 h
def strLen : Value → Nat
  | .string s => s.size
  | _ => 0
def trimL (c : UInt8) (s : ByteArray) : ByteArray := ⟨(s.data.toList.dropWhile (· == c)).toArray⟩
theorem list_cons (t : ByteArray) (h : 0 < t.size) : t.data.toList = t[0] :: (t.extract 1 t.size).data.toList := by
  rw [Lib.extract_data]
  have hl : 0 < t.data.toList.length := by simpa using h
  have h1 := List.drop_eq_getElem_cons hl
  rw [List.drop_zero] at h1
  rw [List.take_of_length_le (by simp), ← show t.data.toList[0] = t[0] from rfl]
  exact h1
theorem trimL_same (c : UInt8) (t : ByteArray) (h : 0 < t.size) (e : t[0] = c) : trimL c (t.extract 1 t.size) = trimL c t := by
  apply bytes_ext
  unfold trimL
  simp only [list_cons t h, List.dropWhile_cons, e, beq_self_eq_true, if_true]
theorem trimL_stop (c : UInt8) (t : ByteArray) (h : 0 < t.size) (e : ¬ t[0] = c) : trimL c t = t := by
  apply bytes_ext
  unfold trimL
  show List.dropWhile (· == c) t.data.toList = _
  rw [list_cons t h, List.dropWhile_cons]
  simp [e]
theorem trimL_nil (c : UInt8) (t : ByteArray) (h : ¬ 0 < t.size) : trimL c t = t := by
  apply bytes_ext
  have h3 : t.data.toList.length = t.size := by simp
  have h1 : t.data.toList = [] := List.eq_nil_of_length_eq_zero (by omega)
  unfold trimL
  simp [h1]
theorem trimLeftByte_any (s : ByteArray) (c : UInt8) (hs : s.size ≤ maxLen) (w : World) :
    Calls Tryz.prog 148 #[.string s, .int .u8 (c.toNat : Int)] w fun e w' => e = .returned (.string (trimL c s)) ∧ w = w' := by
  unfold maxLen at hs
  go_enter Tryz.func148, Tryz.ntmps148
  go_wp2
  go_loop [0] (fun v => ∃ t : ByteArray, v = .string t ∧ t.size ≤ 2 ^ 63 - 1 ∧ Hid (trimL c t = trimL c s)) (fun v => strLen v)
  case atStart => exact ⟨s, rfl, hs, rfl⟩
  case round =>
    obtain ⟨t, rfl, ht, T⟩ := hrel
    by_cases h : 0 < t.size
    · have hne : ((t.size : Int) == 0) = false := by rw [beq_eq_false_iff_ne]; omega
      by_cases e : t[0] = c
      · have e1 : ((t[0].toNat : Int) == (c.toNat : Int)) = true := by rw [e]; simp
        have N : Hid (trimL c (t.extract 1 t.size) = trimL c s) := (trimL_same c t h e).trans T.out
        clear e
        go_wp2
        go_round
        case rel => exact ⟨_, rfl, Nat.le_trans (extract_le t 1 t.size) ht, N⟩
        case measure => simp [strLen]; omega
      · have e1 : ((t[0].toNat : Int) == (c.toNat : Int)) = false := by
          rw [beq_eq_false_iff_ne]
          intro h2
          exact e (UInt8.toNat_inj.1 (by omega))
        have N : Hid (t = trimL c s) := (trimL_stop c t h e).symm.trans T.out
        clear e
        go_wp2
        go_ret
        exact ⟨ret_str N.out, rfl⟩
    · have N : Hid (t = trimL c s) := (trimL_nil c t h).symm.trans T.out
      go_wp2
      go_ret
      exact ⟨ret_str N.out, rfl⟩
theorem trimLeft0_any (s : ByteArray) (hs : s.size ≤ maxLen) (w : World) :
    Calls Tryz.prog 143 #[.string s, .string ⟨#[48]⟩] w fun e w' => e = .returned (.string (trimL 48 s)) ∧ w = w' := by
  have hs0 := hs
  unfold maxLen at hs
  by_cases h : s.toList.isEmpty = true
  · have h1 : ¬ 0 < s.size := by
      rw [ByteArray.toList_eq] at h
      have h2 : s.data.toList = [] := by simpa using h
      have h3 : s.data.toList.length = s.size := by simp
      rw [h2] at h3
      simp at h3
      omega
    have N := Lib.hid (trimL_nil 48 s h1).symm
    go_enter Tryz.func143, Tryz.ntmps143
    go_wp2
    go_ret
    exact ⟨ret_str N.out, rfl⟩
  · have h' : s.toList.isEmpty = false := by simpa using h
    clear h
    go_enter Tryz.func143, Tryz.ntmps143
    go_wp2_with (go_at_call 148; refine (trimLeftByte_any _ 48 hs0 _).mono ?_; rintro e w' ⟨rfl, rfl⟩)
    go_ret
    exact ⟨rfl, rfl⟩
end Go.Proofs.YtipgecdfnbldnaaGreatDoor
/-
  The walk over num.Parse: for every word the number of the first form that it has, or 0 and false; nothing that was there is changed.
-/
namespace Go.Proofs.YtipgecdfnbldnaaGreatDoor
open Go.RowKit
end Go.Proofs.YtipgecdfnbldnaaGreatDoor
/-
  The walk over num.Text.
-/
namespace Go.Proofs.YtipgecdfnbldnaaGreatDoor
open Go.RowKit
def digS (n : Int) : ByteArray := trimL 48 (hexS n 4)
theorem hexU_48 : ∀ x : Fin 16, (hexU (x.val : Int) = 48 ↔ x.val = 0) := by decide +kernel
theorem hexU_zero (x : Int) (h0 : 0 ≤ x) (h1 : x < 16) : hexU x = 48 ↔ x = 0 := by
  have h := hexU_48 ⟨x.toNat, by omega⟩
  have e : ((x.toNat : Nat) : Int) = x := by omega
  simp only [e] at h
  rw [h]
  omega
theorem hexS4 (n : Int) : (hexS n 4).data.toList = [hexU (digI n 3), hexU (digI n 2), hexU (digI n 1), hexU (digI n 0)] := by
  unfold hexS; simp [List.range_succ]
theorem digS_cases (n : Int) (h0 : 10 ≤ n) (h1 : n ≤ 65535) :
    (4096 ≤ n ∧ (digS n).data.toList = [hexU (digI n 3), hexU (digI n 2), hexU (digI n 1), hexU (digI n 0)] ∧ 1 ≤ digI n 3) ∨
    (n < 4096 ∧ 256 ≤ n ∧ (digS n).data.toList = [hexU (digI n 2), hexU (digI n 1), hexU (digI n 0)] ∧ 1 ≤ digI n 2) ∨
    (n < 256 ∧ 16 ≤ n ∧ (digS n).data.toList = [hexU (digI n 1), hexU (digI n 0)] ∧ 1 ≤ digI n 1) ∨
    (n < 16 ∧ (digS n).data.toList = [hexU (digI n 0)] ∧ 1 ≤ digI n 0) := by
  have z3 := hexU_zero (digI n 3) (digI_bd n 3).1 (digI_bd n 3).2
  have z2 := hexU_zero (digI n 2) (digI_bd n 2).1 (digI_bd n 2).2
  have z1 := hexU_zero (digI n 1) (digI_bd n 1).1 (digI_bd n 1).2
  have z0 := hexU_zero (digI n 0) (digI_bd n 0).1 (digI_bd n 0).2
  have d3 : digI n 3 = n / 4096 % 16 := by unfold digI; simp
  have d2 : digI n 2 = n / 256 % 16 := by unfold digI; simp
  have d1 : digI n 1 = n / 16 % 16 := by unfold digI; simp
  have d0 : digI n 0 = n % 16 := by unfold digI; simp
  have hl : (digS n).data.toList = List.dropWhile (· == 48) [hexU (digI n 3), hexU (digI n 2), hexU (digI n 1), hexU (digI n 0)] := by
    unfold digS trimL; rw [hexS4]
  rw [hl]
  simp only [List.dropWhile_cons, beq_iff_eq, z3, z2, z1, z0]
  by_cases c3 : 4096 ≤ n
  · left
    rw [if_neg (by omega)]
    exact ⟨c3, rfl, by omega⟩
  · right
    rw [if_pos (by omega)]
    by_cases c2 : 256 ≤ n
    · left
      rw [if_neg (by omega)]
      exact ⟨by omega, c2, rfl, by omega⟩
    · right
      rw [if_pos (by omega)]
      by_cases c1 : 16 ≤ n
      · left
        rw [if_neg (by omega)]
        exact ⟨by omega, c1, rfl, by omega⟩
      · right
        rw [if_pos (by omega), if_neg (by omega)]
        exact ⟨by omega, rfl, by omega⟩
theorem digS_pos (n : Int) (h0 : 10 ≤ n) (h1 : n ≤ 65535) : 0 < (digS n).size := by
  have hl : (digS n).data.toList.length = (digS n).size := by simp
  rcases digS_cases n h0 h1 with ⟨_, h, _⟩ | ⟨_, _, h, _⟩ | ⟨_, _, h, _⟩ | ⟨_, h, _⟩ <;> rw [h] at hl <;> simp at hl <;> omega
theorem trimL_le (c : UInt8) (s : ByteArray) : (trimL c s).size ≤ s.size := by
  show (List.dropWhile (· == c) s.data.toList).toArray.size ≤ s.data.size
  have h := (List.dropWhile_sublist (p := (· == c)) (l := s.data.toList)).length_le
  simpa using h
theorem digS_le (n : Int) : (digS n).size ≤ 4 := by
  have h := trimL_le 48 (hexS n 4)
  rw [hexS_size] at h
  exact h
theorem hexS4_max (n : Int) : (hexS n 4).size ≤ maxLen := by rw [hexS_size]; simp [maxLen]
theorem hex4_any (n : Int) (w : World) :
    Calls Tryz.prog 144 #[.int .i64 n, .int .i64 4] w fun e w' => e = .returned (.string (hexS n 4)) ∧ Below w.heap.size w w' := hex_any n 4 (by omega) w
theorem trimDig_any (n : Int) (w : World) :
    Calls Tryz.prog 143 #[.string (hexS n 4), .string ⟨#[48]⟩] w fun e w' => e = .returned (.string (digS n)) ∧ w = w' := trimLeft0_any _ (hexS4_max n) w
def textS (n : Int) : ByteArray :=
  if n < 0 ∨ 65535 < n then ⟨#[]⟩
  else if n < 10 then ⟨#[hexU n]⟩
  else if decB (((digS n).data.toList.getD 0 0).toNat : Int) then ⟨((digS n).data.toList ++ [72]).toArray⟩ else ⟨(48 :: (digS n).data.toList ++ [72]).toArray⟩
theorem fits16_yes (n : Int) (h0 : 0 ≤ n) (h1 : n ≤ 65535) : fitsB 0 65535 [n] = true := by simp [fitsB]; omega
theorem fits16_no (n : Int) (h : n < 0 ∨ 65535 < n) : fitsB 0 65535 [n] = false := by simp [fitsB]; omega
theorem text_small (n : Int) (h0 : 0 ≤ n) (h2 : n < 10) : hexTab.extract n.toNat (n + 1).toNat = textS n := by
  have t : ∀ i : Fin 10, hexTab.extract i.val (i.val + 1) = ⟨#[hexU (i.val : Int)]⟩ := by decide +kernel
  have h := t ⟨n.toNat, by omega⟩
  have e : ((n.toNat : Nat) : Int) = n := by omega
  have e2 : (n + 1).toNat = n.toNat + 1 := by omega
  simp only [e] at h
  unfold textS
  rw [if_neg (by omega), if_pos h2, e2]
  exact h
theorem getD0 (t : ByteArray) (h : 0 < t.size) : t.data.toList.getD 0 0 = t[0] := by
  rw [List.getD_eq_getElem?_getD, List.getElem?_eq_getElem (by simpa using h)]; rfl
theorem append_data (a b : ByteArray) : (a ++ b).data.toList = a.data.toList ++ b.data.toList := by simp
theorem text_dec (n : Int) (h0 : 10 ≤ n) (h1 : n ≤ 65535) (hp : 0 < (digS n).size) (h3 : decB ((digS n)[0].toNat : Int) = true) : digS n ++ ⟨#[72]⟩ = textS n := by
  apply bytes_ext
  unfold textS
  rw [if_neg (by omega), if_neg (by omega), getD0 _ hp, h3, append_data]
  simp
theorem text_let (n : Int) (h0 : 10 ≤ n) (h1 : n ≤ 65535) (hp : 0 < (digS n).size) (h3 : decB ((digS n)[0].toNat : Int) = false) : (⟨#[48]⟩ ++ digS n) ++ ⟨#[72]⟩ = textS n := by
  apply bytes_ext
  unfold textS
  rw [if_neg (by omega), if_neg (by omega), getD0 _ hp, h3, append_data, append_data]
  simp
theorem text_any (n : Int) (w : World) :
    Calls Tryz.prog 138 #[.int .i64 n] w fun e w' => e = .returned (.string (textS n)) ∧ Below w.heap.size w w' := by
  by_cases h0 : n < 0 ∨ 65535 < n
  · have hF := fits16_no n h0
    have T := Lib.hid (show (⟨#[]⟩ : ByteArray) = textS n by unfold textS; rw [if_pos h0])
    clear h0
    go_enter Tryz.func138, Tryz.ntmps138
    go_wp2_with (go_at_call 95; refine (fits_any 0 65535 _ _ [n] (by simp [maxLen]) _ (ints_one _ _ _)).mono ?_; rintro e w' ⟨rfl, rfl⟩)
    go_ret
    exact ⟨ret_str T.out, (Below.refl _ _).alloc (Nat.le_refl _) _⟩
  · have h1 : n ≤ 65535 := by omega
    have h0' : 0 ≤ n := by omega
    have hF := fits16_yes n h0' h1
    clear h0
    by_cases h2 : n < 10
    · have T := Lib.hid (text_small n h0' h2)
      go_enter Tryz.func138, Tryz.ntmps138
      go_wp2_with (go_at_call 95; refine (fits_any 0 65535 _ _ [n] (by simp [maxLen]) _ (ints_one _ _ _)).mono ?_; rintro e w' ⟨rfl, rfl⟩)
      go_ret
      exact ⟨ret_str T.out, (Below.refl _ _).alloc (Nat.le_refl _) _⟩
    · have hp := digS_pos n (by omega) h1
      have hq := digS_le n
      have c0 : (0 : Int) ≤ ((digS n)[0].toNat : Int) := by omega
      have c1 : ((digS n)[0].toNat : Int) ≤ 255 := by have := (digS n)[0].toNat_lt; omega
      by_cases h3 : decB ((digS n)[0].toNat : Int) = true
      · have T := Lib.hid (text_dec n (by omega) h1 hp h3)
        go_enter Tryz.func138, Tryz.ntmps138
        go_wp2_with (first | (go_at_call 95; refine (fits_any 0 65535 _ _ [n] (by simp [maxLen]) _ (ints_one _ _ _)).mono ?_; rintro e w' ⟨rfl, rfl⟩) | (go_at_call 144; refine (hex4_any n _).mono ?_; rintro e w1 ⟨rfl, hb1⟩) | (go_at_call 143; refine (trimDig_any n _).mono ?_; rintro e w' ⟨rfl, rfl⟩) | (go_at_call 145; refine (isDecimal_any _ c0 c1 _).mono ?_; rintro e w' ⟨rfl, rfl⟩))
        go_ret
        exact ⟨ret_str T.out, ((Below.refl _ _).alloc (Nat.le_refl _) _).trans (hb1.mono (by simp))⟩
      · have h3' : decB ((digS n)[0].toNat : Int) = false := by simpa using h3
        clear h3
        have T := Lib.hid (text_let n (by omega) h1 hp h3')
        go_enter Tryz.func138, Tryz.ntmps138
        go_wp2_with (first | (go_at_call 95; refine (fits_any 0 65535 _ _ [n] (by simp [maxLen]) _ (ints_one _ _ _)).mono ?_; rintro e w' ⟨rfl, rfl⟩) | (go_at_call 144; refine (hex4_any n _).mono ?_; rintro e w1 ⟨rfl, hb1⟩) | (go_at_call 143; refine (trimDig_any n _).mono ?_; rintro e w' ⟨rfl, rfl⟩) | (go_at_call 145; refine (isDecimal_any _ c0 c1 _).mono ?_; rintro e w' ⟨rfl, rfl⟩))
        go_ret
        exact ⟨ret_str T.out, ((Below.refl _ _).alloc (Nat.le_refl _) _).trans (hb1.mono (by simp))⟩
end Go.Proofs.YtipgecdfnbldnaaGreatDoor
/-
  Walks over the document's own answers (package breadboardref01): digit, value, Hex, Text, Signed: each returns what the walks over package num return.
-/
namespace Go.Proofs.YtipgecdfnbldnaaGreatDoor
open Go.RowKit
end Go.Proofs.YtipgecdfnbldnaaGreatDoor
/-
  Walks over the document's own answers (package breadboardref01): Text and value.
-/
namespace Go.Proofs.YtipgecdfnbldnaaGreatDoor
open Go.RowKit
end Go.Proofs.YtipgecdfnbldnaaGreatDoor
/-
  Plain facts on words: which words have which form, what num.Parse returns for num.Text's words.
-/
namespace Go.Proofs.YtipgecdfnbldnaaGreatDoor
end Go.Proofs.YtipgecdfnbldnaaGreatDoor
/-
  Operands: the names of registers and conditions, by kinds. No program.
-/
namespace Go.Proofs.YtipgecdfnbldnaaGreatDoor
open Go.RowKit
def nmL : Nat → List ByteArray
  | 1 => [⟨#[66]⟩, ⟨#[67]⟩, ⟨#[68]⟩, ⟨#[69]⟩, ⟨#[72]⟩, ⟨#[76]⟩, ⟨#[]⟩, ⟨#[65]⟩]
  | 2 => [⟨#[73, 88, 72]⟩, ⟨#[73, 88, 76]⟩, ⟨#[73, 89, 72]⟩, ⟨#[73, 89, 76]⟩]
  | 3 => [⟨#[66, 67]⟩, ⟨#[68, 69]⟩, ⟨#[72, 76]⟩, ⟨#[83, 80]⟩, ⟨#[65, 70]⟩, ⟨#[73, 88]⟩, ⟨#[73, 89]⟩, ⟨#[65, 70, 39]⟩]
  | 4 => [⟨#[66, 67]⟩, ⟨#[68, 69]⟩, ⟨#[72, 76]⟩, ⟨#[83, 80]⟩, ⟨#[]⟩, ⟨#[73, 88]⟩, ⟨#[73, 89]⟩, ⟨#[]⟩, ⟨#[67]⟩]
  | 5 => [⟨#[]⟩, ⟨#[]⟩, ⟨#[]⟩, ⟨#[]⟩, ⟨#[]⟩, ⟨#[73, 88]⟩, ⟨#[73, 89]⟩]
  | 8 => [⟨#[78, 90]⟩, ⟨#[90]⟩, ⟨#[78, 67]⟩, ⟨#[67]⟩, ⟨#[80, 79]⟩, ⟨#[80, 69]⟩, ⟨#[80]⟩, ⟨#[77]⟩]
  | 9 => [⟨#[73]⟩, ⟨#[82]⟩]
  | _ => []
def atS (L : List ByteArray) (r : Int) : ByteArray := if 0 ≤ r then L.getD r.toNat ⟨#[]⟩ else ⟨#[]⟩
def neB (s : ByteArray) : Bool := !s.toList.isEmpty
theorem atS_in (L : List ByteArray) (k : Nat) (h : k < L.length) : atS L (k : Int) = L[k] := by
  unfold atS
  rw [if_pos (by omega), List.getD_eq_getElem?_getD, Int.toNat_natCast, List.getElem?_eq_getElem h]
  rfl
theorem atS_out (L : List ByteArray) (r : Int) (h : r < 0 ∨ (L.length : Int) ≤ r) : atS L r = ⟨#[]⟩ := by
  unfold atS
  split
  · rw [List.getD_eq_getElem?_getD, List.getElem?_eq_none (by omega)]; rfl
  · rfl
def nmS (k : Nat) (r : Int) : ByteArray := atS (nmL k) r
theorem atS_mem (L : List ByteArray) (r : Int) : atS L r = ⟨#[]⟩ ∨ atS L r ∈ L := by
  by_cases h : 0 ≤ r ∧ r < (L.length : Int)
  · right
    obtain ⟨k, rfl⟩ : ∃ k : Nat, r = k := ⟨r.toNat, by omega⟩
    rw [atS_in L k (by omega)]
    exact List.getElem_mem _
  · left; exact atS_out L r (by omega)
end Go.Proofs.YtipgecdfnbldnaaGreatDoor
/-
  Walks over operand.at and the functions that name registers.
-/
namespace Go.Proofs.YtipgecdfnbldnaaGreatDoor
open Go.RowKit
theorem fits1_yes (lo hi n : Int) (h0 : lo ≤ n) (h1 : n ≤ hi) : fitsB lo hi [n] = true := by simp [fitsB]; omega
theorem fits1_no (lo hi n : Int) (h : n < lo ∨ hi < n) : fitsB lo hi [n] = false := by simp [fitsB]; omega
theorem fit1_any (lo hi x : Int) (b : Nat) (q : Bool) (hq : fitsB lo hi [x] = q) (w : World) (hc : w.cell? ⟨b, 0, none⟩ = some (.int .i64 x)) :
    Calls Tryz.prog 95 #[.int .i64 lo, .int .i64 hi, .slice (some ⟨b, 0, none⟩) 1 1] w fun e w' => e = .returned (.bool q) ∧ w = w' := by
  subst hq
  refine fits_any lo hi _ 1 [x] (by simp [maxLen]) w (.inr ⟨b, 0, rfl, fun j h => ?_⟩)
  obtain rfl : j = 0 := by simp at h; omega
  exact hc
theorem neB_nil : neB ⟨#[]⟩ = false := by decide +kernel
theorem at_any (r : Int) (b cap n : Nat) (L : List ByteArray) (hn : n = L.length) (hl : L.length ≤ 100) (w : World) (hc : ∀ j (h : j < L.length), w.cell? ⟨b, j, none⟩ = some (.string L[j])) :
    Calls Tryz.prog 135 #[.int .i64 r, .slice (some ⟨b, 0, none⟩) n cap] w fun e w' => e = .returned (.tuple #[.string (atS L r), .bool (neB (atS L r))]) ∧ Below w.heap.size w w' := by
  by_cases h : 0 ≤ r ∧ r < (L.length : Int)
  · obtain ⟨k, rfl⟩ : ∃ k : Nat, r = k := ⟨r.toNat, by omega⟩
    have hk : k < L.length := by omega
    have hck := hc k hk
    have e1 := atS_in L k hk
    have HF := fits1_yes 0 ((n : Int) - 1) (k : Int) (by omega) (by omega)
    obtain ⟨s, hs⟩ : ∃ s, L[k] = s := ⟨_, rfl⟩
    rw [hs] at hck e1
    rw [e1]
    have hkn : k < n := by omega
    have hnb : n ≤ 100 := by omega
    have hb := World.block_lt_of_cell? w _ hck
    have hck2 : ∀ o, (w.alloc o).cell? ⟨b, k, none⟩ = some (.string s) := fun o => (World.cell?_alloc_lt w o _ hb).trans hck
    clear hc h hk e1 hs hn hl hck hb
    go_enter Tryz.func135, Tryz.ntmps135
    go_wp2_with fail
    refine (fits_any 0 ((n : Int) - 1) _ _ [(k : Int)] (by simp [maxLen]) _ (ints_one _ _ _)).mono ?_
    rintro e w' ⟨rfl, rfl⟩
    rw [HF]
    clear HF
    go_wp2
    go_quiet (fail)
    go_wp2
    go_ret2
    exact ⟨rfl, ((Below.refl _ _).alloc (Nat.le_refl _) _).trans (below_drewN _ _ _)⟩
  · have e1 := atS_out L r (by omega)
    have HF := fits1_no 0 ((n : Int) - 1) r (by omega)
    rw [e1, neB_nil]
    have hnb : n ≤ 100 := by omega
    clear hc h e1 hn hl
    go_enter Tryz.func135, Tryz.ntmps135
    go_wp2_with fail
    refine (fits_any 0 ((n : Int) - 1) _ _ [r] (by simp [maxLen]) _ (ints_one _ _ _)).mono ?_
    rintro e w' ⟨rfl, rfl⟩
    rw [HF]
    clear HF
    go_wp2
    go_ret2
    exact ⟨rfl, ((Below.refl _ _).alloc (Nat.le_refl _) _)⟩
theorem name8_any (r : Int) (w : World) :
    Calls Tryz.prog 111 #[.int .i64 r] w fun e w' => e = .returned (.tuple #[.string (nmS 1 r), .bool (neB (nmS 1 r))]) ∧ Below w.heap.size w w' := by
  go_enter Tryz.func111, Tryz.ntmps111
  go_wp2_with fail
  refine (at_any r _ _ _ (nmL 1) rfl (by decide) _ (strs_new w (nmL 1) 9)).mono ?_
  rintro e w' ⟨rfl, hb⟩
  have N := Lib.hid (((Below.refl _ _).alloc (Nat.le_refl _) _).trans (hb.mono (by simp)))
  clear hb
  go_wp2
  go_ret2
  exact ⟨rfl, N.out⟩
theorem nameHalf_any (r : Int) (w : World) :
    Calls Tryz.prog 113 #[.int .i64 r] w fun e w' => e = .returned (.tuple #[.string (nmS 2 r), .bool (neB (nmS 2 r))]) ∧ Below w.heap.size w w' := by
  go_enter Tryz.func113, Tryz.ntmps113
  go_wp2_with fail
  refine (at_any r _ _ _ (nmL 2) rfl (by decide) _ (strs_new w (nmL 2) 9)).mono ?_
  rintro e w' ⟨rfl, hb⟩
  have N := Lib.hid (((Below.refl _ _).alloc (Nat.le_refl _) _).trans (hb.mono (by simp)))
  clear hb
  go_wp2
  go_ret2
  exact ⟨rfl, N.out⟩
theorem name16_any (r : Int) (w : World) :
    Calls Tryz.prog 114 #[.int .i64 r] w fun e w' => e = .returned (.tuple #[.string (nmS 3 r), .bool (neB (nmS 3 r))]) ∧ Below w.heap.size w w' := by
  go_enter Tryz.func114, Tryz.ntmps114
  go_wp2_with fail
  refine (at_any r _ _ _ (nmL 3) rfl (by decide) _ (strs_new w (nmL 3) 9)).mono ?_
  rintro e w' ⟨rfl, hb⟩
  have N := Lib.hid (((Below.refl _ _).alloc (Nat.le_refl _) _).trans (hb.mono (by simp)))
  clear hb
  go_wp2
  go_ret2
  exact ⟨rfl, N.out⟩
theorem namePointer_any (r : Int) (w : World) :
    Calls Tryz.prog 115 #[.int .i64 r] w fun e w' => e = .returned (.tuple #[.string (nmS 4 r), .bool (neB (nmS 4 r))]) ∧ Below w.heap.size w w' := by
  go_enter Tryz.func115, Tryz.ntmps115
  go_wp2_with fail
  refine (at_any r _ _ _ (nmL 4) rfl (by decide) _ (strs_new w (nmL 4) 9)).mono ?_
  rintro e w' ⟨rfl, hb⟩
  have N := Lib.hid (((Below.refl _ _).alloc (Nat.le_refl _) _).trans (hb.mono (by simp)))
  clear hb
  go_wp2
  go_ret2
  exact ⟨rfl, N.out⟩
theorem nameIndex_any (r : Int) (w : World) :
    Calls Tryz.prog 117 #[.int .i64 r] w fun e w' => e = .returned (.tuple #[.string (nmS 5 r), .bool (neB (nmS 5 r))]) ∧ Below w.heap.size w w' := by
  go_enter Tryz.func117, Tryz.ntmps117
  go_wp2_with fail
  refine (at_any r _ _ _ (nmL 5) rfl (by decide) _ (strs_new w (nmL 5) 9)).mono ?_
  rintro e w' ⟨rfl, hb⟩
  have N := Lib.hid (((Below.refl _ _).alloc (Nat.le_refl _) _).trans (hb.mono (by simp)))
  clear hb
  go_wp2
  go_ret2
  exact ⟨rfl, N.out⟩
theorem nameCondition_any (r : Int) (w : World) :
    Calls Tryz.prog 122 #[.int .i64 r] w fun e w' => e = .returned (.tuple #[.string (nmS 8 r), .bool (neB (nmS 8 r))]) ∧ Below w.heap.size w w' := by
  go_enter Tryz.func122, Tryz.ntmps122
  go_wp2_with fail
  refine (at_any r _ _ _ (nmL 8) rfl (by decide) _ (strs_new w (nmL 8) 9)).mono ?_
  rintro e w' ⟨rfl, hb⟩
  have N := Lib.hid (((Below.refl _ _).alloc (Nat.le_refl _) _).trans (hb.mono (by simp)))
  clear hb
  go_wp2
  go_ret2
  exact ⟨rfl, N.out⟩
theorem nameControl_any (r : Int) (w : World) :
    Calls Tryz.prog 123 #[.int .i64 r] w fun e w' => e = .returned (.tuple #[.string (nmS 9 r), .bool (neB (nmS 9 r))]) ∧ Below w.heap.size w w' := by
  go_enter Tryz.func123, Tryz.ntmps123
  go_wp2_with fail
  refine (at_any r _ _ _ (nmL 9) rfl (by decide) _ (strs_new w (nmL 9) 9)).mono ?_
  rintro e w' ⟨rfl, hb⟩
  have N := Lib.hid (((Below.refl _ _).alloc (Nat.le_refl _) _).trans (hb.mono (by simp)))
  clear hb
  go_wp2
  go_ret2
  exact ⟨rfl, N.out⟩
theorem noName_any (r : Int) (w : World) :
    Calls Tryz.prog 119 #[.int .i64 r] w fun e w' => e = .returned (.tuple #[.string ⟨#[]⟩, .bool (r == 0)]) ∧ w = w' := by
  go_enter Tryz.func119, Tryz.ntmps119
  go_wp2
  go_ret2
  exact ⟨rfl, rfl⟩
end Go.Proofs.YtipgecdfnbldnaaGreatDoor
/-
  The walks over the document's own Ops and Known; slices of strings.
-/
namespace Go.Proofs.YtipgecdfnbldnaaGreatDoor
open Go.RowKit Go.Maps
end Go.Proofs.YtipgecdfnbldnaaGreatDoor
