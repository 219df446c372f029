/-
  ImgC, ImgM, ImgD, ImgE: texts joined to one.
-/
import Derived.Test.YtmeegpdjhcilkaaDoorImgB
import Derived.Laws.CopyOwn
import Derived.Laws.IdiomCopy
import Derived.Test.YtmeegpdjhcilkaaDoorLawAll
import Derived.OwnWalk
import Derived.Laws.AppendOwn
import Derived.Laws.OwnMore
/-
  Walks over (*image.Image).Get, Len and Put: for every image, address and bytes.
-/
namespace Go.Proofs.YtmeegpdjhcilkaaDoor.Im
open Go.RowKit
set_option linter.unusedVariables false

/-! ### Slices of bytes: their blocks have the property P -/
def BytesP (P : Nat → Prop) (w : World) (A : Option Addr) (xs : List UInt8) : Prop :=
  xs = [] ∨ ∃ b off, A = some ⟨b, off, none⟩ ∧ P b ∧ ∀ j (h : j < xs.length), w.cell? ⟨b, off + j, none⟩ = some (.int .u8 (xs[j].toNat : Int))
theorem BytesP.at_ {P : Nat → Prop} {w : World} {A : Option Addr} {xs : List UInt8} (h : BytesP P w A xs) {k : Nat} (hk : k < xs.length) : ∃ b off, A = some ⟨b, off, none⟩ ∧ w.cell? ⟨b, off + k, none⟩ = some (.int .u8 (xs[k].toNat : Int)) := by
  rcases h with rfl | ⟨b, off, rfl, _, hc⟩
  · simp at hk
  · exact ⟨b, off, rfl, hc k hk⟩
theorem BytesP.mono {P Q : Nat → Prop} {w : World} {A : Option Addr} {xs : List UInt8} (h : BytesP P w A xs) (hPQ : ∀ i, i < w.heap.size → P i → Q i) : BytesP Q w A xs := by
  by_cases hx : xs = []
  · exact .inl hx
  · rcases h with rfl | ⟨b, off, rfl, hp, hc⟩
    · exact .inl rfl
    · exact .inr ⟨b, off, rfl, hPQ b (World.block_lt_of_cell? w _ (hc 0 (List.length_pos_iff.2 hx))) hp, hc⟩
theorem BytesP.blocks {P : Nat → Prop} {w w' : World} {A : Option Addr} {xs : List UInt8} (h : BytesP P w A xs) (hk : ∀ i, i < w.heap.size → P i → w'.heap[i]? = w.heap[i]?) : BytesP P w' A xs := by
  rcases h with rfl | ⟨b, off, rfl, hp, hc⟩
  · exact .inl rfl
  · refine .inr ⟨b, off, rfl, hp, fun j hj => ?_⟩
    exact (World.cell?_of_block (w := w) (hk b (World.block_lt_of_cell? w _ (hc j hj)) hp)).trans (hc j hj)
theorem BytesP.below {P : Nat → Prop} {w w' : World} {A : Option Addr} {xs : List UInt8} (h : BytesP P w A xs) (hb : Below w.heap.size w w') : BytesP P w' A xs := h.blocks fun i hi _ => hb.block i hi
theorem BytesP.keep {P : Nat → Prop} {w w' : World} {b : Nat} {A : Option Addr} {xs : List UInt8} (h : BytesP P w A xs) (hb : Keep b w w') (hP : ¬ P b) : BytesP P w' A xs := h.blocks fun i hi hp => hb.block i hi fun e => hP (e ▸ hp)
theorem BytesP.drewN {P : Nat → Prop} {w : World} {A : Option Addr} {xs : List UInt8} (h : BytesP P w A xs) (n : Nat) : BytesP P (w.drewN n) A xs := h.blocks fun _ _ _ => rfl

/-! ### Get and Len -/
theorem len_any (b : Nat) (H : Nat → Bool) (c : Int) (D : Nat → UInt8) (w : World) (hI : ImgF w b H c D) :
    Calls Tryd.prog 38 #[.pointer (some ⟨b, 0, none⟩)] w fun e w' => e = .returned (.int .i64 c) ∧ w = w' := by
  have g := hI.cellN
  clear hI
  go_enter Tryd.func38, Tryd.ntmps38
  go_wp2
  go_ret
  exact ⟨rfl, rfl⟩
theorem lenNil_any (w : World) : Calls Tryd.prog 38 #[.pointer none] w fun e w' => e = .returned (.int .i64 0) ∧ w = w' := by
  go_enter Tryd.func38, Tryd.ntmps38
  go_wp2
  go_ret
  exact ⟨rfl, rfl⟩
set_option maxHeartbeats 400000 in
theorem get_any (b : Nat) (H : Nat → Bool) (c : Int) (D : Nat → UInt8) (n : Int) (w : World) (hI : ImgF w b H c D) (hD : ∀ i, i < 65536 → H i = false → D i = 0) :
    Calls Tryd.prog 57 #[.pointer (some ⟨b, 0, none⟩), .int .i64 n] w fun e w' =>
      e = .returned (.tuple #[.int .u8 (if addrB n then ((D n.toNat).toNat : Int) else 0), .bool (addrB n && H n.toNat)]) ∧ w = w' := by
  have I := Lib.hid hI
  clear hI
  obtain ⟨r, hr⟩ : ∃ r, (addrB n && H n.toNat) = r := ⟨_, rfl⟩
  have hc := fun w h => has_any b H c D n w h
  rw [hr] at hc ⊢
  cases r
  · have hv : (if addrB n then ((D n.toNat).toNat : Int) else 0) = 0 := by
      cases ha : addrB n
      · rfl
      · rw [ha, Bool.true_and] at hr
        unfold addrB at ha
        rw [Bool.and_eq_true, decide_eq_true_eq, decide_eq_true_eq] at ha
        simp [hD n.toNat (by omega) hr]
    rw [hv]
    clear hr hv hD
    go_enter Tryd.func57, Tryd.ntmps57
    go_wp2_with fail
    refine (hc _ I.out).mono ?_
    rintro e w1 ⟨rfl, rfl⟩
    go_wp2
    go_ret2
    exact ⟨rfl, rfl⟩
  · rw [Bool.and_eq_true] at hr
    obtain ⟨ha, hH⟩ := hr
    have hv : (if addrB n then ((D n.toNat).toNat : Int) else 0) = ((D n.toNat).toNat : Int) := by rw [if_pos ha]
    rw [hv]
    unfold addrB at ha
    rw [Bool.and_eq_true, decide_eq_true_eq, decide_eq_true_eq] at ha
    obtain ⟨h0, h1⟩ := ha
    obtain ⟨k, rfl⟩ : ∃ k : Nat, n = k := ⟨n.toNat, by omega⟩
    have g := I.out.cellD (i := k) (by omega)
    have hk : ((k : Int)).toNat = k := by omega
    rw [hk]
    clear hv hD hH hk
    go_enter Tryd.func57, Tryd.ntmps57
    go_wp2_with fail
    refine (hc _ I.out).mono ?_
    rintro e w1 ⟨rfl, rfl⟩
    go_wp2
    go_ret2
    exact ⟨rfl, rfl⟩
theorem getNil_any (n : Int) (w : World) : Calls Tryd.prog 57 #[.pointer none, .int .i64 n] w fun e w' => e = .returned (.tuple #[.int .u8 0, .bool false]) ∧ w = w' := by
  go_enter Tryd.func57, Tryd.ntmps57
  go_wp2
  go_ret2
  exact ⟨rfl, rfl⟩

/-! ### Put -/
/-- The bytes behind a copy of xs to k. -/
def putD (D : Nat → UInt8) (k : Nat) (xs : List UInt8) (i : Nat) : UInt8 := if k ≤ i ∧ i < k + xs.length then xs.getD (i - k) 0 else D i
def putH (H : Nat → Bool) (k n : Nat) (i : Nat) : Bool := H i || (decide (k ≤ i) && decide (i < k + n))
theorem info_u8 : (Tryd.prog.info? 5).map (fun i => (i.zero, i.size, i.bytes)) = some (some (.int .u8 0), 1, 1) := by kernel_rfl
theorem size_u8 : (Tryd.prog.info? 5).map (·.size) = some 1 := by kernel_rfl
theorem copy_img {w : World} {b : Nat} {H : Nat → Bool} {c : Int} {D : Nat → UInt8} (hI : ImgF w b H c D) {P : Nat → Prop} {A : Option Addr} {xs : List UInt8} (hx : BytesP P w A xs) (k cap : Nat) (hk : k + xs.length ≤ 65536) (ty : TypeId) :
    ∃ w', (Builtin.copy_ #[59, 59] ty #[.slice (some ⟨b, 65537 + k, none⟩) (65536 - k) (65536 - k), .slice A xs.length cap]).run Tryd.prog w = .ok (goInt xs.length) w' ∧ ImgF w' b H c (putD D k xs) ∧ Keep b w w' := by
  have hm : xs.length = Nat.min xs.length (65536 - k) := (Nat.min_eq_left (by omega)).symm
  by_cases h0 : xs = []
  · subst h0
    refine ⟨w, run_copy_none w _ _ _ 5 _ _ _ _ _ _ Tryd.underlying59 size_u8 (by simp), hI.congr (fun _ _ => rfl) fun i _ => ?_, Keep.refl _ _⟩
    unfold putD; rw [if_neg (fun h => by have h2 := h.2; simp only [List.length_nil] at h2; omega)]
  · rcases hx with rfl | ⟨g, off, rfl, _, hc⟩
    · exact absurd rfl h0
    · obtain ⟨cur, hg, hsz, hcur⟩ := hI
      have hlen : (xs.map fun u => Value.int .u8 (u.toNat : Int)).length = xs.length := List.length_map _
      have hrun := run_copy_row (P := Tryd.prog) w 59 59 ty 5 b (65537 + k) (65536 - k) (65536 - k) ⟨g, off, none⟩ xs.length cap cur 87 (xs.map fun u => .int .u8 (u.toNat : Int))
        Tryd.underlying59 size_u8 hg (by rw [hlen]; exact hm) (fun j v hj => by
          rw [List.getElem?_map] at hj
          by_cases hjl : j < xs.length
          · rw [List.getElem?_eq_getElem hjl] at hj
            simp only [Option.map_some, Option.some.injEq] at hj
            subst hj
            have := hc j hjl
            unfold Addr.add
            by_cases e : j = 0
            · subst e; simpa using this
            · rw [if_neg e]; exact this
          · rw [List.getElem?_eq_none (by omega)] at hj; cases hj) (by rw [hlen, hsz]; omega) (fun v hv => by
          obtain ⟨u, _, rfl⟩ := List.mem_map.1 hv; rfl)
      rw [hlen] at hrun
      refine ⟨_, hrun, ?_, ⟨rfl, rfl, rfl, by simp, fun i hi hn => setRow_other w b i _ (by omega)⟩⟩
      refine ⟨_, setRow_heap w b cur _ _ _ hg, ?_, fun i hi => ?_⟩
      · simp only [List.size_toArray, List.length_append, List.length_take, List.length_drop, List.length_map, Array.length_toList, hsz]
        omega
      · rw [List.getElem?_toArray, List.append_assoc]
        have hl1 : (cur.toList.take (65537 + k)).length = 65537 + k := by rw [List.length_take, Array.length_toList, hsz]; omega
        by_cases h1 : i < 65537 + k
        · rw [List.getElem?_append_left (by omega), List.getElem?_take, if_pos h1, Array.getElem?_toList, hcur i hi]
          unfold imgV putD
          by_cases h2 : i < 65536
          · rw [if_pos h2, if_pos h2]
          · rw [if_neg h2, if_neg h2]
            by_cases h3 : i = 65536
            · rw [if_pos h3, if_pos h3]
            · rw [if_neg h3, if_neg h3, if_neg (by omega)]
        · rw [List.getElem?_append_right (by omega), hl1]
          by_cases h2 : i < 65537 + k + xs.length
          · rw [List.getElem?_append_left (by rw [hlen]; omega), List.getElem?_map, List.getElem?_eq_getElem (by omega)]
            unfold imgV putD
            rw [if_neg (by omega), if_neg (by omega), if_pos (by omega)]
            simp only [Option.map_some, List.getD_eq_getElem?_getD]
            rw [show i - 65537 - k = i - (65537 + k) by omega, List.getElem?_eq_getElem (by omega)]
            rfl
          · rw [List.getElem?_append_right (by rw [hlen]; omega), hlen, List.getElem?_drop, show 65537 + k + xs.length + (i - (65537 + k) - xs.length) = i by omega, Array.getElem?_toList, hcur i hi]
            unfold imgV putD
            rw [if_neg (by omega), if_neg (by omega), if_neg (by omega), if_neg (by omega), if_neg (by omega)]

/-- What Put answers at an image: the code. -/
def putE (H : Nat → Bool) (n : Int) (m : Nat) : Int :=
  if addrB n = false then 2 else if (65536 - n < (m : Int)) then 10 else if anyB (fun j => H (n.toNat + j)) m then 4 else 0
set_option maxRecDepth 8000 in
set_option maxHeartbeats 1000000 in
theorem put_bad (b : Nat) (H : Nat → Bool) (c : Int) (D : Nat → UInt8) (n : Int) (A : Option Addr) (xs : List UInt8) (cap : Nat) (w : World) (hl : xs.length ≤ maxLen) (hI : ImgF w b H c D) (he : putE H n xs.length ≠ 0) :
    Calls Tryd.prog 29 #[.pointer (some ⟨b, 0, none⟩), .int .i64 n, .slice A xs.length cap] w fun e w' => e = .returned (.int .i64 (putE H n xs.length)) ∧ w = w' := by
  unfold maxLen at hl
  have I := Lib.hid hI
  clear hI
  have hc := isAddress_any n
  cases ha : addrB n
  · have e1 : putE H n xs.length = 2 := by unfold putE; rw [if_pos ha]
    rw [e1]
    rw [ha] at hc
    clear he ha e1
    go_enter Tryd.func29, Tryd.ntmps29
    go_wp2_with fail
    refine (hc _).mono ?_
    rintro e w1 ⟨rfl, rfl⟩
    go_wp2
    go_ret
    exact ⟨rfl, rfl⟩
  · rw [ha] at hc
    unfold putE at he ⊢
    rw [ha] at he ⊢
    unfold addrB at ha
    rw [Bool.and_eq_true, decide_eq_true_eq, decide_eq_true_eq] at ha
    obtain ⟨h0, h1⟩ := ha
    by_cases hw : 65536 - n < (xs.length : Int)
    · rw [if_neg (by simp), if_pos hw]
      clear he
      go_enter Tryd.func29, Tryd.ntmps29
      go_wp2_with fail
      refine (hc _).mono ?_
      rintro e w1 ⟨rfl, rfl⟩
      go_wp2
      go_ret
      exact ⟨rfl, rfl⟩
    · rw [if_neg (by simp), if_neg hw] at he ⊢
      cases hy : anyB (fun j => H (n.toNat + j)) xs.length
      · rw [hy] at he; exact absurd rfl he
      · obtain ⟨k, rfl⟩ : ∃ k : Nat, n = k := ⟨n.toNat, by omega⟩
        rw [show ((k : Int)).toNat = k by omega] at hy
        have hh := hasAny_any b H c D k xs.length (by omega) (by omega) w I.out
        rw [hy] at hh
        clear he hy
        have hw' : decide (65536 - (k : Int) < (xs.length : Int)) = false := decide_eq_false hw
        clear hw
        go_enter Tryd.func29, Tryd.ntmps29
        go_wp2_with fail
        refine (hc _).mono ?_
        rintro e w1 ⟨rfl, rfl⟩
        go_wp2_with fail
        refine hh.mono ?_
        rintro e w1 ⟨rfl, rfl⟩
        clear hw' hh h0 h1 hc
        go_wp2
        go_ret
        exact ⟨rfl, rfl⟩
set_option maxRecDepth 8000 in
set_option maxHeartbeats 1000000 in
theorem put_good (b : Nat) (H : Nat → Bool) (c : Int) (hc0 : 0 ≤ c) (hc1 : c ≤ 4611686018427387904) (D : Nat → UInt8) (n : Int) (P : Nat → Prop) (hP : ¬ P b) (A : Option Addr) (xs : List UInt8) (cap : Nat) (w : World) (hl : xs.length ≤ maxLen) (hI : ImgF w b H c D) (hx : BytesP P w A xs)
    (he : putE H n xs.length = 0) :
    Calls Tryd.prog 29 #[.pointer (some ⟨b, 0, none⟩), .int .i64 n, .slice A xs.length cap] w fun e w' =>
      e = .returned (.int .i64 0) ∧ ImgF w' b (putH H n.toNat xs.length) (c + xs.length) (putD D n.toNat xs) ∧ Keep b w w' := by
  unfold maxLen at hl
  have I := Lib.hid hI
  have X := Lib.hid hx
  clear hI hx
  have hc := isAddress_any n
  unfold putE at he
  cases ha : addrB n
  · rw [ha] at he; simp at he
  · rw [ha] at hc he
    unfold addrB at ha
    rw [Bool.and_eq_true, decide_eq_true_eq, decide_eq_true_eq] at ha
    obtain ⟨h0, h1⟩ := ha
    obtain ⟨k, rfl⟩ : ∃ k : Nat, n = k := ⟨n.toNat, by omega⟩
    rw [show ((k : Int)).toNat = k by omega] at he ⊢
    by_cases hw : 65536 - (k : Int) < (xs.length : Int)
    · rw [if_neg (by simp), if_pos hw] at he; simp at he
    · rw [if_neg (by simp), if_neg hw] at he
      have hy : anyB (fun j => H (k + j)) xs.length = false := by
        cases hy : anyB (fun j => H (k + j)) xs.length
        · rfl
        · rw [hy] at he; simp at he
      have hh := hasAny_any b H c D k xs.length (by omega) (by omega) w I.out
      rw [hy] at hh
      clear he hy
      have hw' : decide (65536 - (k : Int) < (xs.length : Int)) = false := decide_eq_false hw
      have hsl := fun w => slice_l 85 5 Tryd.underlying85 (fun w => Tryd.sizeOf5 w) b 65537 k (by omega) w
      have hkx : k + xs.length ≤ 65536 := by omega
      clear hw
      go_enter Tryd.func29, Tryd.ntmps29
      go_wp2_with fail
      refine (hc _).mono ?_
      rintro e w1 ⟨rfl, rfl⟩
      go_wp2_with fail
      refine hh.mono ?_
      rintro e w1 ⟨rfl, rfl⟩
      obtain ⟨w1, hcp, h1, hk1⟩ := copy_img I.out X.out k cap hkx 3
      have I1 := Lib.hid h1
      have K1 := Lib.hid hk1
      clear h1 hk1
      go_wp2_with fail
      refine (add_any b H c hc0 hc1 _ k xs.length (by omega) hkx _ I1.out).mono ?_
      rintro e w2 ⟨rfl, h2, hk2⟩
      have N := Lib.hid h2
      have K2 := Lib.hid (K1.out.trans hk2)
      clear h2 hk2
      go_wp2
      go_ret
      exact ⟨rfl, N.out, K2.out⟩
theorem putNil_any (n : Int) (A : Option Addr) (len cap : Nat) (w : World) :
    Calls Tryd.prog 29 #[.pointer none, .int .i64 n, .slice A len cap] w fun e w' => e = .returned (.int .i64 1) ∧ w = w' := by
  go_enter Tryd.func29, Tryd.ntmps29
  go_wp2
  go_ret
  exact ⟨rfl, rfl⟩
end Go.Proofs.YtmeegpdjhcilkaaDoor.Im
/-
  Lists of cells in ascending order: what putting bytes makes of them, and their runs. No program.
-/
namespace Go.Proofs.YtmeegpdjhcilkaaDoor.Im
open Go.RowKit
set_option linter.unusedVariables false

abbrev Cel := Nat × UInt8
def hasW (W : List Cel) (i : Nat) : Bool := W.any (fun c => c.1 == i)
def byteW (W : List Cel) (i : Nat) : UInt8 := ((W.find? (fun c => c.1 == i)).map (·.2)).getD 0
def SortedW (W : List Cel) : Prop := W.Pairwise (fun a b => a.1 < b.1) ∧ ∀ c ∈ W, c.1 < 65536
/-- The cells of bytes from a on. -/
def mkW (a : Nat) : List UInt8 → List Cel
  | [] => []
  | x :: t => (a, x) :: mkW (a + 1) t
theorem mkW_append (a : Nat) (xs ys : List UInt8) : mkW a (xs ++ ys) = mkW a xs ++ mkW (a + xs.length) ys := by
  induction xs generalizing a with
  | nil => rfl
  | cons x t ih =>
    simp only [List.cons_append, mkW, ih, List.length_cons]
    rw [show a + 1 + t.length = a + (t.length + 1) by omega]
theorem mkW_length (a : Nat) (xs : List UInt8) : (mkW a xs).length = xs.length := by
  induction xs generalizing a with
  | nil => rfl
  | cons x t ih => simp [mkW, ih]
theorem mkW_mem {a : Nat} {xs : List UInt8} {c : Cel} : c ∈ mkW a xs ↔ a ≤ c.1 ∧ c.1 < a + xs.length ∧ xs.getD (c.1 - a) 0 = c.2 := by
  induction xs generalizing a with
  | nil => simp [mkW]; omega
  | cons x t ih =>
    simp only [mkW, List.mem_cons, ih, List.length_cons]
    constructor
    · rintro (rfl | ⟨h1, h2, h3⟩)
      · simp
      · refine ⟨by omega, by omega, ?_⟩
        rw [show c.1 - a = (c.1 - (a + 1)) + 1 by omega, List.getD_cons_succ]
        exact h3
    · rintro ⟨h1, h2, h3⟩
      by_cases e : c.1 = a
      · left
        rw [e, Nat.sub_self, List.getD_cons_zero] at h3
        exact Prod.ext e h3.symm
      · right
        refine ⟨by omega, by omega, ?_⟩
        rw [show c.1 - a = (c.1 - (a + 1)) + 1 by omega, List.getD_cons_succ] at h3
        exact h3
theorem mkW_sorted (a : Nat) (xs : List UInt8) : (mkW a xs).Pairwise (fun a b => a.1 < b.1) := by
  induction xs generalizing a with
  | nil => simp [mkW]
  | cons x t ih =>
    simp only [mkW, List.pairwise_cons]
    exact ⟨fun c hc => by have := (mkW_mem.1 hc).1; omega, ih (a + 1)⟩
theorem hasW_iff {W : List Cel} {i : Nat} : hasW W i = true ↔ ∃ c ∈ W, c.1 = i := by
  unfold hasW; rw [List.any_eq_true]; simp
theorem hasW_false {W : List Cel} {i : Nat} : hasW W i = false ↔ ∀ c ∈ W, c.1 ≠ i := by
  unfold hasW; rw [List.any_eq_false]; simp
theorem hasW_mk (a : Nat) (xs : List UInt8) (i : Nat) : hasW (mkW a xs) i = (decide (a ≤ i) && decide (i < a + xs.length)) := by
  by_cases h : a ≤ i ∧ i < a + xs.length
  · rw [decide_eq_true h.1, decide_eq_true h.2]
    exact hasW_iff.2 ⟨(i, xs.getD (i - a) 0), mkW_mem.2 ⟨h.1, h.2, rfl⟩, rfl⟩
  · have : hasW (mkW a xs) i = false := hasW_false.2 fun c hc e => h (by have := mkW_mem.1 hc; omega)
    rw [this]
    symm
    rw [Bool.and_eq_false_iff]
    by_cases h1 : a ≤ i
    · right; exact decide_eq_false (fun h2 => h ⟨h1, h2⟩)
    · left; exact decide_eq_false h1
theorem byteW_none {W : List Cel} {i : Nat} (h : hasW W i = false) : byteW W i = 0 := by
  have : W.find? (fun c => c.1 == i) = none := List.find?_eq_none.2 fun c hc => by have := hasW_false.1 h c hc; simpa using this
  unfold byteW; rw [this]; rfl
theorem byteW_mem {W : List Cel} (hs : W.Pairwise (fun a b => a.1 < b.1)) {c : Cel} (hc : c ∈ W) : byteW W c.1 = c.2 := by
  induction W with
  | nil => cases hc
  | cons d t ih =>
    rw [List.pairwise_cons] at hs
    unfold byteW
    by_cases e : d.1 = c.1
    · rcases List.mem_cons.1 hc with rfl | h
      · simp
      · have := hs.1 c h; omega
    · rcases List.mem_cons.1 hc with rfl | h
      · exact absurd rfl e
      · have := ih hs.2 h
        unfold byteW at this
        simp [e, this]
theorem mem_iff {W : List Cel} (hs : W.Pairwise (fun a b => a.1 < b.1)) (c : Cel) : c ∈ W ↔ hasW W c.1 = true ∧ byteW W c.1 = c.2 := by
  constructor
  · intro h; exact ⟨hasW_iff.2 ⟨c, h, rfl⟩, byteW_mem hs h⟩
  · rintro ⟨h1, h2⟩
    obtain ⟨d, hd, e⟩ := hasW_iff.1 h1
    have h3 := byteW_mem hs hd
    rw [e, h2] at h3
    have : d = c := Prod.ext e h3.symm
    exact this ▸ hd
theorem sorted_ext : ∀ {V W : List Cel}, V.Pairwise (fun a b => a.1 < b.1) → W.Pairwise (fun a b => a.1 < b.1) → (∀ c, c ∈ V ↔ c ∈ W) → V = W
  | [], [], _, _, _ => rfl
  | [], d :: W, _, _, h => absurd ((h d).2 List.mem_cons_self) (by simp)
  | c :: V, [], _, _, h => absurd ((h c).1 List.mem_cons_self) (by simp)
  | c :: V, d :: W, hV, hW, h => by
    rw [List.pairwise_cons] at hV hW
    have hcd : c = d := by
      rcases List.mem_cons.1 ((h c).1 List.mem_cons_self) with e | h1
      · exact e
      · rcases List.mem_cons.1 ((h d).2 List.mem_cons_self) with e | h2
        · exact e.symm
        · have := hV.1 d h2
          have := hW.1 c h1
          omega
    subst hcd
    rw [sorted_ext hV.2 hW.2 fun x => ?_]
    constructor
    · intro hx
      rcases List.mem_cons.1 ((h x).1 (List.mem_cons_of_mem _ hx)) with e | h1
      · subst e; have := hV.1 x hx; omega
      · exact h1
    · intro hx
      rcases List.mem_cons.1 ((h x).2 (List.mem_cons_of_mem _ hx)) with e | h1
      · subst e; have := hW.1 x hx; omega
      · exact h1
theorem cells_ext {V W : List Cel} (hV : SortedW V) (hW : SortedW W) (h1 : ∀ i, i < 65536 → hasW V i = hasW W i) (h2 : ∀ i, i < 65536 → byteW V i = byteW W i) : V = W :=
  sorted_ext hV.1 hW.1 fun c => by
    by_cases hc : c.1 < 65536
    · rw [mem_iff hV.1, mem_iff hW.1, h1 _ hc, h2 _ hc]
    · exact ⟨fun h => absurd (hV.2 c h) hc, fun h => absurd (hW.2 c h) hc⟩
theorem sorted_length_aux : ∀ (W : List Cel) (lo N : Nat), W.Pairwise (fun a b => a.1 < b.1) → lo ≤ N → (∀ c ∈ W, lo ≤ c.1 ∧ c.1 < N) → W.length + lo ≤ N
  | [], lo, N, _, h, _ => by simpa using h
  | c :: t, lo, N, hs, h, hc => by
    rw [List.pairwise_cons] at hs
    have h0 := hc c List.mem_cons_self
    have := sorted_length_aux t (c.1 + 1) N hs.2 (by omega) fun d hd => ⟨hs.1 d hd, (hc d (List.mem_cons_of_mem _ hd)).2⟩
    simp only [List.length_cons]
    omega
theorem sorted_length {W : List Cel} (h : SortedW W) : W.length ≤ 65536 := by
  have := sorted_length_aux W 0 65536 h.1 (by omega) fun c hc => ⟨Nat.zero_le _, h.2 c hc⟩
  omega

/-! ### Putting -/
/-- The index of the first cell at an address or after it. -/
def findW (W : List Cel) (a : Int) : Nat := (W.takeWhile (fun c => decide ((c.1 : Int) < a))).length
theorem findW_le (W : List Cel) (a : Int) : findW W a ≤ W.length := by
  have h := congrArg List.length (List.takeWhile_append_dropWhile (p := fun c : Cel => decide ((c.1 : Int) < a)) (l := W))
  rw [List.length_append] at h
  unfold findW; omega
theorem take_findW (W : List Cel) (a : Int) : W.take (findW W a) = W.takeWhile (fun c => decide ((c.1 : Int) < a)) := by
  have h := List.takeWhile_append_dropWhile (p := fun c : Cel => decide ((c.1 : Int) < a)) (l := W)
  unfold findW
  generalize W.takeWhile (fun c : Cel => decide ((c.1 : Int) < a)) = X at h ⊢
  rw [← h, List.take_left' rfl]
theorem drop_findW (W : List Cel) (a : Int) : W.drop (findW W a) = W.dropWhile (fun c => decide ((c.1 : Int) < a)) := by
  have h := List.takeWhile_append_dropWhile (p := fun c : Cel => decide ((c.1 : Int) < a)) (l := W)
  unfold findW
  generalize W.takeWhile (fun c : Cel => decide ((c.1 : Int) < a)) = X at h ⊢
  generalize W.dropWhile (fun c : Cel => decide ((c.1 : Int) < a)) = Y at h ⊢
  rw [← h, List.drop_left' rfl]
theorem findW_of (W : List Cel) (a : Int) (i : Nat) (hi : i ≤ W.length) (h1 : ∀ j (h : j < W.length), j < i → (W[j].1 : Int) < a) (h2 : ∀ h : i < W.length, ¬ (W[i].1 : Int) < a) : findW W a = i := by
  unfold findW
  induction W generalizing i with
  | nil => simp at hi; subst hi; rfl
  | cons c t ih =>
    cases i with
    | zero =>
      have := h2 (by simp)
      simp only [List.getElem_cons_zero] at this
      rw [List.takeWhile_cons, if_neg (by simpa using this)]
      rfl
    | succ i =>
      have h0 := h1 0 (by simp) (by omega)
      simp only [List.getElem_cons_zero] at h0
      rw [List.takeWhile_cons, if_pos (by simpa using h0), List.length_cons, ih i (by simpa using hi) (fun j h hj => ?_) (fun h => ?_)]
      · exact h1 (j + 1) (by simpa using h) (by omega)
      · exact h2 (by simpa using h)
theorem mem_take_findW {W : List Cel} {a : Int} {c : Cel} (h : c ∈ W.take (findW W a)) : (c.1 : Int) < a := by
  rw [take_findW] at h
  have h2 := List.all_eq_true.1 (List.all_takeWhile (p := fun c : Cel => decide ((c.1 : Int) < a)) (l := W)) c h
  simpa using h2
theorem mem_drop_findW {W : List Cel} (hs : W.Pairwise (fun a b => a.1 < b.1)) {a : Int} {c : Cel} (h : c ∈ W.drop (findW W a)) : a ≤ (c.1 : Int) := by
  rw [drop_findW] at h
  induction W with
  | nil => simp at h
  | cons d t ih =>
    rw [List.pairwise_cons] at hs
    by_cases hd : (d.1 : Int) < a
    · rw [List.dropWhile_cons, if_pos (by simpa using hd)] at h
      exact ih hs.2 h
    · rw [List.dropWhile_cons, if_neg (by simpa using hd)] at h
      rcases List.mem_cons.1 h with rfl | h1
      · omega
      · have := hs.1 c h1; omega
/-- The cells with bytes put in from a on. -/
def insW (W : List Cel) (a : Nat) (xs : List UInt8) : List Cel := W.take (findW W a) ++ mkW a xs ++ W.drop (findW W a)
theorem mem_split (W : List Cel) (n : Nat) (c : Cel) : c ∈ W ↔ c ∈ W.take n ∨ c ∈ W.drop n := by
  conv => lhs; rw [← List.take_append_drop n W]
  exact List.mem_append
theorem mem_insW {W : List Cel} {a : Nat} {xs : List UInt8} {c : Cel} : c ∈ insW W a xs ↔ c ∈ W ∨ c ∈ mkW a xs := by
  unfold insW
  rw [List.mem_append, List.mem_append, mem_split W (findW W a) c]
  constructor
  · rintro ((h | h) | h) <;> simp [h]
  · rintro ((h | h) | h) <;> simp [h]
theorem insW_length (W : List Cel) (a : Nat) (xs : List UInt8) : (insW W a xs).length = W.length + xs.length := by
  have := findW_le W a
  unfold insW
  rw [List.length_append, List.length_append, mkW_length, List.length_take, List.length_drop]
  omega
theorem insW_nil (W : List Cel) (a : Nat) : insW W a [] = W := by unfold insW; simp [mkW]
theorem hasW_ins (W : List Cel) (a : Nat) (xs : List UInt8) (i : Nat) : hasW (insW W a xs) i = putH (hasW W) a xs.length i := by
  unfold putH
  rw [← hasW_mk a xs i]
  apply Bool.eq_iff_iff.2
  rw [Bool.or_eq_true, hasW_iff, hasW_iff, hasW_iff]
  constructor
  · rintro ⟨c, hc, e⟩
    rcases mem_insW.1 hc with h | h
    · exact .inl ⟨c, h, e⟩
    · exact .inr ⟨c, h, e⟩
  · rintro (⟨c, hc, e⟩ | ⟨c, hc, e⟩)
    · exact ⟨c, mem_insW.2 (.inl hc), e⟩
    · exact ⟨c, mem_insW.2 (.inr hc), e⟩
theorem anyB_hasW {W : List Cel} {a n : Nat} : anyB (fun j => hasW W (a + j)) n = true ↔ ∃ c ∈ W, a ≤ c.1 ∧ c.1 < a + n := by
  rw [anyB_iff]
  constructor
  · rintro ⟨k, hk, h⟩
    obtain ⟨c, hc, e⟩ := hasW_iff.1 h
    exact ⟨c, hc, by omega, by omega⟩
  · rintro ⟨c, hc, h1, h2⟩
    exact ⟨c.1 - a, by omega, hasW_iff.2 ⟨c, hc, by omega⟩⟩
theorem insW_sorted {W : List Cel} (hs : SortedW W) {a : Nat} {xs : List UInt8} (ha : a + xs.length ≤ 65536) (h : anyB (fun j => hasW W (a + j)) xs.length = false) : SortedW (insW W a xs) := by
  have hd : ∀ c ∈ W, ¬ (a ≤ c.1 ∧ c.1 < a + xs.length) := fun c hc hh => by
    have := anyB_hasW.2 ⟨c, hc, hh.1, hh.2⟩
    rw [h] at this; cases this
  refine ⟨?_, fun c hc => ?_⟩
  · unfold insW
    rw [List.pairwise_append, List.pairwise_append]
    refine ⟨⟨hs.1.sublist (List.take_sublist _ _), mkW_sorted a xs, fun c hc d hd' => ?_⟩, hs.1.sublist (List.drop_sublist _ _), fun c hc d hd' => ?_⟩
    · have h1 := mem_take_findW hc
      have h2 := (mkW_mem.1 hd').1
      omega
    · have h2 := mem_drop_findW hs.1 hd'
      have h4 := hd d ((mem_split W _ d).2 (.inr hd'))
      rcases List.mem_append.1 hc with h1 | h1
      · have := mem_take_findW h1; omega
      · have := mkW_mem.1 h1; omega
  · rcases mem_insW.1 hc with h1 | h1
    · exact hs.2 c h1
    · have := mkW_mem.1 h1; omega
theorem byteW_ins {W : List Cel} (hs : SortedW W) {a : Nat} {xs : List UInt8} (ha : a + xs.length ≤ 65536) (h : anyB (fun j => hasW W (a + j)) xs.length = false) (i : Nat) : byteW (insW W a xs) i = putD (byteW W) a xs i := by
  have hS := insW_sorted hs ha h
  unfold putD
  by_cases hi : a ≤ i ∧ i < a + xs.length
  · rw [if_pos hi]
    exact byteW_mem hS.1 (c := (i, xs.getD (i - a) 0)) (mem_insW.2 (.inr (mkW_mem.2 ⟨hi.1, hi.2, rfl⟩)))
  · rw [if_neg hi]
    by_cases hw : hasW W i = true
    · obtain ⟨c, hc, rfl⟩ := hasW_iff.1 hw
      rw [byteW_mem hs.1 hc]
      exact byteW_mem hS.1 (mem_insW.2 (.inl hc))
    · rw [Bool.not_eq_true] at hw
      rw [byteW_none hw]
      apply byteW_none
      rw [hasW_ins]
      unfold putH
      rw [hw, Bool.false_or, Bool.and_eq_false_iff]
      by_cases h1 : a ≤ i
      · right; exact decide_eq_false (fun h2 => hi ⟨h1, h2⟩)
      · left; exact decide_eq_false h1
/-- What Put makes: the cells and the code. -/
def codeW (W : List Cel) (n : Int) (xs : List UInt8) : Int := putE (hasW W) n xs.length
def putW (W : List Cel) (n : Int) (xs : List UInt8) : List Cel := if codeW W n xs = 0 then insW W n.toNat xs else W
theorem code_zero {W : List Cel} {n : Int} {xs : List UInt8} (h : codeW W n xs = 0) : 0 ≤ n ∧ n < 65536 ∧ n.toNat + xs.length ≤ 65536 ∧ anyB (fun j => hasW W (n.toNat + j)) xs.length = false := by
  unfold codeW putE at h
  cases ha : addrB n
  · rw [ha] at h; simp at h
  · rw [ha] at h
    unfold addrB at ha
    rw [Bool.and_eq_true, decide_eq_true_eq, decide_eq_true_eq] at ha
    by_cases hw : 65536 - n < (xs.length : Int)
    · rw [if_neg (by simp), if_pos hw] at h; simp at h
    · rw [if_neg (by simp), if_neg hw] at h
      cases hy : anyB (fun j => hasW W (n.toNat + j)) xs.length
      · exact ⟨ha.1, ha.2, by omega, rfl⟩
      · rw [hy] at h; simp at h
theorem putW_sorted {W : List Cel} (hs : SortedW W) (n : Int) (xs : List UInt8) : SortedW (putW W n xs) := by
  unfold putW
  by_cases h : codeW W n xs = 0
  · rw [if_pos h]
    obtain ⟨_, _, h3, h4⟩ := code_zero h
    exact insW_sorted hs h3 h4
  · rw [if_neg h]; exact hs
/-- The reference's test for an overlap. -/
theorem over_iff {W : List Cel} (hs : SortedW W) {a : Nat} {xs : List UInt8} (hx : xs ≠ []) :
    (∃ h : findW W a < W.length, W[findW W a].1 < a + xs.length) ↔ anyB (fun j => hasW W (a + j)) xs.length = true := by
  rw [anyB_hasW]
  constructor
  · rintro ⟨h, h1⟩
    have hm : W[findW W a] ∈ W.drop (findW W a) := by
      rw [List.drop_eq_getElem_cons h]; exact List.mem_cons_self
    have := mem_drop_findW hs.1 hm
    exact ⟨_, List.getElem_mem h, by omega, h1⟩
  · rintro ⟨c, hc, h1, h2⟩
    rcases (mem_split W (findW W a) c).1 hc with h3 | h3
    · have := mem_take_findW h3; omega
    · have hlt : findW W a < W.length := by
        rcases Nat.lt_or_ge (findW W a) W.length with h4 | h4
        · exact h4
        · rw [List.drop_eq_nil_of_le h4] at h3; cases h3
      refine ⟨hlt, ?_⟩
      rw [List.drop_eq_getElem_cons hlt] at h3
      rcases List.mem_cons.1 h3 with e | h5
      · rw [← e]; exact h2
      · have hp := hs.1.sublist (List.drop_sublist (findW W a) W)
        rw [List.drop_eq_getElem_cons hlt, List.pairwise_cons] at hp
        have := hp.1 c h5
        omega
end Go.Proofs.YtmeegpdjhcilkaaDoor.Im
/-
  The reference's cells and runs in memory; walks over breadboardref02.Find, Get, Same, Few.
-/
namespace Go.Proofs.YtmeegpdjhcilkaaDoor.Im
open Go.RowKit
set_option linter.unusedVariables false

/-- A slice of cells that reads as W, in a block that has the property P. -/
def CellsP (P : Nat → Prop) (w : World) (A : Option Addr) (W : List Cel) : Prop :=
  W = [] ∨ ∃ b off, A = some ⟨b, off, none⟩ ∧ P b ∧ ∀ j (h : j < W.length), w.cell? ⟨b, off + j * 2, none⟩ = some (.int .i64 (W[j].1 : Int)) ∧ w.cell? ⟨b, off + j * 2 + 1, none⟩ = some (.int .u8 (W[j].2.toNat : Int))
theorem CellsP.at_ {P : Nat → Prop} {w : World} {A : Option Addr} {W : List Cel} (h : CellsP P w A W) {k : Nat} (hk : k < W.length) :
    ∃ b off, A = some ⟨b, off, none⟩ ∧ w.cell? ⟨b, off + k * 2, none⟩ = some (.int .i64 (W[k].1 : Int)) ∧ w.cell? ⟨b, off + k * 2 + 1, none⟩ = some (.int .u8 (W[k].2.toNat : Int)) := by
  rcases h with rfl | ⟨b, off, rfl, _, hc⟩
  · simp at hk
  · exact ⟨b, off, rfl, (hc k hk).1, (hc k hk).2⟩
theorem CellsP.mono {P Q : Nat → Prop} {w : World} {A : Option Addr} {W : List Cel} (h : CellsP P w A W) (hPQ : ∀ i, i < w.heap.size → P i → Q i) : CellsP Q w A W := by
  by_cases hx : W = []
  · exact .inl hx
  · rcases h with rfl | ⟨b, off, rfl, hp, hc⟩
    · exact .inl rfl
    · exact .inr ⟨b, off, rfl, hPQ b (World.block_lt_of_cell? w _ (hc 0 (List.length_pos_iff.2 hx)).1) hp, hc⟩
theorem CellsP.blocks {P : Nat → Prop} {w w' : World} {A : Option Addr} {W : List Cel} (h : CellsP P w A W) (hk : ∀ i, i < w.heap.size → P i → w'.heap[i]? = w.heap[i]?) : CellsP P w' A W := by
  rcases h with rfl | ⟨b, off, rfl, hp, hc⟩
  · exact .inl rfl
  · refine .inr ⟨b, off, rfl, hp, fun j hj => ?_⟩
    have e := hk b (World.block_lt_of_cell? w _ (hc j hj).1) hp
    exact ⟨(World.cell?_of_block (w := w) e).trans (hc j hj).1, (World.cell?_of_block (w := w) e).trans (hc j hj).2⟩
theorem CellsP.below {P : Nat → Prop} {w w' : World} {A : Option Addr} {W : List Cel} (h : CellsP P w A W) (hb : Below w.heap.size w w') : CellsP P w' A W := h.blocks fun i hi _ => hb.block i hi
theorem CellsP.keep {P : Nat → Prop} {w w' : World} {b : Nat} {A : Option Addr} {W : List Cel} (h : CellsP P w A W) (hb : Keep b w w') (hP : ¬ P b) : CellsP P w' A W := h.blocks fun i hi hp => hb.block i hi fun e => hP (e ▸ hp)
theorem CellsP.drewN {P : Nat → Prop} {w : World} {A : Option Addr} {W : List Cel} (h : CellsP P w A W) (n : Nat) : CellsP P (w.drewN n) A W := h.blocks fun _ _ _ => rfl

/-- One run in memory: its address, and the slice of its bytes. -/
structure R where
  addr : Int
  A : Option Addr
  cap : Nat
  data : List UInt8
instance : Inhabited R := ⟨⟨0, none, 0, []⟩⟩
/-- A slice of runs, in a block that has the property S; the bytes' blocks have the property P. -/
def RunsP (S P : Nat → Prop) (w : World) (A : Option Addr) (rs : List R) : Prop :=
  (rs = [] ∨ ∃ b off, A = some ⟨b, off, none⟩ ∧ S b ∧ ∀ j (h : j < rs.length), w.cell? ⟨b, off + j * 2, none⟩ = some (.int .i64 rs[j].addr) ∧ w.cell? ⟨b, off + j * 2 + 1, none⟩ = some (.slice rs[j].A rs[j].data.length rs[j].cap)) ∧
  ∀ r ∈ rs, BytesP P w r.A r.data
theorem RunsP.at_ {S P : Nat → Prop} {w : World} {A : Option Addr} {rs : List R} (h : RunsP S P w A rs) {k : Nat} (hk : k < rs.length) :
    ∃ b off, A = some ⟨b, off, none⟩ ∧ w.cell? ⟨b, off + k * 2, none⟩ = some (.int .i64 rs[k].addr) ∧ w.cell? ⟨b, off + k * 2 + 1, none⟩ = some (.slice rs[k].A rs[k].data.length rs[k].cap) := by
  rcases h.1 with rfl | ⟨b, off, rfl, _, hc⟩
  · simp at hk
  · exact ⟨b, off, rfl, (hc k hk).1, (hc k hk).2⟩
theorem RunsP.mono {S T P Q : Nat → Prop} {w : World} {A : Option Addr} {rs : List R} (h : RunsP S P w A rs) (hST : ∀ i, i < w.heap.size → S i → T i) (hPQ : ∀ i, i < w.heap.size → P i → Q i) : RunsP T Q w A rs := by
  refine ⟨?_, fun r hr => (h.2 r hr).mono hPQ⟩
  by_cases hx : rs = []
  · exact .inl hx
  · rcases h.1 with rfl | ⟨b, off, rfl, hp, hc⟩
    · exact .inl rfl
    · exact .inr ⟨b, off, rfl, hST b (World.block_lt_of_cell? w _ (hc 0 (List.length_pos_iff.2 hx)).1) hp, hc⟩
theorem RunsP.blocks {S P : Nat → Prop} {w w' : World} {A : Option Addr} {rs : List R} (h : RunsP S P w A rs) (hs : ∀ i, i < w.heap.size → S i → w'.heap[i]? = w.heap[i]?) (hk : ∀ i, i < w.heap.size → P i → w'.heap[i]? = w.heap[i]?) : RunsP S P w' A rs := by
  refine ⟨?_, fun r hr => (h.2 r hr).blocks hk⟩
  rcases h.1 with rfl | ⟨b, off, rfl, hp, hc⟩
  · exact .inl rfl
  · refine .inr ⟨b, off, rfl, hp, fun j hj => ?_⟩
    have e := hs b (World.block_lt_of_cell? w _ (hc j hj).1) hp
    exact ⟨(World.cell?_of_block (w := w) e).trans (hc j hj).1, (World.cell?_of_block (w := w) e).trans (hc j hj).2⟩
theorem RunsP.below {S P : Nat → Prop} {w w' : World} {A : Option Addr} {rs : List R} (h : RunsP S P w A rs) (hb : Below w.heap.size w w') : RunsP S P w' A rs := h.blocks (fun i hi _ => hb.block i hi) fun i hi _ => hb.block i hi
theorem RunsP.keep {S P : Nat → Prop} {w w' : World} {b : Nat} {A : Option Addr} {rs : List R} (h : RunsP S P w A rs) (hb : Keep b w w') (hS : ¬ S b) (hP : ¬ P b) : RunsP S P w' A rs := h.blocks (fun i hi hp => hb.block i hi fun e => hS (e ▸ hp)) fun i hi hp => hb.block i hi fun e => hP (e ▸ hp)
theorem RunsP.drewN {S P : Nat → Prop} {w : World} {A : Option Addr} {rs : List R} (h : RunsP S P w A rs) (n : Nat) : RunsP S P (w.drewN n) A rs := h.blocks (fun _ _ _ => rfl) fun _ _ _ => rfl

set_option maxHeartbeats 400000 in
theorem find_any (P : Nat → Prop) (A : Option Addr) (cap : Nat) (W : List Cel) (hl : W.length ≤ maxLen) (a : Int) (w : World) (hW : CellsP P w A W) :
    Calls Tryd.prog 61 #[.slice A W.length cap, .int .i64 a] w fun e w' => e = .returned (.int .i64 (findW W a)) ∧ w = w' := by
  unfold maxLen at hl
  have Z := Lib.hid hW
  clear hW
  go_enter Tryd.func61, Tryd.ntmps61
  go_wp2
  go_loop [5] (fun i => ∃ k : Nat, k ≤ W.length ∧ i = .int .i64 k ∧ Hid (∀ j (h : j < W.length), j < k → (W[j].1 : Int) < a)) (fun i => W.length - (intOf i).toNat)
  case atStart => exact ⟨0, Nat.zero_le _, rfl, fun j h h' => by omega⟩
  case round =>
    obtain ⟨k, hk, rfl, R⟩ := hrel
    by_cases hlt : k < W.length
    · obtain ⟨b, off, hA, g1, g2⟩ := Z.out.at_ hlt
      subst hA
      obtain ⟨x, hx⟩ : ∃ x : Int, (W[k].1 : Int) = x := ⟨_, rfl⟩
      rw [hx] at g1
      have X := Lib.hid hx
      clear hx g2
      have hlt' : (k : Int) < (W.length : Int) := by omega
      by_cases h1 : x < a
      · have N : Hid (∀ j (h : j < W.length), j < k + 1 → (W[j].1 : Int) < a) := fun j h h' => by
          by_cases e : j = k
          · subst e; rw [X.out]; exact h1
          · exact R.out j h (by omega)
        go_wp2
        go_round
        case rel => exact ⟨k + 1, by omega, by go_num, N⟩
        case measure => simp [intOf]; omega
      · have N : Hid (findW W a = k) := findW_of W a k hk R.out fun h => by rw [X.out]; exact h1
        go_wp2
        go_ret
        exact ⟨ret_int (by rw [N.out]), rfl⟩
    · have N : Hid (findW W a = k) := findW_of W a k hk R.out fun h => absurd h hlt
      have hlt' : decide ((k : Int) < (W.length : Int)) = false := decide_eq_false (by omega)
      go_wp2
      go_ret
      exact ⟨ret_int (by rw [N.out]), rfl⟩

/-- What Get of the reference answers: the byte, or 0. -/
def getV (W : List Cel) (a : Int) : UInt8 := if addrB a then byteW W a.toNat else 0
def getOk (W : List Cel) (a : Int) : Bool := addrB a && hasW W a.toNat
theorem get_hit {W : List Cel} (hs : SortedW W) (a : Int) (k : Nat) (hk : k < W.length) (h : (W[k].1 : Int) = a) : getV W a = W[k].2 ∧ getOk W a = true := by
  have hm := List.getElem_mem hk
  have h1 := hs.2 _ hm
  have ha : addrB a = true := by unfold addrB; rw [decide_eq_true (by omega), decide_eq_true (by omega)]; rfl
  have e : a.toNat = W[k].1 := by omega
  unfold getV getOk
  rw [ha, e]
  exact ⟨by rw [if_pos rfl]; exact byteW_mem hs.1 hm, by rw [Bool.true_and]; exact hasW_iff.2 ⟨_, hm, rfl⟩⟩
theorem get_miss {W : List Cel} (hs : SortedW W) (a : Int) (h : ∀ h : findW W a < W.length, (W[findW W a].1 : Int) ≠ a) : getV W a = 0 ∧ getOk W a = false := by
  cases ha : addrB a
  · unfold getV getOk; rw [ha]; exact ⟨rfl, rfl⟩
  · have hw : hasW W a.toNat = false := hasW_false.2 fun c hc e => by
      have h0 : (c.1 : Int) = a := by
        unfold addrB at ha
        rw [Bool.and_eq_true, decide_eq_true_eq, decide_eq_true_eq] at ha
        omega
      rcases (mem_split W (findW W a) c).1 hc with h3 | h3
      · have := mem_take_findW h3; omega
      · have hlt : findW W a < W.length := by
          rcases Nat.lt_or_ge (findW W a) W.length with h4 | h4
          · exact h4
          · rw [List.drop_eq_nil_of_le h4] at h3; cases h3
        have hne := h hlt
        have hp := hs.1.sublist (List.drop_sublist (findW W a) W)
        have hd : ∀ c ∈ W.drop (findW W a), a ≤ (c.1 : Int) := fun c hc => mem_drop_findW hs.1 hc
        rw [List.drop_eq_getElem_cons hlt] at h3 hp hd
        have h6 := hd _ List.mem_cons_self
        rw [List.pairwise_cons] at hp
        rcases List.mem_cons.1 h3 with e2 | h5
        · rw [e2] at h0; exact hne h0
        · have := hp.1 c h5; omega
    unfold getV getOk
    rw [ha, hw, byteW_none hw]
    exact ⟨rfl, rfl⟩
theorem ret_u8b {a b : UInt8} {p q : Bool} (h : a = b) (h' : p = q) : Ending.returned (.tuple #[.int .u8 (a.toNat : Int), .bool p]) = .returned (.tuple #[.int .u8 (b.toNat : Int), .bool q]) := by rw [h, h']
/-- Are the runs few and short? -/
def sumR (rs : List R) : Nat := (rs.map fun r => min r.data.length 5000).sum
def fewB (rs : List R) : Bool := decide (rs.length ≤ 60) && decide (sumR rs ≤ 3000)
theorem sumR_take (rs : List R) (k : Nat) (hk : k < rs.length) : sumR (rs.take (k + 1)) = sumR (rs.take k) + min rs[k].data.length 5000 := by
  unfold sumR
  rw [List.take_succ_eq_append_getElem hk, List.map_append, List.sum_append]
  simp only [List.map_cons, List.map_nil, List.sum_cons, List.sum_nil, Nat.add_zero]
theorem sumR_le (rs : List R) : sumR rs ≤ rs.length * 5000 := by
  unfold sumR
  induction rs with
  | nil => simp
  | cons r t ih => simp only [List.map_cons, List.sum_cons, List.length_cons]; omega
set_option maxHeartbeats 400000 in
theorem few_any (S P : Nat → Prop) (A : Option Addr) (cap : Nat) (rs : List R) (hl : rs.length ≤ 140737488355328) (w : World) (hW : RunsP S P w A rs) (hd : ∀ r ∈ rs, r.data.length ≤ maxLen) :
    Calls Tryd.prog 9 #[.slice A rs.length cap] w fun e w' => e = .returned (.bool (fewB rs)) ∧ w = w' := by
  have Z := Lib.hid hW
  have HD := Lib.hid hd
  clear hW hd
  go_enter Tryd.func9, Tryd.ntmps9
  go_wp2
  go_loop [3, 4] (fun n i => ∃ k m : Nat, k ≤ rs.length ∧ i = .int .i64 k ∧ n = .int .i64 m ∧ m ≤ k * 5000 ∧ Hid (sumR (rs.take k) = m)) (fun _ i => rs.length - (intOf i).toNat)
  case atStart => exact ⟨0, 0, Nat.zero_le _, rfl, rfl, by omega, rfl⟩
  case round =>
    obtain ⟨k, m, hk, rfl, rfl, hm, R⟩ := hrel
    by_cases hlt : k < rs.length
    · obtain ⟨b, off, hA, g1, g2⟩ := Z.out.at_ hlt
      subst hA
      have hdk := HD.out _ (List.getElem_mem hlt)
      obtain ⟨x, hx⟩ : ∃ x : Nat, rs[k].data.length = x := ⟨_, rfl⟩
      have N : Hid (sumR (rs.take (k + 1)) = m + min x 5000) := by
        have h := sumR_take rs k hlt
        rw [R.out, hx] at h
        exact h
      rw [hx] at g2 hdk
      unfold maxLen at hdk
      clear hx g1
      have hlt' : (k : Int) < (rs.length : Int) := by omega
      go_wp2
      go_round
      case rel => exact ⟨k + 1, m + min x 5000, by omega, by go_num, by go_num, by omega, N⟩
      case measure => simp [intOf]; omega
    · have hk' : k = rs.length := by omega
      have N : Hid (sumR rs = m) := by
        have h := R.out
        rwa [List.take_of_length_le (by omega)] at h
      have hlt' : decide ((k : Int) < (rs.length : Int)) = false := decide_eq_false (by omega)
      clear hk'
      by_cases h60 : rs.length ≤ 60
      · have F : Hid (fewB rs = decide ((m : Int) ≤ 3000)) := by
          show fewB rs = _
          unfold fewB
          rw [decide_eq_true h60, N.out, Bool.true_and]
          exact decide_eq_decide.2 (by omega)
        have h60' : (rs.length : Int) ≤ 60 := by omega
        go_wp2
        go_ret
        exact ⟨ret_bool F.out.symm, rfl⟩
      · have F : Hid (fewB rs = false) := by
          show fewB rs = _
          unfold fewB
          rw [decide_eq_false h60]; rfl
        have h60' : decide ((rs.length : Int) ≤ 60) = false := decide_eq_false (by omega)
        go_wp2
        go_ret
        exact ⟨ret_bool F.out.symm, rfl⟩
end Go.Proofs.YtmeegpdjhcilkaaDoor.Im
/-
  Rows of cells of the call's own, and appending to them; the walk over breadboardref02.Put.
-/
namespace Go.Proofs.YtmeegpdjhcilkaaDoor.Im
open Go.RowKit
set_option linter.unusedVariables false

/-! ### append from whatever slice, also an empty one -/
theorem run_append_nothing (w : World) (base : Nat) (t ty e : TypeId) (size : Nat) (ht : Tryd.prog.underlying t = some (.slice e)) (hs : ∀ w, (sizeOf e).run Tryd.prog w = .ok size w)
    (v : Value) (n : Nat) (xs : List Value) (hown : w.ownsRow base e size v n xs) (A : Option Addr) (c : Nat) :
    (Builtin.append_ #[t, t] ty #[v, .slice A 0 c]).run Tryd.prog w = .ok v w := by
  have h0 : ∀ x, (loadCells x 0).run Tryd.prog w = .ok #[] w := fun x => by simpa using run_loadCells_list (P := Tryd.prog) w x [] (by simp)
  rcases hown.2 with ⟨rfl, h⟩ | ⟨g, cap, cur, rfl, hb, hg, hm, hle, _⟩
  · cases A <;> simp [Builtin.append_, run_underlying ht, hs, Builtin.lenOf, Builtin.firstCells, h0]
  · cases A <;> simp [Builtin.append_, run_underlying ht, hs, Builtin.lenOf, Builtin.firstCells, h0, hm, storeCells] <;> omega
theorem run_append_src (w : World) (base : Nat) (t ty e : TypeId) (i : TypeInfo) (z : Value) (size bytes : Nat) (ht : Tryd.prog.underlying t = some (.slice e)) (hi : Tryd.prog.info? e = some i) (hz : i.zero = some z)
    (hsize : i.size = size) (hby : i.bytes = bytes) (hzs : z.cells.size = size) (hsz : 0 < size)
    (v : Value) (n : Nat) (xs : List Value) (hown : w.ownsRow base e size v n xs)
    (A : Option Addr) (m c : Nat) (news : List Value) (hl : news.length = m * size) (hnews : m = 0 ∨ ∃ a, A = some a ∧ ∀ j u, news[j]? = some u → w.cell? (a.add j) = some u) (h1 : ∀ u ∈ news, u.oneCell' = true)
    (h63 : n + m ≤ maxLen) (hbytes : (n + m) * bytes ≤ 140737488355328) (hbase : base ≤ w.heap.size) :
    ∃ v' w', (Builtin.append_ #[t, t] ty #[v, .slice A m c]).run Tryd.prog w = .ok v' w' ∧ w'.ownsRow base e size v' (n + m) (xs ++ news) ∧ w.grownBy w' v.ownBlock := by
  by_cases hm : m = 0
  · subst hm
    have hn0 : news = [] := List.eq_nil_of_length_eq_zero (by omega)
    subst hn0
    refine ⟨v, w, run_append_nothing w base t ty e size ht (fun w => ?_) v n xs hown A c, ?_, World.grownBy.refl _ _⟩
    · simp [sizeOf, typeInfo, hi, hsize]
    · simpa using hown
  · obtain ⟨a, rfl, hn⟩ := hnews.resolve_left hm
    obtain ⟨v', w', h2, h3, h4, _⟩ := run_append_own (P := Tryd.prog) w base t ty e i z size bytes ht hi hz hsize hby hzs hsz v n xs hown a m c news hl hn h1 h63 hbytes hbase
    exact ⟨v', w', h2, h3, h4⟩

/-! ### Rows of cells -/
def cellsV (W : List Cel) : List Value := W.flatMap fun c => [.int .i64 (c.1 : Int), .int .u8 (c.2.toNat : Int)]
theorem cellsV_append (V W : List Cel) : cellsV (V ++ W) = cellsV V ++ cellsV W := by unfold cellsV; rw [List.flatMap_append]
theorem cellsV_length (W : List Cel) : (cellsV W).length = W.length * 2 := by
  induction W with
  | nil => rfl
  | cons c t ih =>
    have : cellsV (c :: t) = [.int .i64 (c.1 : Int), .int .u8 (c.2.toNat : Int)] ++ cellsV t := rfl
    rw [this, List.length_append, ih]
    simp only [List.length_cons, List.length_nil]
    omega
theorem cellsV_get (W : List Cel) (j : Nat) (h : j < W.length) : (cellsV W)[j * 2]? = some (.int .i64 (W[j].1 : Int)) ∧ (cellsV W)[j * 2 + 1]? = some (.int .u8 (W[j].2.toNat : Int)) := by
  induction W generalizing j with
  | nil => simp at h
  | cons c t ih =>
    have e : cellsV (c :: t) = .int .i64 (c.1 : Int) :: .int .u8 (c.2.toNat : Int) :: cellsV t := rfl
    cases j with
    | zero => rw [e]; exact ⟨rfl, rfl⟩
    | succ j =>
      obtain ⟨h1, h2⟩ := ih j (by simpa using h)
      rw [e, show (j + 1) * 2 = j * 2 + 1 + 1 by omega]
      simp only [List.getElem?_cons_succ, List.getElem_cons_succ]
      exact ⟨h1, h2⟩
theorem cellsV_at {W : List Cel} {j : Nat} {u : Value} (h : (cellsV W)[j]? = some u) : ∃ k, ∃ hk : k < W.length, (j = k * 2 ∧ u = .int .i64 (W[k].1 : Int)) ∨ (j = k * 2 + 1 ∧ u = .int .u8 (W[k].2.toNat : Int)) := by
  have hj : j < W.length * 2 := by
    rw [← cellsV_length]
    exact (List.getElem?_eq_some_iff.1 h).1
  have hk : j / 2 < W.length := by omega
  refine ⟨j / 2, hk, ?_⟩
  obtain ⟨h1, h2⟩ := cellsV_get W (j / 2) hk
  rcases Nat.mod_two_eq_zero_or_one j with e | e
  · left
    have e2 : j = j / 2 * 2 := by omega
    rw [← e2, h] at h1
    exact ⟨e2, Option.some.inj h1⟩
  · right
    have e2 : j = j / 2 * 2 + 1 := by omega
    rw [← e2, h] at h2
    exact ⟨e2, Option.some.inj h2⟩
theorem CellsP.news {P : Nat → Prop} {w : World} {A : Option Addr} {W : List Cel} (h : CellsP P w A W) : W.length = 0 ∨ ∃ a, A = some a ∧ ∀ j u, (cellsV W)[j]? = some u → w.cell? (a.add j) = some u := by
  rcases h with rfl | ⟨b, off, rfl, _, hc⟩
  · exact .inl rfl
  · refine .inr ⟨_, rfl, fun j u hu => ?_⟩
    have hadd : (⟨b, off, none⟩ : Addr).add j = ⟨b, off + j, none⟩ := by unfold Addr.add; split <;> simp_all
    rw [hadd]
    obtain ⟨k, hk, ⟨rfl, rfl⟩ | ⟨rfl, rfl⟩⟩ := cellsV_at hu
    · exact (hc k hk).1
    · exact (hc k hk).2
theorem cellsV_one (W : List Cel) : ∀ u ∈ cellsV W, u.oneCell' = true := by
  intro u hu
  unfold cellsV at hu
  obtain ⟨c, _, h⟩ := List.mem_flatMap.1 hu
  simp only [List.mem_cons, List.not_mem_nil, or_false] at h
  rcases h with rfl | rfl <;> rfl
/-- v is a row of the call's own (made since w) that holds W. -/
def OwnC (w wr : World) (v : Value) (W : List Cel) : Prop := wr.ownsRow w.heap.size 110 2 v W.length (cellsV W) ∧ Below w.heap.size w wr
theorem ownC_start (w : World) : OwnC w w (.slice none 0 0) [] := ⟨World.ownsRow_nil _ _ _ _, Below.refl _ _⟩
theorem OwnC.alloc {w wr : World} {v : Value} {W : List Cel} (h : OwnC w wr v W) (o : Obj) : OwnC w (wr.alloc o) v W := ⟨h.1.alloc o, h.2.alloc h.2.size o⟩
theorem OwnC.cellsP {w wr : World} {v : Value} {W : List Cel} (h : OwnC w wr v W) : ∃ A cap, v = .slice A W.length cap ∧ W.length ≤ cap ∧ CellsP (w.heap.size ≤ ·) wr A W := by
  rcases h.1.2 with ⟨rfl, h0⟩ | ⟨g, cap, cur, rfl, hb, _, hm, hcs⟩
  · have := List.eq_nil_of_length_eq_zero h0
    subst this
    exact ⟨none, 0, rfl, Nat.le_refl _, .inl rfl⟩
  · refine ⟨_, cap, rfl, by first | exact hm | exact hm.1 | exact hcs.1 | omega, .inr ⟨g, 0, rfl, hb, fun j hj => ?_⟩⟩
    obtain ⟨h1, h2⟩ := cellsV_get W j hj
    rw [Nat.zero_add, h.1.cellAt (j * 2) (by omega), h.1.cellAt (j * 2 + 1) (by omega)]
    exact ⟨h1, h2⟩
theorem info_cell : (Tryd.prog.info? 110).map (fun i => (i.zero, i.size, i.bytes)) = some (some (.agg #[.int .i64 0, .int .u8 0]), 2, 16) := by kernel_rfl
theorem append_cells {w wr : World} {v : Value} {W : List Cel} (h : OwnC w wr v W) {P : Nat → Prop} {A : Option Addr} {V : List Cel} (hV : CellsP P wr A V) (c : Nat) (hlen : W.length + V.length ≤ 8796093022208) (ty : TypeId) :
    ∃ v' w', (Builtin.append_ #[24, 24] ty #[v, .slice A V.length c]).run Tryd.prog wr = .ok v' w' ∧ OwnC w w' v' (W ++ V) := by
  obtain ⟨i0, hi, hz0, hz1, hz2⟩ := info_parts info_cell
  obtain ⟨v', w', h1, h2, h3⟩ := run_append_src wr w.heap.size 24 ty 110 i0 _ 2 16 Tryd.underlying24 hi hz0 hz1 hz2 rfl (by decide) v W.length _ h.1 A V.length c (cellsV V)
    (cellsV_length V) hV.news (cellsV_one V) (by unfold maxLen; omega) (by omega) h.2.size
  refine ⟨v', w', h1, ?_, h.2.grown h3 h.2.size fun k hk => (h.1.lt k hk).1⟩
  rw [List.length_append, cellsV_append]
  exact h2
theorem wpList_appC {w wr : World} {v : Value} {W : List Cel} (h : OwnC w wr v W) {P : Nat → Prop} {A : Option Addr} {V : List Cel} (hV : CellsP P wr A V) (m c : Nat) (hm : m = V.length) (hlen : W.length + V.length ≤ 8796093022208)
    {ops : Array Oper} {rest : List Oper} {o : Oper} {a : Act} {Q : Exit → Act → World → Prop} (hgd : o.guard = none) (s x : Operand)
    (ho : o.op = .call { callee := .builtin .append, args := #[s, x], argTypes := #[24, 24] }) (hs : a.eval s = v) (hx : a.eval x = .slice A m c)
    (hk : ∀ v' w1, OwnC w w1 v' (W ++ V) → wpList Tryd.prog ops Q rest (a.put o.dst v') w1) : wpList Tryd.prog ops Q (o :: rest) a wr := by
  subst hm
  obtain ⟨v', w', h1, h2⟩ := append_cells h hV c hlen o.type
  refine wpList_plain hgd fun K hK => ?_
  unfold Oper.wp
  simp [execOp, ho, resolve, invoke, builtin, hs, hx, h1, Result.andThen]
  exact hK _ _ (hk _ _ h2)
theorem cell_one (wr : World) (a : Nat) (x : UInt8) (n m : Int) (hn : n = a) (hm : m = x.toNat) : CellsP (fun _ => True) (wr.alloc (.cells #[.int .i64 n, .int .u8 m] 110)) (some ⟨wr.heap.size, 0, none⟩) [(a, x)] := by
  subst hn hm
  refine .inr ⟨_, 0, rfl, trivial, fun j hj => ?_⟩
  have : j = 0 := by simpa using hj
  subst this
  simp [go_sem]
theorem mk_take (a : Nat) (xs : List UInt8) (k : Nat) (h : k < xs.length) : mkW a (xs.take (k + 1)) = mkW a (xs.take k) ++ [(a + k, xs[k])] := by
  rw [List.take_succ_eq_append_getElem h, mkW_append, List.length_take, Nat.min_eq_left (by omega)]
  rfl

/-- What the reference's Put returns: cells W' and a code. -/
def RetCells (P : Nat → Prop) (w : World) (W : List Cel) (c : Int) (e : Ending) (w' : World) : Prop :=
  ∃ A cap, e = .returned (.tuple #[.slice A W.length cap, .int .i64 c]) ∧ W.length ≤ cap ∧ CellsP P w' A W ∧ Below w.heap.size w w'
end Go.Proofs.YtmeegpdjhcilkaaDoor.Im
