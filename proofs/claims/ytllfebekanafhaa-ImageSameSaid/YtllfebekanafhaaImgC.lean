/-
  Walks over (*image.Image).Get, Len and Put: for every image, address and bytes.
-/
import Derived.Test.YtllfebekanafhaaImgB
import Derived.Laws.CopyOwn
import Derived.Laws.IdiomCopy
namespace Go.Proofs.Ytllfebekanafhaa
open Go.RowKit
set_option linter.unusedVariables false

/-! ### Slices of bytes: their blocks have the property P -/
def BytesP (P : Nat → Prop) (w : World) (A : Option Addr) (xs : List UInt8) : Prop :=
  xs = [] ∨ ∃ b off, A = some ⟨b, off, none⟩ ∧ P b ∧ ∀ j (h : j < xs.length), w.cell? ⟨b, off + j, none⟩ = some (.int .u8 (xs[j].toNat : Int))
theorem BytesP.at_ {P : Nat → Prop} {w : World} {A : Option Addr} {xs : List UInt8} (h : BytesP P w A xs) {k : Nat} (hk : k < xs.length) : ∃ b off, A = some ⟨b, off, none⟩ ∧ w.cell? ⟨b, off + k, none⟩ = some (.int .u8 (xs[k].toNat : Int)) := by
  rcases h with rfl | ⟨b, off, rfl, _, hc⟩
  · simp at hk
  · exact ⟨b, off, rfl, hc k hk⟩
theorem BytesP.mono {P Q : Nat → Prop} {w : World} {A : Option Addr} {xs : List UInt8} (h : BytesP P w A xs) (hPQ : ∀ i, i < w.heap.size → P i → Q i) : BytesP Q w A xs := by
  by_cases hx : xs = []
  · exact .inl hx
  · rcases h with rfl | ⟨b, off, rfl, hp, hc⟩
    · exact .inl rfl
    · exact .inr ⟨b, off, rfl, hPQ b (World.block_lt_of_cell? w _ (hc 0 (List.length_pos_iff.2 hx))) hp, hc⟩
theorem BytesP.blocks {P : Nat → Prop} {w w' : World} {A : Option Addr} {xs : List UInt8} (h : BytesP P w A xs) (hk : ∀ i, i < w.heap.size → P i → w'.heap[i]? = w.heap[i]?) : BytesP P w' A xs := by
  rcases h with rfl | ⟨b, off, rfl, hp, hc⟩
  · exact .inl rfl
  · refine .inr ⟨b, off, rfl, hp, fun j hj => ?_⟩
    exact (World.cell?_of_block (w := w) (hk b (World.block_lt_of_cell? w _ (hc j hj)) hp)).trans (hc j hj)
theorem BytesP.below {P : Nat → Prop} {w w' : World} {A : Option Addr} {xs : List UInt8} (h : BytesP P w A xs) (hb : Below w.heap.size w w') : BytesP P w' A xs := h.blocks fun i hi _ => hb.block i hi
theorem BytesP.keep {P : Nat → Prop} {w w' : World} {b : Nat} {A : Option Addr} {xs : List UInt8} (h : BytesP P w A xs) (hb : Keep b w w') (hP : ¬ P b) : BytesP P w' A xs := h.blocks fun i hi hp => hb.block i hi fun e => hP (e ▸ hp)
theorem BytesP.drewN {P : Nat → Prop} {w : World} {A : Option Addr} {xs : List UInt8} (h : BytesP P w A xs) (n : Nat) : BytesP P (w.drewN n) A xs := h.blocks fun _ _ _ => rfl

/-! ### Get and Len -/
theorem len_any (b : Nat) (H : Nat → Bool) (c : Int) (D : Nat → UInt8) (w : World) (hI : ImgF w b H c D) :
    Calls Try.prog 25 #[.pointer (some ⟨b, 0, none⟩)] w fun e w' => e = .returned (.int .i64 c) ∧ w = w' := by
  have g := hI.cellN
  clear hI
  go_enter Try.func25, Try.ntmps25
  go_wp2
  go_ret
  exact ⟨rfl, rfl⟩
theorem lenNil_any (w : World) : Calls Try.prog 25 #[.pointer none] w fun e w' => e = .returned (.int .i64 0) ∧ w = w' := by
  go_enter Try.func25, Try.ntmps25
  go_wp2
  go_ret
  exact ⟨rfl, rfl⟩
set_option maxHeartbeats 400000 in
theorem get_any (b : Nat) (H : Nat → Bool) (c : Int) (D : Nat → UInt8) (n : Int) (w : World) (hI : ImgF w b H c D) (hD : ∀ i, i < 65536 → H i = false → D i = 0) :
    Calls Try.prog 18 #[.pointer (some ⟨b, 0, none⟩), .int .i64 n] w fun e w' =>
      e = .returned (.tuple #[.int .u8 (if addrB n then ((D n.toNat).toNat : Int) else 0), .bool (addrB n && H n.toNat)]) ∧ w = w' := by
  have I := Lib.hid hI
  clear hI
  obtain ⟨r, hr⟩ : ∃ r, (addrB n && H n.toNat) = r := ⟨_, rfl⟩
  have hc := fun w h => has_any b H c D n w h
  rw [hr] at hc ⊢
  cases r
  · have hv : (if addrB n then ((D n.toNat).toNat : Int) else 0) = 0 := by
      cases ha : addrB n
      · rfl
      · rw [ha, Bool.true_and] at hr
        unfold addrB at ha
        rw [Bool.and_eq_true, decide_eq_true_eq, decide_eq_true_eq] at ha
        simp [hD n.toNat (by omega) hr]
    rw [hv]
    clear hr hv hD
    go_enter Try.func18, Try.ntmps18
    go_wp2_with fail
    refine (hc _ I.out).mono ?_
    rintro e w1 ⟨rfl, rfl⟩
    go_wp2
    go_ret2
    exact ⟨rfl, rfl⟩
  · rw [Bool.and_eq_true] at hr
    obtain ⟨ha, hH⟩ := hr
    have hv : (if addrB n then ((D n.toNat).toNat : Int) else 0) = ((D n.toNat).toNat : Int) := by rw [if_pos ha]
    rw [hv]
    unfold addrB at ha
    rw [Bool.and_eq_true, decide_eq_true_eq, decide_eq_true_eq] at ha
    obtain ⟨h0, h1⟩ := ha
    obtain ⟨k, rfl⟩ : ∃ k : Nat, n = k := ⟨n.toNat, by omega⟩
    have g := I.out.cellD (i := k) (by omega)
    have hk : ((k : Int)).toNat = k := by omega
    rw [hk]
    clear hv hD hH hk
    go_enter Try.func18, Try.ntmps18
    go_wp2_with fail
    refine (hc _ I.out).mono ?_
    rintro e w1 ⟨rfl, rfl⟩
    go_wp2
    go_ret2
    exact ⟨rfl, rfl⟩
theorem getNil_any (n : Int) (w : World) : Calls Try.prog 18 #[.pointer none, .int .i64 n] w fun e w' => e = .returned (.tuple #[.int .u8 0, .bool false]) ∧ w = w' := by
  go_enter Try.func18, Try.ntmps18
  go_wp2
  go_ret2
  exact ⟨rfl, rfl⟩

/-! ### Put -/
/-- The bytes behind a copy of xs to k. -/
def putD (D : Nat → UInt8) (k : Nat) (xs : List UInt8) (i : Nat) : UInt8 := if k ≤ i ∧ i < k + xs.length then xs.getD (i - k) 0 else D i
def putH (H : Nat → Bool) (k n : Nat) (i : Nat) : Bool := H i || (decide (k ≤ i) && decide (i < k + n))
theorem info_u8 : (Try.prog.info? 5).map (fun i => (i.zero, i.size, i.bytes)) = some (some (.int .u8 0), 1, 1) := by kernel_rfl
theorem size_u8 : (Try.prog.info? 5).map (·.size) = some 1 := by kernel_rfl
theorem copy_img {w : World} {b : Nat} {H : Nat → Bool} {c : Int} {D : Nat → UInt8} (hI : ImgF w b H c D) {P : Nat → Prop} {A : Option Addr} {xs : List UInt8} (hx : BytesP P w A xs) (k cap : Nat) (hk : k + xs.length ≤ 65536) (ty : TypeId) :
    ∃ w', (Builtin.copy_ #[28, 28] ty #[.slice (some ⟨b, 65537 + k, none⟩) (65536 - k) (65536 - k), .slice A xs.length cap]).run Try.prog w = .ok (goInt xs.length) w' ∧ ImgF w' b H c (putD D k xs) ∧ Keep b w w' := by
  have hm : xs.length = Nat.min xs.length (65536 - k) := (Nat.min_eq_left (by omega)).symm
  by_cases h0 : xs = []
  · subst h0
    refine ⟨w, run_copy_none w _ _ _ 5 _ _ _ _ _ _ Try.underlying28 size_u8 (by simp), hI.congr (fun _ _ => rfl) fun i _ => ?_, Keep.refl _ _⟩
    unfold putD; rw [if_neg (fun h => by have h2 := h.2; simp only [List.length_nil] at h2; omega)]
  · rcases hx with rfl | ⟨g, off, rfl, _, hc⟩
    · exact absurd rfl h0
    · obtain ⟨cur, hg, hsz, hcur⟩ := hI
      have hlen : (xs.map fun u => Value.int .u8 (u.toNat : Int)).length = xs.length := List.length_map _
      have hrun := run_copy_row (P := Try.prog) w 28 28 ty 5 b (65537 + k) (65536 - k) (65536 - k) ⟨g, off, none⟩ xs.length cap cur 62 (xs.map fun u => .int .u8 (u.toNat : Int))
        Try.underlying28 size_u8 hg (by rw [hlen]; exact hm) (fun j v hj => by
          rw [List.getElem?_map] at hj
          by_cases hjl : j < xs.length
          · rw [List.getElem?_eq_getElem hjl] at hj
            simp only [Option.map_some, Option.some.injEq] at hj
            subst hj
            have := hc j hjl
            unfold Addr.add
            by_cases e : j = 0
            · subst e; simpa using this
            · rw [if_neg e]; exact this
          · rw [List.getElem?_eq_none (by omega)] at hj; cases hj) (by rw [hlen, hsz]; omega) (fun v hv => by
          obtain ⟨u, _, rfl⟩ := List.mem_map.1 hv; rfl)
      rw [hlen] at hrun
      refine ⟨_, hrun, ?_, ⟨rfl, rfl, rfl, by simp, fun i hi hn => setRow_other w b i _ (by omega)⟩⟩
      refine ⟨_, setRow_heap w b cur _ _ _ hg, ?_, fun i hi => ?_⟩
      · simp only [List.size_toArray, List.length_append, List.length_take, List.length_drop, List.length_map, Array.length_toList, hsz]
        omega
      · rw [List.getElem?_toArray, List.append_assoc]
        have hl1 : (cur.toList.take (65537 + k)).length = 65537 + k := by rw [List.length_take, Array.length_toList, hsz]; omega
        by_cases h1 : i < 65537 + k
        · rw [List.getElem?_append_left (by omega), List.getElem?_take, if_pos h1, Array.getElem?_toList, hcur i hi]
          unfold imgV putD
          by_cases h2 : i < 65536
          · rw [if_pos h2, if_pos h2]
          · rw [if_neg h2, if_neg h2]
            by_cases h3 : i = 65536
            · rw [if_pos h3, if_pos h3]
            · rw [if_neg h3, if_neg h3, if_neg (by omega)]
        · rw [List.getElem?_append_right (by omega), hl1]
          by_cases h2 : i < 65537 + k + xs.length
          · rw [List.getElem?_append_left (by rw [hlen]; omega), List.getElem?_map, List.getElem?_eq_getElem (by omega)]
            unfold imgV putD
            rw [if_neg (by omega), if_neg (by omega), if_pos (by omega)]
            simp only [Option.map_some, List.getD_eq_getElem?_getD]
            rw [show i - 65537 - k = i - (65537 + k) by omega, List.getElem?_eq_getElem (by omega)]
            rfl
          · rw [List.getElem?_append_right (by rw [hlen]; omega), hlen, List.getElem?_drop, show 65537 + k + xs.length + (i - (65537 + k) - xs.length) = i by omega, Array.getElem?_toList, hcur i hi]
            unfold imgV putD
            rw [if_neg (by omega), if_neg (by omega), if_neg (by omega), if_neg (by omega), if_neg (by omega)]

/-- What Put answers at an image: the code. -/
def putE (H : Nat → Bool) (n : Int) (m : Nat) : Int :=
  if addrB n = false then 2 else if (65536 - n < (m : Int)) then 10 else if anyB (fun j => H (n.toNat + j)) m then 4 else 0
set_option maxRecDepth 8000 in
set_option maxHeartbeats 1000000 in
theorem put_bad (b : Nat) (H : Nat → Bool) (c : Int) (D : Nat → UInt8) (n : Int) (A : Option Addr) (xs : List UInt8) (cap : Nat) (w : World) (hl : xs.length ≤ maxLen) (hI : ImgF w b H c D) (he : putE H n xs.length ≠ 0) :
    Calls Try.prog 13 #[.pointer (some ⟨b, 0, none⟩), .int .i64 n, .slice A xs.length cap] w fun e w' => e = .returned (.int .i64 (putE H n xs.length)) ∧ w = w' := by
  unfold maxLen at hl
  have I := Lib.hid hI
  clear hI
  have hc := isAddress_any n
  cases ha : addrB n
  · have e1 : putE H n xs.length = 2 := by unfold putE; rw [if_pos ha]
    rw [e1]
    rw [ha] at hc
    clear he ha e1
    go_enter Try.func13, Try.ntmps13
    go_wp2_with fail
    refine (hc _).mono ?_
    rintro e w1 ⟨rfl, rfl⟩
    go_wp2
    go_ret
    exact ⟨rfl, rfl⟩
  · rw [ha] at hc
    unfold putE at he ⊢
    rw [ha] at he ⊢
    unfold addrB at ha
    rw [Bool.and_eq_true, decide_eq_true_eq, decide_eq_true_eq] at ha
    obtain ⟨h0, h1⟩ := ha
    by_cases hw : 65536 - n < (xs.length : Int)
    · rw [if_neg (by simp), if_pos hw]
      clear he
      go_enter Try.func13, Try.ntmps13
      go_wp2_with fail
      refine (hc _).mono ?_
      rintro e w1 ⟨rfl, rfl⟩
      go_wp2
      go_ret
      exact ⟨rfl, rfl⟩
    · rw [if_neg (by simp), if_neg hw] at he ⊢
      cases hy : anyB (fun j => H (n.toNat + j)) xs.length
      · rw [hy] at he; exact absurd rfl he
      · obtain ⟨k, rfl⟩ : ∃ k : Nat, n = k := ⟨n.toNat, by omega⟩
        rw [show ((k : Int)).toNat = k by omega] at hy
        have hh := hasAny_any b H c D k xs.length (by omega) (by omega) w I.out
        rw [hy] at hh
        clear he hy
        have hw' : decide (65536 - (k : Int) < (xs.length : Int)) = false := decide_eq_false hw
        clear hw
        go_enter Try.func13, Try.ntmps13
        go_wp2_with fail
        refine (hc _).mono ?_
        rintro e w1 ⟨rfl, rfl⟩
        go_wp2_with fail
        refine hh.mono ?_
        rintro e w1 ⟨rfl, rfl⟩
        clear hw' hh h0 h1 hc
        go_wp2
        go_ret
        exact ⟨rfl, rfl⟩
set_option maxRecDepth 8000 in
set_option maxHeartbeats 1000000 in
theorem put_good (b : Nat) (H : Nat → Bool) (c : Int) (hc0 : 0 ≤ c) (hc1 : c ≤ 4611686018427387904) (D : Nat → UInt8) (n : Int) (P : Nat → Prop) (hP : ¬ P b) (A : Option Addr) (xs : List UInt8) (cap : Nat) (w : World) (hl : xs.length ≤ maxLen) (hI : ImgF w b H c D) (hx : BytesP P w A xs)
    (he : putE H n xs.length = 0) :
    Calls Try.prog 13 #[.pointer (some ⟨b, 0, none⟩), .int .i64 n, .slice A xs.length cap] w fun e w' =>
      e = .returned (.int .i64 0) ∧ ImgF w' b (putH H n.toNat xs.length) (c + xs.length) (putD D n.toNat xs) ∧ Keep b w w' := by
  unfold maxLen at hl
  have I := Lib.hid hI
  have X := Lib.hid hx
  clear hI hx
  have hc := isAddress_any n
  unfold putE at he
  cases ha : addrB n
  · rw [ha] at he; simp at he
  · rw [ha] at hc he
    unfold addrB at ha
    rw [Bool.and_eq_true, decide_eq_true_eq, decide_eq_true_eq] at ha
    obtain ⟨h0, h1⟩ := ha
    obtain ⟨k, rfl⟩ : ∃ k : Nat, n = k := ⟨n.toNat, by omega⟩
    rw [show ((k : Int)).toNat = k by omega] at he ⊢
    by_cases hw : 65536 - (k : Int) < (xs.length : Int)
    · rw [if_neg (by simp), if_pos hw] at he; simp at he
    · rw [if_neg (by simp), if_neg hw] at he
      have hy : anyB (fun j => H (k + j)) xs.length = false := by
        cases hy : anyB (fun j => H (k + j)) xs.length
        · rfl
        · rw [hy] at he; simp at he
      have hh := hasAny_any b H c D k xs.length (by omega) (by omega) w I.out
      rw [hy] at hh
      clear he hy
      have hw' : decide (65536 - (k : Int) < (xs.length : Int)) = false := decide_eq_false hw
      have hsl := fun w => slice_l 60 5 Try.underlying60 (fun w => Try.sizeOf5 w) b 65537 k (by omega) w
      have hkx : k + xs.length ≤ 65536 := by omega
      clear hw
      go_enter Try.func13, Try.ntmps13
      go_wp2_with fail
      refine (hc _).mono ?_
      rintro e w1 ⟨rfl, rfl⟩
      go_wp2_with fail
      refine hh.mono ?_
      rintro e w1 ⟨rfl, rfl⟩
      obtain ⟨w1, hcp, h1, hk1⟩ := copy_img I.out X.out k cap hkx 3
      have I1 := Lib.hid h1
      have K1 := Lib.hid hk1
      clear h1 hk1
      go_wp2_with fail
      refine (add_any b H c hc0 hc1 _ k xs.length (by omega) hkx _ I1.out).mono ?_
      rintro e w2 ⟨rfl, h2, hk2⟩
      have N := Lib.hid h2
      have K2 := Lib.hid (K1.out.trans hk2)
      clear h2 hk2
      go_wp2
      go_ret
      exact ⟨rfl, N.out, K2.out⟩
theorem putNil_any (n : Int) (A : Option Addr) (len cap : Nat) (w : World) :
    Calls Try.prog 13 #[.pointer none, .int .i64 n, .slice A len cap] w fun e w' => e = .returned (.int .i64 1) ∧ w = w' := by
  go_enter Try.func13, Try.ntmps13
  go_wp2
  go_ret
  exact ⟨rfl, rfl⟩
end Go.Proofs.Ytllfebekanafhaa
