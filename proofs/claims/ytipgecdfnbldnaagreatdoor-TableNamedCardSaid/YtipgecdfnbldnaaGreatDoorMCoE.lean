/-
  table.codes, a code's mnemonic, the functions that say what is wanted; the entries of a page by its codes.
-/
import Derived.Test.YtipgecdfnbldnaaGreatDoorMCoD
import Derived.Test.YtipgecdfnbldnaaGreatDoorTaG
import Derived.Test.YtipgecdfnbldnaaGreatDoorMEsA
set_option linter.all false
set_option maxRecDepth 100000
set_option maxHeartbeats 4000000
namespace Go.Proofs.YtipgecdfnbldnaaGreatDoor
open Go.RowKit Go.Shelf
attribute [local go_sem] Oper.semAt_some
theorem codes_any (l : Str) (w : World) :
    Calls Tryz.prog 75 #[.string (sB l)] w fun e w' => e = .returned (.func (.func 97) #[] #[.pointer (some ⟨w.heap.size, 0, none⟩)]) ∧ w.alloc (.cells #[.string (sB l)] 9) = w' := by
  go_enter Tryz.func75, Tryz.ntmps75
  go_wp2
  go_ret
  exact ⟨rfl, rfl⟩
theorem mnemonic_any (p : Pat) (op : Int) (G : Good p op) (w : World) (hM : MaxAt w) :
    Calls Tryz.prog 76 #[codeV p op] w fun e w' => e = .returned (.string (sB (wordsT p op).1)) ∧ Below w.heap.size w w' := by
  have hw := fun w' (h : MaxAt w') => words_any p G.len (by have := G.form; omega) op G.op0 G.op1 G.na G.no w' h
  unfold codeV at hw ⊢
  have hb := up_alloc w (.cells #[.string (sB p.1), .string (sB p.2), .int .u8 op] 58)
  have hw := hw _ (hM.below hb)
  have HB := Lib.hid hb
  clear hM hb G
  go_enter Tryz.func76, Tryz.ntmps76
  go_wp2_with fail
  refine hw.mono ?_
  rintro e w' ⟨rfl, hb2⟩
  have HB2 : Hid (Below w.heap.size w w') := HB.out.trans (hb2.mono (by simp))
  clear hw hb2
  go_wp2
  go_ret
  exact ⟨rfl, HB2.out⟩
theorem wantAll_any (m : Str) (w : World) : Calls Tryz.prog 47 #[.string (sB m)] w fun e w' => e = .returned (.bool true) ∧ w' = w := by
  go_enter Tryz.func47, Tryz.ntmps47
  go_wp2
  go_ret
  exact ⟨rfl, rfl⟩
theorem sB_eq_dec (a b : Str) : ((sB a).toList == (sB b).toList) = decide (a = b) := by
  rw [ByteArray.toList_eq, ByteArray.toList_eq]
  show (a == b) = _
  by_cases h : a = b
  · rw [h, decide_eq_true rfl]
    exact beq_self_eq_true _
  · rw [decide_eq_false h]
    exact beq_false_of_ne h
theorem wantOne_any (m op : Str) (Bo : Nat) (w : World) (hb : Boxed w Bo 9 (.string (sB op))) : Calls Tryz.prog 48 #[.string (sB m), .pointer (some ⟨Bo, 0, none⟩)] w fun e w' => e = .returned (.bool (decide (m = op))) ∧ w' = w := by
  have hc := hb.cell
  rw [← sB_eq_dec]
  go_enter Tryz.func48, Tryz.ntmps48
  go_wp2
  go_ret
  exact ⟨rfl, rfl⟩
def keyE (page op : Int) : Option En → List Ke
  | some y => [(page, op, y.1, y.2.1, y.2.2.1, y.2.2.2)]
  | none => []
def keyC (wnt : Str → Bool) (page : Int) (x : Pat × Int) : List Ke := if wnt (wordsT x.1 x.2).1 = true then keyE page x.2 (entryT x.1 page x.2) else []
def keysC (wnt : Str → Bool) (page : Int) (xs : List (Pat × Int)) : List Ke := xs.flatMap (keyC wnt page)
theorem keysC_snoc (wnt : Str → Bool) (page : Int) (xs : List (Pat × Int)) (x : Pat × Int) : keysC wnt page (xs ++ [x]) = keysC wnt page xs ++ keyC wnt page x := by
  unfold keysC
  rw [List.flatMap_append]
  simp
def keysPg (wnt : Str → Bool) (page : Int) : List Ke := keysC wnt page (codesK (patsOf (listS page)) 256)
def keysAll (wnt : Str → Bool) (pages : List Int) : List Ke := pages.flatMap (keysPg wnt)
theorem keysAll_snoc (wnt : Str → Bool) (xs : List Int) (x : Int) : keysAll wnt (xs ++ [x]) = keysAll wnt xs ++ keysPg wnt x := by
  unfold keysAll
  rw [List.flatMap_append]
  simp
def IntsP (w : World) (A : Option Addr) (L : List Int) : Prop := L = [] ∨ ∃ b off, A = some ⟨b, off, none⟩ ∧ ∀ k (h : k < L.length), w.cell? ⟨b, off + k, none⟩ = some (.int .i64 L[k])
theorem IntsP.below {w w' : World} {A : Option Addr} {L : List Int} (h : IntsP w A L) (hb : Below w.heap.size w w') : IntsP w' A L := by
  rcases h with rfl | ⟨b, off, rfl, hc⟩
  · exact .inl rfl
  · exact .inr ⟨b, off, rfl, fun k hk => (hb.cell (World.block_lt_of_cell? w _ (hc k hk))).trans (hc k hk)⟩
theorem fst_mem {ps : List Pat} {i : Nat} (h : (fstF ps i).1 ≠ []) : fstF ps i ∈ ps := by
  unfold fstF at h ⊢
  cases hf : ps.find? fun p => fitsP p.1 (i : Int) with
  | none => rw [hf] at h; exact absurd rfl h
  | some q => exact List.mem_of_find?_eq_some hf
theorem isCode_mem {ps : List Pat} {x : Pat × Int} (h : IsCode ps x) : x.1 ∈ ps := by
  rw [← h.1]
  exact fst_mem (by rw [h.1]; exact h.2.1)
theorem pages_ok (page : Int) : ∀ p ∈ patsOf (listS page), p ∈ mainP ++ cbP ++ edP := fun p hp => by
  rw [patsOf_page] at hp
  exact page_mem hp
end Go.Proofs.YtipgecdfnbldnaaGreatDoor
