/-
  The entries of all opcodes by natural numbers, for the kernel.
-/
import Derived.Test.YtipgecdfnbldnaaDoorTaG
namespace Go.Proofs.YtipgecdfnbldnaaDoor
open Go.RowKit Go.Shelf
set_option linter.unusedVariables false

/-- Does an opcode fit? -/
def fitF (n : Nat) : Nat → Str → Bool
  | _, [] => true
  | w, c :: t => (if c = 48 then n / w % 2 == 0 else if c = 49 then n / w % 2 == 1 else true) && fitF n (w / 2) t
theorem fit_all : ∀ p ∈ mainP ++ cbP ++ edP, ∀ n : Fin 256, fitsP p.1 (n.val : Int) = fitF n.val 128 p.1 := by decide +kernel
def findN (page n : Nat) : Option Pat := (pagePats page).find? fun p => fitF n 128 p.1
theorem find_eq (page n : Nat) (hn : n < 256) : findP (listS page) (n : Int) = findN page n := by
  unfold findP findN
  rw [patsOf_page]
  have h : ∀ L : List Pat, (∀ p ∈ L, p ∈ mainP ++ cbP ++ edP) → L.find? (fun p => fitsP p.1 (n : Int)) = L.find? (fun p => fitF n 128 p.1) := by
    intro L
    induction L with
    | nil => intro _; rfl
    | cons p t ih =>
      intro hL
      rw [List.find?_cons, List.find?_cons, fit_all p (hL p (by simp)) ⟨n, hn⟩, ih (fun q hq => hL q (by simp [hq]))]
  exact h _ fun p hp => page_mem hp
/-- The number in a field. -/
def nuN (p : Pat) (n : Nat) (c : UInt8) : Int := (numN p.1 n c 8 : Nat)
def opN (p : Pat) (n : Nat) (w : Str) : Tr × Str :=
  if w = [101] then ((10, 0, 0), w) else if w = [110] ∨ w = [119] then ((6, 0, 0), w) else if w = [40, 110, 41] ∨ w = [40, 119, 41] then ((7, 0, 0), (w.drop 1).take 1) else
  match fieldT (w.headD 0) (nuN p n (w.headD 0)) with
  | some t => (t, [])
  | none => (fixedT w, [])
def wordsN (p : Pat) (n : Nat) : Str × Str × Str :=
  if (cutL [32] p.2).1 = [97] then (arN (numN p.1 n 97 8), arB (numN p.1 n 97 8), (cutL [32] p.2).2.1) else
  if (cutL [32] p.2).1 = [111] then (roN (numN p.1 n 111 8), [], (cutL [32] p.2).2.1) else ((cutL [32] p.2).1, [], (cutL [32] p.2).2.1)
def plainN (p : Pat) (page n : Nat) : En :=
  ((wordsN p n).1, (splitW ((wordsN p n).2.1 ++ (wordsN p n).2.2)).map (fun w => (opN p n w).1), ((splitW ((wordsN p n).2.1 ++ (wordsN p n).2.2)).map (fun w => (opN p n w).2)).flatten, (page : Int) == 2 && isAliasT (wordsN p n).1 n)
theorem opN_eq (p : Pat) (n : Nat) (hn : n < 256) (w : Str) : opT p (n : Int) w = opN p n w := by
  unfold opT opN nuN
  rw [numP_eq _ _ hn]
  rfl
theorem wordsN_eq (p : Pat) (n : Nat) (hn : n < 256) : wordsT p (n : Int) = wordsN p n := by
  unfold wordsT wordsN
  rw [numP_eq _ _ hn, numP_eq _ _ hn]
  simp only [Int.toNat_natCast]
theorem plainN_eq (p : Pat) (page n : Nat) (hn : n < 256) : plainT p page (n : Int) = plainN p page n := by
  unfold plainT plainN argsT extraT wordsOf
  rw [wordsN_eq p n hn]
  simp only [opN_eq p n hn]
def shiftN (p : Pat) (page n : Nat) (ix : Int) : En :=
  let x := plainN p page (n / 8 * 8 + 6)
  let L := if memB x.1 x.2.1 then repM ix x.2.1 else x.2.1
  let ex := if memB x.1 x.2.1 then 100 :: x.2.2.1 else x.2.2.1
  if numN p.1 n 115 8 = 6 then (x.1, L, ex, x.2.2.2) else if x.1 = [66, 73, 84] then (x.1, L, ex, true) else (x.1, L ++ [((1 : Int), ((numN p.1 n 115 8 : Nat) : Int), (0 : Int))], ex, x.2.2.2)
theorem shiftN_eq (p : Pat) (page n : Nat) (hn : n < 256) (ix : Int) : shiftT p page (n : Int) ix = shiftN p page n ix := by
  have h6 := op6_all ⟨n, hn⟩
  simp only at h6
  unfold shiftT shiftN
  rw [h6, plainN_eq p page _ (by omega), numP_eq _ _ hn]
  simp only [show ∀ m : Nat, ((m : Int) = 6) = (m = 6) from fun m => by simp; omega]
def entryN (p : Pat) (page n : Nat) : Option En :=
  if page = 3 then (withP (plainN p page n).1 5 (plainN p page n).2.1 (plainN p page n).2.2.1).map fun y => ((plainN p page n).1, y.1, y.2, (plainN p page n).2.2.2) else
  if page = 4 then (withP (plainN p page n).1 6 (plainN p page n).2.1 (plainN p page n).2.2.1).map fun y => ((plainN p page n).1, y.1, y.2, (plainN p page n).2.2.2) else
  if page = 5 then some (shiftN p page n 5) else if page = 6 then some (shiftN p page n 6) else some (plainN p page n)
theorem entryN_eq (p : Pat) (page n : Nat) (hn : n < 256) : entryT p page (n : Int) = entryN p page n := by
  unfold entryT entryN
  rw [plainN_eq p page n hn, shiftN_eq p page n hn, shiftN_eq p page n hn]
  simp only [show ((page : Int) = 3) = (page = 3) by simp; omega, show ((page : Int) = 4) = (page = 4) by simp; omega, show ((page : Int) = 5) = (page = 5) by simp; omega, show ((page : Int) = 6) = (page = 6) by simp; omega]
/-- The entry of an opcode. -/
def atN (page n : Nat) : Option En := match findN page n with
  | some p => entryN p page n
  | none => none
theorem atN_eq (page n : Nat) (hn : n < 256) : atT page (n : Int) = atN page n := by
  unfold atT atN
  rw [find_eq page n hn]
  cases findN page n with
  | none => rfl
  | some p => exact entryN_eq p page n hn
end Go.Proofs.YtipgecdfnbldnaaDoor
