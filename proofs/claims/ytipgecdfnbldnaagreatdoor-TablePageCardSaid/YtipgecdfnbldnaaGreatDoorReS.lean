/-
  RsA: texts joined to one.
-/
import Derived.Test.YtipgecdfnbldnaaGreatDoorMRfZ
import Derived.Test.YtipgecdfnbldnaaGreatDoorTaX
import Derived.Test.YtipgecdfnbldnaaGreatDoorTaG
set_option linter.all false
set_option maxRecDepth 100000
set_option maxHeartbeats 4000000
/-
  Entries compared by the reference; instr.Same at any two instructions; the reference's Size.
-/
namespace Go.Proofs.YtipgecdfnbldnaaGreatDoor
open Go.RowKit Go.Shelf
theorem al2 (w : World) (o1 o2 : Obj) : Below w.heap.size w ((w.alloc o1).alloc o2) := (up_alloc w o1).alloc (by simp) o2
theorem rsameE_any (page op : Int) (m ex : Str) (al : Bool) (A1 A2 : Option Addr) (c1 c2 : Nat) (L : List Tr) (hL : L.length ≤ 1000) (w : World) (H1 : OpsP w A1 L) (H2 : OpsP w A2 L) :
    Calls Tryz.prog 9 #[enV page op m (.slice A1 L.length c1) ex al, enV page op m (.slice A2 L.length c2) ex al] w fun e w' => e = .returned (.bool true) ∧ Below w.heap.size w w' := by
  have hq := strB_eq (sB ex)
  have SM := Lib.hid (fun o1 o2 => rsame_any m m A1 A2 c1 c2 L L hL hL ((w.alloc o1).alloc o2) (H1.below (al2 w o1 o2)) (H2.below (al2 w o1 o2)))
  obtain ⟨n, hn⟩ : ∃ n, L.length = n := ⟨_, rfl⟩
  rw [hn] at SM ⊢
  have UU := Lib.hid (al2 w)
  clear H1 H2 hn
  unfold enV
  cases al
  all_goals
    go_enter Tryz.func9, Tryz.ntmps9
    go_wp2_with fail
    refine (SM.out _ _).mono ?_
    rintro e w3 ⟨rfl, hb3⟩
    have B3 : Hid (Below w.heap.size w w3) := up (UU.out _ _) hb3
    simp only [decide_true, Bool.and_self]
    clear SM hb3
    go_wp2
    go_ret
    exact ⟨rfl, B3.out⟩
end Go.Proofs.YtipgecdfnbldnaaGreatDoor
