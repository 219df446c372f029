/-
  Shp, TbW, TbX, TbY, TbZ, TbSm: texts joined to one.
-/
import Derived.Handed
import Derived.Shelf.Vars
import Derived.Test.YtipgecdfnbldnaaGreatDoorTaB
import Derived.Test.YtipgecdfnbldnaaGreatDoorTaG
import Derived.Test.YtipgecdfnbldnaaGreatDoorBaD
import Derived.Test.YtipgecdfnbldnaaGreatDoorTaF
import Derived.ProofKit
import Derived.OpenShut
set_option linter.all false
set_option maxRecDepth 100000
set_option maxHeartbeats 4000000
/-
  A row over laid variables whose contract is told the world's shape too; MaxLen's cell by that shape.
-/
namespace Go.Proofs.YtipgecdfnbldnaaGreatDoor
open Go.RowKit
variable {H : Type} {enc : TypeId × Value → H}
theorem wrap_shaped {a : Assume} {C : Checked} {os : Os} {f : FuncId} {fn : Func} {s : ChangeSpec} {conds : List PathCond} {apart fresh handsOn again : Bool} {X : World → Array Value → Prop}
    (hX : ∀ (w w' : World) (args : Array Value), w.heap = w'.heap → X w args → X w' args)
    (own : ownKnob C.prog.godebug = none) (started : os.Started) (noInit : C.prog.inits.idxOf? f = none) (hfn : C.prog.funcs[f]? = some fn)
    (witness : ∃ (w : World) (tape : Tape) (i : Input), w.os = os ∧ (w.forCall tape i).Shaped C.prog ∧ i.vars = [] ∧ Input.okWide C.prog (w.forCall tape i) .any w.heap.size f i ∧
      ((s.pre enc C.prog fn conds apart (w.forCall tape i).memory i.args ∧ X (w.forCall tape i).memory i.args) ∧ sizedMet enc C.prog fn (OpenSpec.ofChange s) apart (w.forCall tape i).memory i.args) ∧ a.holds C.prog (lone (Frame.enter C.prog f i.args .normal) [] (w.forCall tape i)))
    (body : ∀ (W : World) (base : Nat) (args : Array Value) (ds gs : List (DataW H)) (before : List MemPlace),
      (∀ (j : Nat) t v, fn.params[j]? = some t → args[j]? = some v → Value.okWide C.prog W .any base t v) →
      DataW.Whole enc C.prog fn.params.toList s.vars apart W args.toList ds gs before → X W args → W.ShapedOpen C.prog →
      Calls C.prog f args W fun e W' => ∃ v, e = .returned v ∧ s.post enc C.prog fn apart fresh handsOn again W args v W') :
    ReturnsInHanded a C os f .any (fun w args => (s.pre enc C.prog fn conds apart w args ∧ X w args) ∧ sizedMet enc C.prog fn (OpenSpec.ofChange s) apart w args) (s.post enc C.prog fn apart fresh handsOn again) := by
  refine returnsInHanded_of_calls own started noInit witness fun w tape i _ hsh _ hok hpre _ => ?_
  obtain ⟨_, _, _, g, hg, _, _, _, _, hval⟩ := hok
  cases Option.some.inj (hg.symm.trans hfn)
  obtain ⟨⟨⟨ds, gs, before, hw, _⟩, hx⟩, _⟩ := hpre
  refine (body _ w.heap.size i.args ds gs before hval (DataW.Whole.of_heap (w' := w.forCall tape i) (by rfl) hw) (hX _ _ _ (by rfl) hx) hsh).mono ?_
  rintro e W' ⟨v, rfl, hp⟩
  exact ChangeSpec.post_blind hp
theorem max_of_shape {W : World} (h : W.ShapedOpen Tryz.prog) : MaxAt W :=
  cell_of_shapedOpen_int (g := 0) (t := 3) (zero := #[.int .i64 0]) h (of_decide_eq_true (by kernel_rfl)) (by kernel_rfl) rfl (by kernel_rfl) (by kernel_rfl) Tryz.underlying3
end Go.Proofs.YtipgecdfnbldnaaGreatDoor
/-
  The chapter's example holds.
-/
namespace Go.Proofs.YtipgecdfnbldnaaGreatDoor
open Go.RowKit Go.Shelf
theorem ex_at : atT 3 126 = some ([76, 68], [(1, 7, 0), (5, 5, 0)], [100], false) := by decide +kernel
theorem ex_shape : shpS ⟨#[76, 68]⟩ [(1, 7, 0), (5, 5, 0)] = ⟨#[76, 68, 32, 65, 44, 40, 73, 88, 43, 100, 41]⟩ := ByteArray.ext (by decide +kernel)
theorem ex_size : sizeT 3 [100] = 3 := by decide +kernel
theorem alive_any (w : World) (hM : MaxAt w) : Calls Tryz.prog 10 #[] w fun e w' => e = .returned (.bool true) ∧ Below w.heap.size w w' := by
  have ha := tat_any 3 126 (by decide) (by decide) w hM
  rw [ex_at] at ha
  go_enter Tryz.func10, Tryz.ntmps10
  go_wp2_with fail
  refine ha.mono ?_
  rintro e w1 ⟨⟨v, rfl, hO⟩, hb1⟩
  obtain ⟨A, cap, rfl, -, -⟩ := hO.ops
  simp only [enV]
  have B1 := Lib.hid hb1
  go_upto_region 2 with fail
  obtain ⟨w2, hw2⟩ : ∃ w2, w1.alloc (.cells #[.int .i64 3, .int .u8 126, .string (sB [76, 68]), .slice A 2 cap, .string (sB [100]), .bool false] 27) = w2 := ⟨_, rfl⟩
  have hal : Below w1.heap.size w1 w2 := by rw [← hw2]; exact (Below.refl _ _).alloc (Nat.le_refl _) _
  have E2 : EnAt w2 w1.heap.size 3 126 [76, 68] (.slice A 2 cap) [100] false := by rw [← hw2]; exact World.alloc_heap_new w1 _
  have O2 : OwnT w2 w.heap.size (.slice A 2 cap) [(1, 7, 0), (5, 5, 0)] := hO.below hal
  have B2 : Hid (Below w.heap.size w w2) := hb1.trans (hal.mono hb1.size)
  obtain ⟨A', cap', hv, hP, -⟩ := O2.ops
  cases hv
  have SH := Lib.hid (shape_any ⟨#[76, 68]⟩ A cap [(1, 7, 0), (5, 5, 0)] (by decide) (by decide) w2 hP)
  obtain ⟨b, hb⟩ : ∃ b, w1.heap.size = b := ⟨_, rfl⟩
  rw [hb] at E2
  have E2' := Lib.hid E2
  obtain ⟨e0, e1, e2, e3, e4, e5, -⟩ := E2.cells
  rw [hw2]
  rw [hb]
  clear ha hb1 hO hal O2 hP E2 B1 hw2
  go_wp2_with fail
  refine SH.out.mono ?_
  rintro e w3 ⟨rfl, hb3⟩
  rw [ex_shape]
  have E3 := Lib.hid (E2'.out.all hb3)
  have B3 : Hid (Below w.heap.size w w3) := B2.out.trans (hb3.mono B2.out.size)
  have h100 : ((sB [100]).toList == [100]) = true := by rw [sB_eq]; rfl
  have SZ := Lib.hid (size_any 3 126 [76, 68] A 2 cap [100] (by decide) false w3)
  rw [ex_size] at SZ
  clear SH E2' B2 hb3 e0 e1 e2 e3 e4 e5
  obtain ⟨e0, e1, e2, e3, e4, e5, -⟩ := E3.out.cells
  go_wp2_with fail
  refine SZ.out.mono ?_
  rintro e w4 ⟨rfl, hb4⟩
  have B4 : Hid (Below w.heap.size w w4) := B3.out.trans (hb4.mono B3.out.size)
  clear SZ E3 B3 hb4 e0 e1 e2 e3 e4 e5
  go_wp2
  go_ret
  exact ⟨rfl, B4.out⟩
end Go.Proofs.YtipgecdfnbldnaaGreatDoor
/-
  Bytes and pairs of bytes that came in, opened.
-/
namespace Go.Proofs.YtipgecdfnbldnaaGreatDoor
open Go.ChangeShapes Go.WideShapes Go.RowKit
def bU8 (n : Int) : UInt8 := n.toNat.toUInt8
theorem bU8_nat {n : Int} (h : (Lit.int .u8 n).wf = true) : ((bU8 n).toNat : Int) = n := by
  have h2 : 0 ≤ n ∧ n ≤ 255 := by
    have h3 : IntKind.u8.min ≤ n ∧ n ≤ IntKind.u8.max := by simpa [Lit.wf] using h
    exact h3
  unfold bU8
  rw [UInt8.toNat_ofNat_of_lt' (show n.toNat < 256 by omega)]
  omega
section
variable {H : Type} {enc : TypeId × Value → H} {w : World} {spare : Nat → Bool} {fuel : Nat}
theorem addr_plain {a : Addr} {v : Value} (h : w.cell? (a.add 0) = some v) : ∃ b off, a = ⟨b, off, none⟩ := by
  obtain ⟨b, off, spot⟩ := a
  have hs : spot = none := by simpa [Addr.add] using World.cell?_spot h
  subst hs
  exact ⟨b, off, rfl⟩
theorem open_bytesA {v : Value} {x : DataW H × List MemPlace} (h : DataW.trod enc Tryz.prog w 0 spare true fuel 42 [v] = some x) : ∃ A len cap xs, v = .slice A len cap ∧ len = xs.length ∧ len ≤ maxLen ∧ BytesAt w A xs := by
  rcases open_ints Tryz.underlying42 Tryz.underlying5 (by kernel_rfl) h with ⟨hcs, _⟩ | ⟨a, l, c, zs, hcs, _, hl, hm, hz, _, hcell, hwz⟩
  · simp only [List.cons.injEq, and_true] at hcs
    subst hcs
    exact ⟨none, 0, 0, [], rfl, rfl, Nat.zero_le _, .inl rfl⟩
  · simp only [List.cons.injEq, and_true] at hcs
    subst hcs
    have hlz : l ≤ zs.length := by rw [hz]; split <;> omega
    refine ⟨some a, l, c, (zs.take l).map bU8, rfl, by simp; omega, by omega, ?_⟩
    by_cases h0 : l = 0
    · left; subst h0; simp
    · obtain ⟨b, off, rfl⟩ := addr_plain (hcell 0 (by omega))
      refine .inr ⟨b, off, rfl, fun j hj => ?_⟩
      have hj' : j < l := by simp at hj; omega
      have hjz : j < zs.length := by omega
      have e := hcell j hjz
      have hadd : (⟨b, off, none⟩ : Addr).add j = ⟨b, off + j, none⟩ := by unfold Addr.add; split <;> simp_all
      rw [hadd] at e
      rw [e]
      have hg : zs.getD j 0 = zs[j] := by simp [List.getD, List.getElem?_eq_getElem hjz]
      rw [hg]
      simp only [List.getElem_map, List.getElem_take]
      rw [bU8_nat (hwz _ (List.getElem_mem hjz))]
end
end Go.Proofs.YtipgecdfnbldnaaGreatDoor
/-
  The reference's Prefixes; slices.Equal at bytes.
-/
namespace Go.Proofs.YtipgecdfnbldnaaGreatDoor
open Go.RowKit Go.Shelf
theorem BytesAt.at_ {w : World} {A : Option Addr} {L : Str} (h : BytesAt w A L) {k : Nat} (hk : k < L.length) : ∃ b off, A = some ⟨b, off, none⟩ ∧ w.cell? ⟨b, off + k, none⟩ = some (.int .u8 (L[k].toNat : Int)) := by
  rcases h with rfl | ⟨b, off, rfl, hc⟩
  · simp at hk
  · exact ⟨b, off, rfl, hc k hk⟩
end Go.Proofs.YtipgecdfnbldnaaGreatDoor
/-
  The entries of all opcodes by natural numbers, for the kernel.
-/
namespace Go.Proofs.YtipgecdfnbldnaaGreatDoor
open Go.RowKit Go.Shelf
def fitF (n : Nat) : Nat → Str → Bool
  | _, [] => true
  | w, c :: t => (if c = 48 then n / w % 2 == 0 else if c = 49 then n / w % 2 == 1 else true) && fitF n (w / 2) t
theorem fit_all : ∀ p ∈ mainP ++ cbP ++ edP, ∀ n : Fin 256, fitsP p.1 (n.val : Int) = fitF n.val 128 p.1 := by decide +kernel
def findN (page n : Nat) : Option Pat := (pagePats page).find? fun p => fitF n 128 p.1
theorem find_eq (page n : Nat) (hn : n < 256) : findP (listS page) (n : Int) = findN page n := by
  unfold findP findN
  rw [patsOf_page]
  have h : ∀ L : List Pat, (∀ p ∈ L, p ∈ mainP ++ cbP ++ edP) → L.find? (fun p => fitsP p.1 (n : Int)) = L.find? (fun p => fitF n 128 p.1) := by
    intro L
    induction L with
    | nil => intro _; rfl
    | cons p t ih =>
      intro hL
      rw [List.find?_cons, List.find?_cons, fit_all p (hL p (by simp)) ⟨n, hn⟩, ih (fun q hq => hL q (by simp [hq]))]
  exact h _ fun p hp => page_mem hp
def nuN (p : Pat) (n : Nat) (c : UInt8) : Int := (numN p.1 n c 8 : Nat)
def opN (p : Pat) (n : Nat) (w : Str) : Tr × Str :=
  if w = [101] then ((10, 0, 0), w) else if w = [110] ∨ w = [119] then ((6, 0, 0), w) else if w = [40, 110, 41] ∨ w = [40, 119, 41] then ((7, 0, 0), (w.drop 1).take 1) else
  match fieldT (w.headD 0) (nuN p n (w.headD 0)) with
  | some t => (t, [])
  | none => (fixedT w, [])
def wordsN (p : Pat) (n : Nat) : Str × Str × Str :=
  if (cutL [32] p.2).1 = [97] then (arN (numN p.1 n 97 8), arB (numN p.1 n 97 8), (cutL [32] p.2).2.1) else
  if (cutL [32] p.2).1 = [111] then (roN (numN p.1 n 111 8), [], (cutL [32] p.2).2.1) else ((cutL [32] p.2).1, [], (cutL [32] p.2).2.1)
def plainN (p : Pat) (page n : Nat) : En :=
  ((wordsN p n).1, (splitW ((wordsN p n).2.1 ++ (wordsN p n).2.2)).map (fun w => (opN p n w).1), ((splitW ((wordsN p n).2.1 ++ (wordsN p n).2.2)).map (fun w => (opN p n w).2)).flatten, (page : Int) == 2 && isAliasT (wordsN p n).1 n)
theorem opN_eq (p : Pat) (n : Nat) (hn : n < 256) (w : Str) : opT p (n : Int) w = opN p n w := by
  unfold opT opN nuN
  rw [numP_eq _ _ hn]
  rfl
theorem wordsN_eq (p : Pat) (n : Nat) (hn : n < 256) : wordsT p (n : Int) = wordsN p n := by
  unfold wordsT wordsN
  rw [numP_eq _ _ hn, numP_eq _ _ hn]
  simp only [Int.toNat_natCast]
theorem plainN_eq (p : Pat) (page n : Nat) (hn : n < 256) : plainT p page (n : Int) = plainN p page n := by
  unfold plainT plainN argsT extraT wordsOf
  rw [wordsN_eq p n hn]
  simp only [opN_eq p n hn]
def shiftN (p : Pat) (page n : Nat) (ix : Int) : En :=
  let x := plainN p page (n / 8 * 8 + 6)
  let L := if memB x.1 x.2.1 then repM ix x.2.1 else x.2.1
  let ex := if memB x.1 x.2.1 then 100 :: x.2.2.1 else x.2.2.1
  if numN p.1 n 115 8 = 6 then (x.1, L, ex, x.2.2.2) else if x.1 = [66, 73, 84] then (x.1, L, ex, true) else (x.1, L ++ [((1 : Int), ((numN p.1 n 115 8 : Nat) : Int), (0 : Int))], ex, x.2.2.2)
theorem shiftN_eq (p : Pat) (page n : Nat) (hn : n < 256) (ix : Int) : shiftT p page (n : Int) ix = shiftN p page n ix := by
  have h6 := op6_all ⟨n, hn⟩
  simp only at h6
  unfold shiftT shiftN
  rw [h6, plainN_eq p page _ (by omega), numP_eq _ _ hn]
  simp only [show ∀ m : Nat, ((m : Int) = 6) = (m = 6) from fun m => by simp; omega]
def entryN (p : Pat) (page n : Nat) : Option En :=
  if page = 3 then (withP (plainN p page n).1 5 (plainN p page n).2.1 (plainN p page n).2.2.1).map fun y => ((plainN p page n).1, y.1, y.2, (plainN p page n).2.2.2) else
  if page = 4 then (withP (plainN p page n).1 6 (plainN p page n).2.1 (plainN p page n).2.2.1).map fun y => ((plainN p page n).1, y.1, y.2, (plainN p page n).2.2.2) else
  if page = 5 then some (shiftN p page n 5) else if page = 6 then some (shiftN p page n 6) else some (plainN p page n)
theorem entryN_eq (p : Pat) (page n : Nat) (hn : n < 256) : entryT p page (n : Int) = entryN p page n := by
  unfold entryT entryN
  rw [plainN_eq p page n hn, shiftN_eq p page n hn, shiftN_eq p page n hn]
  simp only [show ((page : Int) = 3) = (page = 3) by simp; omega, show ((page : Int) = 4) = (page = 4) by simp; omega, show ((page : Int) = 5) = (page = 5) by simp; omega, show ((page : Int) = 6) = (page = 6) by simp; omega]
def atN (page n : Nat) : Option En := match findN page n with
  | some p => entryN p page n
  | none => none
theorem atN_eq (page n : Nat) (hn : n < 256) : atT page (n : Int) = atN page n := by
  unfold atT atN
  rw [find_eq page n hn]
  cases findN page n with
  | none => rfl
  | some p => exact entryN_eq p page n hn
end Go.Proofs.YtipgecdfnbldnaaGreatDoor
/-
  The reference's Same at any two instructions.
-/
namespace Go.Proofs.YtipgecdfnbldnaaGreatDoor
open Go.RowKit Go.Shelf
theorem same_start (w : World) (s1 s2 : ByteArray) (v1 v2 : Value) : ∃ w0, (w.alloc (.cells #[.string s1, v1] 25)).alloc (.cells #[.string s2, v2] 25) = w0 ∧
    w0.heap[w.heap.size]? = some (.cells #[.string s1, v1] 25 (0, 0)) ∧ w0.heap[w.heap.size + 1]? = some (.cells #[.string s2, v2] 25 (0, 0)) ∧ Below w.heap.size w w0 := by
  refine ⟨_, rfl, (Below.heap_alloc _ _ _ (by simp)).trans (World.alloc_heap_new w _), ?_, ((Below.refl _ w).alloc (Nat.le_refl _) _).alloc (by simp) _⟩
  have h := World.alloc_heap_new (w.alloc (.cells #[.string s1, v1] 25)) (.cells #[.string s2, v2] 25)
  rw [World.size_alloc] at h
  exact h
theorem sB_inj {a b : Str} (h : sB a = sB b) : a = b := by
  have h2 : (sB a).data.toList = (sB b).data.toList := by rw [h]
  simpa [sB] using h2
theorem sB_ne (a b : Str) (h : a ≠ b) : ((sB a).toList == (sB b).toList) = false := strB_ne fun e => h (sB_inj e)
theorem rsame_any (m1 m2 : Str) (A1 A2 : Option Addr) (c1 c2 : Nat) (L1 L2 : List Tr) (h1 : L1.length ≤ 1000) (h2 : L2.length ≤ 1000) (w : World) (H1 : OpsP w A1 L1) (H2 : OpsP w A2 L2) :
    Calls Tryz.prog 22 #[.agg #[.string (sB m1), .slice A1 L1.length c1], .agg #[.string (sB m2), .slice A2 L2.length c2]] w fun e w' => e = .returned (.bool (decide (m1 = m2) && decide (L1 = L2))) ∧ Below w.heap.size w w' := by
  obtain ⟨r, hr⟩ : ∃ r, (decide (m1 = m2) && decide (L1 = L2)) = r := ⟨_, rfl⟩
  have HR := Lib.hid hr
  rw [hr]
  clear hr
  by_cases hm : m1 = m2
  · subst hm
    by_cases hl : L1.length = L2.length
    · obtain ⟨w0, hw0, C1, C2, B0⟩ := same_start w (sB m1) (sB m1) (.slice A1 L1.length c1) (.slice A2 L2.length c2)
      obtain ⟨n, hn⟩ : ∃ n, L1.length = n := ⟨_, rfl⟩
      have HN := Lib.hid hn
      have HL := Lib.hid hl
      rw [← hl, hn] at C2 hw0
      rw [hn] at C1 h1
      rw [← hl, hn]
      have X1 := Lib.hid (H1.below B0)
      have X2 := Lib.hid (H2.below B0)
      have k0 := Lib.cell_of_heap C1 0
      have k1 := Lib.cell_of_heap C1 1
      have j0 := Lib.cell_of_heap C2 0
      have j1 := Lib.cell_of_heap C2 1
      have B0 := Lib.hid B0
      have hq := strB_eq (sB m1)
      clear H1 H2 C1 C2 hn hl h2
      go_enter Tryz.func22, Tryz.ntmps22
      go_wp2
      clear hw0
      go_loopw [5] (fun i wr => ∃ j q : Nat, j ≤ n ∧ i = .int .i64 j ∧ wr = w0.drewN q ∧ Hid (∀ k, k < j → ∀ (a : k < L1.length) (b : k < L2.length), L1[k] = L2[k])) (fun i _ => n - (intOf i).toNat)
      case atStart => exact ⟨0, 0, Nat.zero_le _, rfl, rfl, fun k h => by omega⟩
      case round =>
        obtain ⟨j, q, hj, rfl, rfl, R⟩ := hrel
        by_cases hlt : j < n
        · have hj1 : j < L1.length := by have := HN.out; omega
          have hj2 : j < L2.length := by have := HL.out; omega
          obtain ⟨b1, o1, hA1, -, p0, p1, p2⟩ := X1.out.at_ hj1
          obtain ⟨b2, o2, hA2, -, q0, q1, q2⟩ := X2.out.at_ hj2
          subst hA1
          subst hA2
          by_cases he : L1[j] = L2[j]
          · have R2 : Hid (∀ k, k < j + 1 → ∀ (a : k < L1.length) (b : k < L2.length), L1[k] = L2[k]) := fun k hk a b => by
              by_cases e : k = j
              · subst e; exact he
              · exact R.out k (by omega) a b
            rw [he] at p0 p1 p2
            obtain ⟨⟨x0, x1, x2⟩, hx⟩ : ∃ x, L2[j] = x := ⟨_, rfl⟩
            rw [hx] at p0 p1 p2 q0 q1 q2
            simp only at p0 p1 p2 q0 q1 q2
            clear he hx hj1 hj2 R
            go_wp2
            go_quiet (fail)
            go_wp2
            go_roundw
            case rel => exact ⟨j + 1, q + nq, by omega, by go_num, rfl, R2.out⟩
            case measure => simp [intOf]; omega
          · have T : Hid (false = r) := by show false = r; rw [← HR.out, decide_eq_false (fun e => he (by simp only [e]) : ¬ L1 = L2), Bool.and_false]
            have hne := tr_ne he
            obtain ⟨⟨x0, x1, x2⟩, hx⟩ : ∃ x, L1[j] = x := ⟨_, rfl⟩
            obtain ⟨⟨y0, y1, y2⟩, hy⟩ : ∃ y, L2[j] = y := ⟨_, rfl⟩
            rw [hx] at p0 p1 p2 hne
            rw [hy] at q0 q1 q2 hne
            simp only at p0 p1 p2 q0 q1 q2 hne
            clear he hx hy hj1 hj2 R
            rcases hne with hne | ⟨rfl, hne⟩ | ⟨rfl, rfl, hne⟩
            all_goals
              go_wp2
              go_quiet (fail)
              go_wp2
              go_ret
              exact ⟨ret_bool T.out, B0.out.trans ((below_drewN w0 _ q).trans (below_drewN _ _ nq))⟩
        · have T : Hid (true = r) := by
            have e : L1 = L2 := List.ext_getElem HL.out fun k a b => R.out k (by have := HN.out; omega) a b
            show true = r
            rw [← HR.out, decide_eq_true e]
            rfl
          go_wp2
          go_ret
          exact ⟨ret_bool T.out, B0.out.trans (below_drewN w0 w.heap.size q)⟩
    · have T : Hid (false = r) := by show false = r; rw [← HR.out, decide_eq_false (fun e => hl (by rw [e]) : ¬ L1 = L2), Bool.and_false]
      have hq := strB_eq (sB m1)
      have hne : ((L1.length : Int) == (L2.length : Int)) = false := beq_eq_false_iff_ne.2 fun e => hl (by omega)
      have hne2 : ((L1.length : Int) != (L2.length : Int)) = true := by unfold bne; rw [hne]; rfl
      clear H1 H2
      go_enter Tryz.func22, Tryz.ntmps22
      go_wp2
      go_ret
      exact ⟨ret_bool T.out, ((Below.refl _ w).alloc (Nat.le_refl _) _).alloc (by simp) _⟩
  · have T : Hid (false = r) := by show false = r; rw [← HR.out, decide_eq_false hm, Bool.false_and]
    have hq := sB_ne m1 m2 hm
    clear H1 H2
    go_enter Tryz.func22, Tryz.ntmps22
    go_wp2
    go_ret
    exact ⟨ret_bool T.out, ((Below.refl _ w).alloc (Nat.le_refl _) _).alloc (by simp) _⟩
end Go.Proofs.YtipgecdfnbldnaaGreatDoor
