/-
  InW, LsA, SeX, SeY.
-/
import Derived.Test.YtbbpkoaeedkncaaGreatDoorGAA
import Derived.Lib.SmallJoins
import Derived.Deep.Slices
import Derived.Deep.Strs
import Derived.Deep.Fields
import Derived.ChangeSame
import Derived.OpenShut
import Derived.Test.YtbbpkoaeedkncaaGreatDoorGAO
import Derived.Laws.AppendOwn
import Derived.Laws.OwnMore
import Derived.Test.YtbbpkoaeedkncaaGreatDoorMSeM
import Derived.Test.YtbbpkoaeedkncaaGreatDoorGBC
set_option linter.all false
set_option maxRecDepth 100000
set_option maxHeartbeats 4000000
namespace Go.Proofs.YtbbpkoaeedkncaaGreatDoor
open Go.RowKit Go.ChangeShapes Go.WideShapes Go.Deep
theorem plain_cell {w : World} {a : Addr} {v : Value} (h : w.cell? (a.add 0) = some v) : ∃ b off, a = ⟨b, off, none⟩ := by
  obtain ⟨b, off, spot⟩ := a
  have hs : spot = none := by simpa [Addr.add] using World.cell?_spot h
  subst hs
  exact ⟨b, off, rfl⟩
theorem add_twice (b off i j : Nat) : ((⟨b, off, none⟩ : Addr).add i).add j = ⟨b, off + i + j, none⟩ := by
  unfold Addr.add
  by_cases hi : i = 0 <;> by_cases hj : j = 0 <;> simp [hi, hj]
section
variable {H : Type} {enc : TypeId × Value → H} {w : World} {spare : Nat → Bool} {fuel : Nat}
theorem open_opdC {cs : List Value} {x : DataW H × List MemPlace} (h : DataW.trod enc Tryz.prog w 0 spare true fuel 68 cs = some x) : ∃ t : Tr, cs = [.int .i64 t.1, .int .i64 t.2.1, .int .i64 t.2.2] := by
  obtain ⟨y0, y1, y2, n, _, hl, h0, h1, h2⟩ := trod_struct3 Tryz.underlying68 h
  have c3 : Tryz.prog.cellsOf 68 = 3 := by kernel_rfl
  have c1 : Tryz.prog.cellsOf 3 = 1 := by kernel_rfl
  rw [c3] at hl
  match cs, hl with
  | [p0, p1, p2], _ =>
    simp only [c1] at h0 h1 h2
    obtain ⟨k, e0, _, _⟩ := DataW.trod_int Tryz.underlying3 h0
    obtain ⟨r, e1, _, _⟩ := DataW.trod_int Tryz.underlying3 h1
    obtain ⟨m, e2, _, _⟩ := DataW.trod_int Tryz.underlying3 h2
    have e0' : p0 = .int .i64 k := by simpa using e0
    have e1' : p1 = .int .i64 r := by simpa using e1
    have e2' : p2 = .int .i64 m := by simpa using e2
    subst e0' e1' e2'
    exact ⟨(k, r, m), rfl⟩
theorem open_opds {v : Value} {x : DataW H × List MemPlace} (h : DataW.trod enc Tryz.prog w 0 spare true fuel 22 [v] = some x) :
    ∃ A len cap L, v = .slice A len cap ∧ len = L.length ∧ len ≤ maxLen ∧ OpsP w A L := by
  rcases Deep.open_slice Tryz.underlying22 h with ⟨hcs, _⟩ | ⟨a, len, cap, m, n, D, Pl, hcs, _, hl, hm, hmm, _, hx⟩
  · simp only [List.cons.injEq, and_true] at hcs
    exact ⟨none, 0, 0, [], hcs, rfl, Nat.zero_le _, .inl rfl⟩
  · simp only [List.cons.injEq, and_true] at hcs
    have hlm : len ≤ m := by rw [hmm]; split <;> omega
    have c3 : Tryz.prog.cellsOf 68 = 3 := by kernel_rfl
    have hall : ∀ i, i < len → ∃ t : Tr, w.cells? 0 (a.add (i * 3)) 3 = some [.int .i64 t.1, .int .i64 t.2.1, .int .i64 t.2.2] := fun i hi => by
      obtain ⟨cs, h1, h2⟩ := hx i (by omega)
      rw [c3] at h1
      obtain ⟨t, e⟩ := open_opdC h2
      rw [e] at h1
      exact ⟨t, h1⟩
    obtain ⟨f, hf⟩ := Deep.choose_lt hall
    refine ⟨some a, len, cap, (List.range len).map f, hcs, by simp, by omega, ?_⟩
    by_cases h0 : len = 0
    · left; subst h0; simp
    · have q := (World.cells?_some (hf 0 (by omega))).2.2 0 (by omega)
      rw [Nat.zero_mul, show (a.add 0).add 0 = a.add 0 by simp [Addr.add]] at q
      obtain ⟨b, off, rfl⟩ := plain_cell q
      refine .inr ⟨b, off, rfl, fun j hj => ?_⟩
      have hj' : j < len := by simpa using hj
      have e0 := (World.cells?_some (hf j hj')).2.2 0 (by omega)
      have e1 := (World.cells?_some (hf j hj')).2.2 1 (by omega)
      have e2 := (World.cells?_some (hf j hj')).2.2 2 (by omega)
      rw [add_twice] at e0 e1 e2
      simp only [List.getElem_map, List.getElem_range]
      exact ⟨e0, e1, e2⟩
theorem open_ins {b0 : Nat} {v : Value} {d : DataW H} {p : List MemPlace} (hv : Value.okWide Tryz.prog w .any b0 24 v) (h : DataW.Trod enc Tryz.prog w 0 spare true 24 v d p) :
    ∃ (s : ByteArray) (A : Option Addr) (cap : Nat) (L : List Tr), v = .agg #[.string s, .slice A L.length cap] ∧ s.size ≤ maxLen ∧ L.length ≤ maxLen ∧ OpsP w A L := by
  obtain ⟨c0, c1, y0, y1, n, rfl, -, -, h0, h1⟩ := Joins.open_agg2 Tryz.underlying24 (by kernel_rfl) (by kernel_rfl) hv h
  obtain ⟨s, e0, _, hs⟩ := DataW.trod_string Tryz.underlying9 h0
  have e0' : c0 = .string s := by simpa using e0
  obtain ⟨A, len, cap, L, e2, e3, e4, hL⟩ := open_opds h1
  subst e0' e2 e3
  exact ⟨s, A, cap, L, rfl, hs, e4, hL⟩
end
end Go.Proofs.YtbbpkoaeedkncaaGreatDoor
namespace Go.Proofs.YtbbpkoaeedkncaaGreatDoor
open Go.RowKit Go.ChangeShapes Go.WideShapes Go.Deep
structure Ie where
  s : ByteArray
  A : Option Addr
  cap : Nat
  L : List Tr
instance : Inhabited Ie := ⟨⟨⟨#[]⟩, none, 0, []⟩⟩
def Ie.v (r : Ie) : Value := .slice r.A r.L.length r.cap
def InsP (w : World) (A : Option Addr) (R : List Ie) : Prop :=
  R = [] ∨ ∃ b off, A = some ⟨b, off, none⟩ ∧ ∀ j (h : j < R.length), w.cell? ⟨b, off + j * 2, none⟩ = some (.string R[j].s) ∧ w.cell? ⟨b, off + j * 2 + 1, none⟩ = some R[j].v ∧ OpsP w R[j].A R[j].L
theorem InsP.at_ {w : World} {A : Option Addr} {R : List Ie} (h : InsP w A R) {k : Nat} (hk : k < R.length) : ∃ b off, A = some ⟨b, off, none⟩ ∧ w.cell? ⟨b, off + k * 2, none⟩ = some (.string R[k].s) ∧ w.cell? ⟨b, off + k * 2 + 1, none⟩ = some R[k].v ∧ OpsP w R[k].A R[k].L := by
  rcases h with rfl | ⟨b, off, rfl, hc⟩
  · simp at hk
  · exact ⟨b, off, rfl, hc k hk⟩
theorem InsP.below {w w' : World} {A : Option Addr} {R : List Ie} (h : InsP w A R) (hb : Below w.heap.size w w') : InsP w' A R := by
  rcases h with rfl | ⟨b, off, rfl, hc⟩
  · exact .inl rfl
  · refine .inr ⟨b, off, rfl, fun j hj => ?_⟩
    have e : ∀ (p : Addr) (v : Value), w.cell? p = some v → w'.cell? p = some v := fun p v hp => (hb.cell (World.block_lt_of_cell? w _ hp)).trans hp
    obtain ⟨h1, h2, h3⟩ := hc j hj
    exact ⟨e _ _ h1, e _ _ h2, h3.below hb⟩
section
variable {H : Type} {enc : TypeId × Value → H} {w : World} {spare : Nat → Bool} {fuel : Nat}
theorem open_insC {cs : List Value} {x : DataW H × List MemPlace} (h : DataW.trod enc Tryz.prog w 0 spare true fuel 24 cs = some x) : ∃ r : Ie, cs = [.string r.s, r.v] ∧ r.s.size ≤ maxLen ∧ r.L.length ≤ maxLen ∧ OpsP w r.A r.L := by
  obtain ⟨y0, y1, n, _, hl, h0, h1⟩ := trod_struct2 Tryz.underlying24 h
  have c2 : Tryz.prog.cellsOf 24 = 2 := by kernel_rfl
  have c1 : Tryz.prog.cellsOf 9 = 1 := by kernel_rfl
  have c3 : Tryz.prog.cellsOf 22 = 1 := by kernel_rfl
  rw [c2] at hl
  match cs, hl with
  | [p0, p1], _ =>
    simp only [c1, c3] at h0 h1
    obtain ⟨s, e0, _, hs⟩ := DataW.trod_string Tryz.underlying9 h0
    have e0' : p0 = .string s := by simpa using e0
    simp only [List.drop_succ_cons, List.drop_zero, List.take_succ_cons, List.take_zero] at h1
    obtain ⟨A, len, cap, L, e2, e3, e4, hL⟩ := open_opds h1
    subst e0' e2 e3
    exact ⟨⟨s, A, cap, L⟩, rfl, hs, e4, hL⟩
theorem open_inss {v : Value} {x : DataW H × List MemPlace} (h : DataW.trod enc Tryz.prog w 0 spare true fuel 51 [v] = some x) :
    ∃ A len cap R, v = .slice A len cap ∧ len = R.length ∧ len ≤ maxLen ∧ InsP w A R ∧ ∀ r ∈ R, r.s.size ≤ maxLen ∧ r.L.length ≤ maxLen := by
  rcases Deep.open_slice Tryz.underlying51 h with ⟨hcs, _⟩ | ⟨a, len, cap, m, n, D, Pl, hcs, _, hl, hm, hmm, _, hx⟩
  · simp only [List.cons.injEq, and_true] at hcs
    exact ⟨none, 0, 0, [], hcs, rfl, Nat.zero_le _, .inl rfl, fun r hr => absurd hr List.not_mem_nil⟩
  · simp only [List.cons.injEq, and_true] at hcs
    have hlm : len ≤ m := by rw [hmm]; split <;> omega
    have c2 : Tryz.prog.cellsOf 24 = 2 := by kernel_rfl
    have hall : ∀ i, i < len → ∃ r : Ie, w.cells? 0 (a.add (i * 2)) 2 = some [.string r.s, r.v] ∧ r.s.size ≤ maxLen ∧ r.L.length ≤ maxLen ∧ OpsP w r.A r.L := fun i hi => by
      obtain ⟨cs, h1, h2⟩ := hx i (by omega)
      rw [c2] at h1
      obtain ⟨r, e, h3, h4, h5⟩ := open_insC h2
      rw [e] at h1
      exact ⟨r, h1, h3, h4, h5⟩
    obtain ⟨f, hf⟩ := Deep.choose_lt hall
    refine ⟨some a, len, cap, (List.range len).map f, hcs, by simp, by omega, ?_, ?_⟩
    · by_cases h0 : len = 0
      · left; subst h0; simp
      · have q := (World.cells?_some (hf 0 (by omega)).1).2.2 0 (by omega)
        rw [Nat.zero_mul, show (a.add 0).add 0 = a.add 0 by simp [Addr.add]] at q
        obtain ⟨b, off, rfl⟩ := plain_cell q
        refine .inr ⟨b, off, rfl, fun j hj => ?_⟩
        have hj' : j < len := by simpa using hj
        have e0 := (World.cells?_some (hf j hj').1).2.2 0 (by omega)
        have e1 := (World.cells?_some (hf j hj').1).2.2 1 (by omega)
        rw [add_twice] at e0 e1
        simp only [List.getElem_map, List.getElem_range]
        exact ⟨e0, e1, (hf j hj').2.2.2⟩
    · intro r hr
      obtain ⟨i, hi, rfl⟩ := List.mem_map.1 hr
      exact ⟨(hf i (List.mem_range.1 hi)).2.1, (hf i (List.mem_range.1 hi)).2.2.1⟩
end
def cellsE : List Ie → List Value
  | [] => []
  | r :: t => .string r.s :: r.v :: cellsE t
def OwnE (w : World) (n : Nat) (v : Value) (R : List Ie) : Prop := w.ownsRow n 24 2 v R.length (cellsE R) ∧ ∀ r ∈ R, OwnT w n r.v r.L
theorem OwnE.below {w w' : World} {n : Nat} {v : Value} {R : List Ie} (h : OwnE w n v R) (k : Below w.heap.size w w') : OwnE w' n v R :=
  ⟨World.ownsRow.kept h.1 (row := none) ⟨k.os, k.tape, k.output, k.size, fun i hi _ => k.block i hi⟩ (by
    cases e : v.ownBlock with
    | none => exact .inl rfl
    | some g => exact .inr (by simp)), fun r hr => (h.2 r hr).below k⟩
theorem OwnT.kept {w w' : World} {n g : Nat} {v : Value} {L : List Tr} {row : Option Nat} (h : OwnT w n v L) (k : w.grownBy w' row) (hr : ∀ q, row = some q → ∀ cur fz, w.heap[q]? ≠ some (.cells cur 68 fz)) : OwnT w' n v L :=
  World.ownsRow.kept h k (by
    cases e : v.ownBlock with
    | none => exact .inl rfl
    | some q =>
      refine .inr fun e' => ?_
      rcases h.2 with ⟨rfl, _⟩ | ⟨g', cap, cur, rfl, _, hg, _⟩
      · simp [Value.ownBlock] at e
      · simp only [Value.ownBlock, Option.some.injEq] at e
        subst e
        exact hr _ e'.symm _ _ hg)
end Go.Proofs.YtbbpkoaeedkncaaGreatDoor
namespace Go.Proofs.YtbbpkoaeedkncaaGreatDoor
open Go.RowKit Go.Shelf
attribute [local go_sem] Oper.semAt_some
def sT (s : ByteArray) : Str := s.data.toList
theorem sB_sT (s : ByteArray) : sB (sT s) = s := by
  obtain ⟨d⟩ := s
  show (⟨d.toList.toArray⟩ : ByteArray) = ⟨d⟩
  rw [Array.toArray_toList]
theorem sT_len (s : ByteArray) : (sT s).length = s.size := by unfold sT; rw [Array.length_toList]; rfl
def legB (s : ByteArray) (L : List Tr) : Bool := (findK (sT s) (canL (opc s) L)).isSome
theorem codeF_ne (op : Str) (I C : List Tr) : codeF op I C ≠ 0 := by
  unfold codeF
  split
  · assumption
  · split <;> decide
theorem legB_some {s : ByteArray} {L : List Tr} {k : Ke} (h : findK (sT s) (canL (opc s) L) = some k) : legB s L = true := by unfold legB; rw [h]; rfl
theorem legB_none {s : ByteArray} {L : List Tr} (h : findK (sT s) (canL (opc s) L) = none) : legB s L = false := by unfold legB; rw [h]; rfl
theorem sfind2_any (s : ByteArray) (hs : s.size ≤ 1000) (Ai : Option Addr) (capi li : Nat) (I : List Tr) (hli : I.length = li) (hLi : li ≤ 900) (w : World) (hM : MaxAt w) (HF : OpsP w Ai I) :
    Calls Tryz.prog 18 #[.agg #[.string s, .slice Ai li capi]] w (RetSrch w (sT s) I (findK (sT s) (canL (opc s) I))) := by
  have h := sfind_any (sT s) (by rw [sT_len]; exact hs) Ai capi li I hli hLi w hM HF
  rw [sB_sT] at h
  exact h
theorem legal_any (A : Option Addr) (cap n : Nat) (R : List Ie) (hn : R.length = n) (hL : n ≤ 1000) (hR : ∀ r ∈ R, r.s.size ≤ 1000 ∧ r.L.length ≤ 900) (w : World) (hM : MaxAt w) (H : InsP w A R) :
    Calls Tryz.prog 19 #[.slice A n cap] w fun e w' => e = .returned (.bool (R.all fun r => legB r.s r.L)) ∧ Below w.heap.size w w' := by
  have X := Lib.hid H
  have HN := Lib.hid hn
  have HM := Lib.hid hM
  have HR := Lib.hid hR
  clear H hM hn hR
  go_enter Tryz.func19, Tryz.ntmps19
  go_wp2
  go_loopw [9] (fun i wr => ∃ j : Nat, j ≤ n ∧ i = .int .i64 j ∧ Hid (∀ k (h : k < R.length), k < j → legB R[k].s R[k].L = true) ∧ Hid (Below w.heap.size w wr)) (fun i _ => n - (intOf i).toNat)
  case atStart => exact ⟨0, Nat.zero_le _, rfl, fun k h h2 => by omega, Below.refl _ _⟩
  case round =>
    obtain ⟨j, hj, rfl, R1, B⟩ := hrel
    by_cases hlt : j < n
    · have hj1 : j < R.length := by have := HN.out; omega
      obtain ⟨b1, o1, rfl, p0, p1, pO⟩ := (X.out.below B.out).at_ hj1
      have hr := HR.out _ (List.getElem_mem hj1)
      have HJ0 : Hid (∀ r : Ie, R[j] = r → legB r.s r.L = true → ∀ k (h : k < R.length), k < j + 1 → legB R[k].s R[k].L = true) := fun r e1 e2 k h h2 => by
        by_cases e : k = j
        · subst e
          rw [e1]
          exact e2
        · exact R1.out k h (by omega)
      have HF0 : Hid (∀ r : Ie, R[j] = r → legB r.s r.L = false → (R.all fun r => legB r.s r.L) = false) := fun r e1 e2 => by
        refine List.all_eq_false.2 ⟨r, e1 ▸ List.getElem_mem hj1, ?_⟩
        rw [e2]
        decide
      obtain ⟨r, hre⟩ : ∃ r, R[j] = r := ⟨_, rfl⟩
      have HJ := Lib.hid (HJ0.out r hre)
      have HF9 := Lib.hid (HF0.out r hre)
      clear HJ0 HF0
      rw [hre] at p0 p1 pO hr
      obtain ⟨s, As, cs, Ls⟩ := r
      simp only [Ie.v] at p0 p1 pO hr
      simp only at HJ HF9
      obtain ⟨ls, hls⟩ : ∃ z, Ls.length = z := ⟨_, rfl⟩
      rw [hls] at p1 hr
      obtain ⟨c, hc⟩ : ∃ z, wr.heap.size = z := ⟨_, rfl⟩
      obtain ⟨wa, hwa, a1, a2, a3⟩ := ins_box wr s (.slice As ls cs) c hc
      have BA : Hid (Below w.heap.size w wa) := B.out.trans (a2.mono B.out.size)
      have MA : MaxAt wa := HM.out.below BA.out
      have fi := sfind2_any s hr.1 As cs ls Ls hls hr.2 wa MA (pO.below a2)
      have v0 := Lib.cell_of_heap a1 0
      have v1 := Lib.cell_of_heap a1 1
      obtain ⟨o, ho⟩ : ∃ o, findK (sT s) (canL (opc s) Ls) = o := ⟨_, rfl⟩
      rw [ho] at fi
      have HO := Lib.hid ho
      clear hre hj1 a1 a2 a3 pO hr MA B ho R1 hls
      go_wp2_with fail
      refine fi.mono ?_
      rintro e w5 hres
      cases o with
      | some k =>
        obtain ⟨A2, c2, rfl, hO2, hb⟩ := hres
        have B5 : Hid (Below w.heap.size w w5) := BA.out.trans (hb.mono BA.out.size)
        have B6 := fun o => Lib.hid (B5.out.alloc B5.out.size o)
        have R2 := Lib.hid (HJ.out (legB_some HO.out))
        obtain ⟨kg, ko, km, kL, kex, kal⟩ := k
        obtain ⟨kl, hkl⟩ : ∃ z, kL.length = z := ⟨_, rfl⟩
        simp only [enV, hkl]
        clear fi hb hO2 HJ HF9 hkl
        go_wp2
        go_roundw
        case rel => exact ⟨j + 1, by omega, by go_num, R2.out, (B6 _).out⟩
        case measure => simp [intOf]; omega
      | none =>
        obtain ⟨rfl, hb⟩ := hres
        have B5 : Hid (Below w.heap.size w w5) := BA.out.trans (hb.mono BA.out.size)
        have B6 := fun o => Lib.hid (B5.out.alloc B5.out.size o)
        have T := Lib.hid (HF9.out (legB_none HO.out)).symm
        have hne := codeF_ne (sT s) Ls (canL (opc (sB (sT s))) Ls)
        obtain ⟨cd, hcd⟩ : ∃ z, codeF (sT s) Ls (canL (opc (sB (sT s))) Ls) = z := ⟨_, rfl⟩
        rw [hcd] at hne ⊢
        have e0 : (cd == 0) = false := beq_eq_false_iff_ne.2 hne
        simp only [enV]
        clear fi hb HJ HF9 hcd hne
        go_wp2
        go_ret
        exact ⟨ret_bool T.out, (B6 _).out⟩
    · have T : Hid (true = R.all fun r => legB r.s r.L) := by
        refine (List.all_eq_true.2 fun r hr => ?_).symm
        obtain ⟨k, hk, rfl⟩ := List.getElem_of_mem hr
        exact R1.out k hk (by have := HN.out; omega)
      clear R1
      go_wp2
      go_ret
      exact ⟨ret_bool T.out, B.out⟩
theorem sshort_any (s : ByteArray) (A : Option Addr) (cap n : Nat) (w : World) :
    Calls Tryz.prog 9 #[.agg #[.string s, .slice A n cap]] w fun e w' => e = .returned (.bool (decide (s.size ≤ 100) && decide (n ≤ 20))) ∧ Below w.heap.size w w' := by
  have hb : Hid (Below w.heap.size w (w.alloc (.cells #[.string s, .slice A n cap] 24))) := up1 _ _
  by_cases h1 : s.size ≤ 100
  · have g1 : ((s.size : Int) ≤ 100) := by omega
    by_cases h2 : n ≤ 20
    · have g2 : ((n : Int) ≤ 20) := by omega
      have T : Hid (true = (decide (s.size ≤ 100) && decide (n ≤ 20))) := by show _ = _; rw [decide_eq_true h1, decide_eq_true h2]; rfl
      clear h1 h2
      go_enter Tryz.func9, Tryz.ntmps9
      go_wp2
      go_ret
      exact ⟨ret_bool T.out, hb.out⟩
    · have g2 : ¬ ((n : Int) ≤ 20) := by omega
      have T : Hid (false = (decide (s.size ≤ 100) && decide (n ≤ 20))) := by show _ = _; rw [decide_eq_true h1, decide_eq_false h2]; rfl
      clear h1 h2
      go_enter Tryz.func9, Tryz.ntmps9
      go_wp2
      go_ret
      exact ⟨ret_bool T.out, hb.out⟩
  · have g1 : ¬ ((s.size : Int) ≤ 100) := by omega
    have T : Hid (false = (decide (s.size ≤ 100) && decide (n ≤ 20))) := by show _ = _; rw [decide_eq_false h1]; rfl
    clear h1
    go_enter Tryz.func9, Tryz.ntmps9
    go_wp2
    go_ret
    exact ⟨ret_bool T.out, hb.out⟩
end Go.Proofs.YtbbpkoaeedkncaaGreatDoor
namespace Go.Proofs.YtbbpkoaeedkncaaGreatDoor
open Go.RowKit Go.Shelf
attribute [local go_sem] Oper.semAt_some
def candQ (op : Str) (C : List Tr) : List Ke := (((pagesC C).flatMap fun p => (entsR p 256).filter fun e => decide (e.2.2.1 = op)).filter (shpE C)).filter notAl
theorem candN_Q (op : Str) (C : List Tr) : candN op C = candQ op C := by
  unfold candN candK candP candQ keysAll
  exact congrArg (fun f => ((List.flatMap f (pagesC C)).filter (shpE C)).filter notAl) (funext fun p => keysPg_named op p)
def exK : Ke := (3, 126, [76, 68], [(1, 7, 0), (5, 5, 0)], [100], false)
def isEx (o : Option Ke) : Bool := match o with
  | some k => decide (k.1 = 3) && decide (k.2.1 = 126) && decide (k.2.2.1 = [76, 68]) && decide (k.2.2.2.1 = [(1, 7, 0), (5, 5, 0)]) && decide (k.2.2.2.2.1 = [100]) && !k.2.2.2.2.2
  | none => false
theorem isEx_eq {o : Option Ke} (h : isEx o = true) : o = some exK := by
  cases o with
  | none => cases h
  | some k =>
    obtain ⟨a, b, c, d, e, f⟩ := k
    simp only [isEx, Bool.and_eq_true, decide_eq_true_eq, Bool.not_eq_true'] at h
    obtain ⟨⟨⟨⟨⟨rfl, rfl⟩, rfl⟩, rfl⟩, rfl⟩, rfl⟩ := h
    rfl
theorem ex_q0 : isEx ((candQ [76, 68] [(1, 7, 0), (5, 5, 5)]).find? (hasK [76, 68] [(1, 7, 0), (5, 5, 5)])) = true := by decide +kernel
theorem ex_q1 : ((candQ [76, 68] [(1, 7, 0), (5, 5, 5)]).find? (hasK [76, 68] [(1, 7, 0), (5, 5, 5)])) = some exK := isEx_eq ex_q0
theorem ex_q2 : ((candQ [66, 73, 84] [(6, 0, 8), (1, 7, 0)]).find? (hasK [66, 73, 84] [(6, 0, 8), (1, 7, 0)])).isNone = true ∧ (candQ [66, 73, 84] [(6, 0, 8), (1, 7, 0)]).isEmpty = false := by decide +kernel
theorem ex_c1 : canL (opc (sB [76, 68])) [(1, 7, 0), (5, 5, 5)] = [(1, 7, 0), (5, 5, 5)] := by decide +kernel
theorem ex_c2 : canL (opc (sB [66, 73, 84])) [(6, 0, 8), (1, 7, 0)] = [(6, 0, 8), (1, 7, 0)] := by decide +kernel
theorem ex_k2 : codeI (sB [66, 73, 84]) [(6, 0, 8), (1, 7, 0)] = 0 := by decide +kernel
theorem ex_f1 : findK [76, 68] (canL (opc (sB [76, 68])) [(1, 7, 0), (5, 5, 5)]) = some exK := by
  rw [ex_c1]
  unfold findK
  rw [candN_Q]
  exact ex_q1
theorem ex_f2 : findK [66, 73, 84] (canL (opc (sB [66, 73, 84])) [(6, 0, 8), (1, 7, 0)]) = none := by
  rw [ex_c2]
  unfold findK
  rw [candN_Q]
  exact Option.isNone_iff_eq_none.1 ex_q2.1
theorem ex_d2 : codeF [66, 73, 84] [(6, 0, 8), (1, 7, 0)] (canL (opc (sB [66, 73, 84])) [(6, 0, 8), (1, 7, 0)]) = 2 := by
  rw [ex_c2]
  unfold codeF
  rw [ex_k2, if_neg (by decide), candN_Q, ex_q2.2]
  rfl
theorem ex_v : valV [76, 68] [(1, 7, 0), (5, 5, 0)] [100] (sB [76, 68]) (canL (opc (sB [76, 68])) [(1, 7, 0), (5, 5, 5)]) = (5, 0) := by decide +kernel
theorem ex_u1 : upB ⟨#[76, 68]⟩ = ⟨#[76, 68]⟩ := ByteArray.ext (by decide +kernel)
theorem ex_u2 : upB ⟨#[66, 73, 84]⟩ = ⟨#[66, 73, 84]⟩ := ByteArray.ext (by decide +kernel)
theorem ops_two (w : World) (x y : Tr) : OpsP (w.alloc (.cells #[.int .i64 x.1, .int .i64 x.2.1, .int .i64 x.2.2, .int .i64 y.1, .int .i64 y.2.1, .int .i64 y.2.2] 68)) (some ⟨w.heap.size, 0, none⟩) [x, y] := by
  refine .inr ⟨_, 0, rfl, fun j hj => ?_⟩
  have : j = 0 ∨ j = 1 := by simp at hj; omega
  rcases this with rfl | rfl
  · exact ⟨by simp [go_sem], by simp [go_sem], by simp [go_sem]⟩
  · exact ⟨by simp [go_sem], by simp [go_sem], by simp [go_sem]⟩
theorem en_boxB (w : World) (g o : Int) (m : ByteArray) (v : Value) (ex : ByteArray) (al : Bool) (c : Nat) (hc : w.heap.size = c) : ∃ w', w.alloc (.cells #[.int .i64 g, .int .u8 o, .string m, v, .string ex, .bool al] 26) = w' ∧ w'.heap[c]? = some (.cells #[.int .i64 g, .int .u8 o, .string m, v, .string ex, .bool al] 26 (0, 0)) ∧ Below w.heap.size w w' ∧ w'.heap.size = c + 1 := by
  subst hc
  exact ⟨_, rfl, World.alloc_heap_new w _, up1 _ _, by simp⟩
theorem salive_any (w : World) (hM : MaxAt w) : Calls Tryz.prog 10 #[] w fun e w' => e = .returned (.bool true) ∧ Below w.heap.size w w' := by
  have mk1 := make_any ⟨#[76, 68]⟩ (by decide) (some ⟨w.heap.size, 0, none⟩) 2 [(1, 7, 0), (5, 5, 5)] (by decide) _ (ops_two w (1, 7, 0) (5, 5, 5))
  rw [ex_u1] at mk1
  have MK2 := fun (w' : World) => Lib.hid (make_any ⟨#[66, 73, 84]⟩ (by decide) (some ⟨w'.heap.size, 0, none⟩) 2 [(6, 0, 8), (1, 7, 0)] (by decide) _ (ops_two w' (6, 0, 8) (1, 7, 0)))
  rw [ex_u2] at MK2
  have B0 : Hid (Below w.heap.size w (w.alloc (.cells #[.int .i64 1, .int .i64 7, .int .i64 0, .int .i64 5, .int .i64 5, .int .i64 5] 68))) := up1 _ _
  have HM := Lib.hid hM
  have F1 : Hid (∀ (A : Option Addr) (cap : Nat) (w' : World), MaxAt w' → OpsP w' A [(1, 7, 0), (5, 5, 5)] → Calls Tryz.prog 18 #[.agg #[.string ⟨#[76, 68]⟩, .slice A 2 cap]] w' (RetSrch w' [76, 68] [(1, 7, 0), (5, 5, 5)] (some exK))) := fun A cap w' h1 h2 => by
    have h := sfind_any [76, 68] (by decide) A cap 2 _ rfl (by decide) w' h1 h2
    rw [ex_f1] at h
    exact h
  have F2 : Hid (∀ (A : Option Addr) (cap : Nat) (w' : World), MaxAt w' → OpsP w' A [(6, 0, 8), (1, 7, 0)] → Calls Tryz.prog 18 #[.agg #[.string ⟨#[66, 73, 84]⟩, .slice A 2 cap]] w' (RetSrch w' [66, 73, 84] [(6, 0, 8), (1, 7, 0)] none)) := fun A cap w' h1 h2 => by
    have h := sfind_any [66, 73, 84] (by decide) A cap 2 _ rfl (by decide) w' h1 h2
    rw [ex_f2] at h
    exact h
  have VA : Hid (∀ (Ae : Option Addr) (ce : Nat) (A : Option Addr) (cap : Nat) (w' : World), OpsP w' Ae [(1, 7, 0), (5, 5, 0)] → OpsP w' A [(1, 7, 0), (5, 5, 5)] → Calls Tryz.prog 11 #[.agg #[.int .i64 3, .int .u8 126, .string ⟨#[76, 68]⟩, .slice Ae 2 ce, .string ⟨#[100]⟩, .bool false], .agg #[.string ⟨#[76, 68]⟩, .slice A 2 cap]] w' fun e w'' => e = .returned (.tuple #[.int .i64 5, .int .i64 0]) ∧ Below w'.heap.size w' w'') := fun Ae ce A cap w' h1 h2 => by
    have h := svalues_any 3 126 [76, 68] (by decide) ex_u1 Ae ce 2 _ rfl (by decide) [100] (by decide) false (sB [76, 68]) A cap 2 _ rfl (by decide) w' h1 h2
    rw [ex_v] at h
    exact h
  clear hM
  go_enter Tryz.func10, Tryz.ntmps10
  go_wp2_with fail
  refine mk1.mono ?_
  rintro e w1 ⟨v, rfl, hO, hb⟩
  obtain ⟨A1, c1, rfl, hP, -⟩ := hO.ops
  have B1 : Hid (Below w.heap.size w w1) := B0.out.trans (hb.mono B0.out.size)
  obtain ⟨b, hbs⟩ : ∃ b, w1.heap.size = b := ⟨_, rfl⟩
  obtain ⟨w2, hw2, y1, y2, y3⟩ := ins_box w1 ⟨#[76, 68]⟩ (.slice A1 2 c1) b hbs
  have B2 : Hid (Below w.heap.size w w2) := B1.out.trans (y2.mono B1.out.size)
  have Q2 := Lib.hid (hP.below y2)
  have M2 : Hid (MaxAt w2) := HM.out.below B2.out
  have f1 := F1.out A1 c1 w2 M2.out Q2.out
  have Y1 := Lib.hid y1
  have j0 := Lib.cell_of_heap y1 0
  have j1 := Lib.cell_of_heap y1 1
  clear mk1 hO hP hb B0 B1 y1 y2 HM F1
  go_wp2_with fail
  refine f1.mono ?_
  rintro e w3 ⟨A2, c2, rfl, hP, hb⟩
  simp only [exK, enV]
  rw [show sB [76, 68] = (⟨#[76, 68]⟩ : ByteArray) from rfl, show sB [100] = (⟨#[100]⟩ : ByteArray) from rfl, show ([(1, 7, 0), (5, 5, 0)] : List Tr).length = 2 from rfl]
  go_upto_region 3 with fail
  obtain ⟨c, hcs⟩ : ∃ c, w3.heap.size = c := ⟨_, rfl⟩
  obtain ⟨w4, hw4, x1, x2, x3⟩ := en_boxB w3 3 126 ⟨#[76, 68]⟩ (.slice A2 2 c2) ⟨#[100]⟩ false c hcs
  have bb := hb.trans (x2.mono hb.size)
  have hbc : b + 1 ≤ c := by have := hb.size; omega
  have B4 : Hid (Below w.heap.size w w4) := B2.out.trans (bb.mono B2.out.size)
  have Q4 := Lib.hid (Q2.out.below bb)
  have P4 : Hid (OpsP w4 A2 [(1, 7, 0), (5, 5, 0)]) := OpsP.below hP x2
  have M4 : Hid (MaxAt w4) := M2.out.below bb
  have Y4 := Lib.hid ((bb.block b (by omega)).trans Y1.out)
  have X4 := Lib.hid x1
  have va := VA.out A2 c2 A1 c1 w4 P4.out Q4.out
  have j0 := Lib.cell_of_heap Y4.out 0
  have j1 := Lib.cell_of_heap Y4.out 1
  have i0 := Lib.cell_of_heap x1 0
  have i1 := Lib.cell_of_heap x1 1
  have i2 := Lib.cell_of_heap x1 2
  have i3 := Lib.cell_of_heap x1 3
  have i4 := Lib.cell_of_heap x1 4
  have i5 := Lib.cell_of_heap x1 5
  rw [hw4, hcs]
  have sz4 : w4.heap.size = c + 1 := x3
  clear f1 hb hP bb x1 x2 B2 Q2 M2 Y1 VA
  go_wp2_with fail
  refine va.mono ?_
  rintro e w5 ⟨rfl, hb⟩
  have B5 : Hid (Below w.heap.size w w5) := B4.out.trans (hb.mono B4.out.size)
  have M5 : Hid (MaxAt w5) := M4.out.below hb
  have X5 := Lib.hid ((hb.block c (by omega)).trans X4.out)
  have Z5 : Hid (c + 1 ≤ w5.heap.size) := by have := hb.size; show _ ≤ _; omega
  have mk2 := (MK2 w5).out
  have b6 := up1 w5 (.cells #[.int .i64 6, .int .i64 0, .int .i64 8, .int .i64 1, .int .i64 7, .int .i64 0] 68)
  have B6 := Lib.hid (B5.out.trans (b6.mono B5.out.size))
  have M6 := Lib.hid (M5.out.below b6)
  have X6 := Lib.hid ((b6.block c (by have := Z5.out; omega)).trans X5.out)
  have Z6 := Lib.hid (Nat.le_trans Z5.out b6.size)
  clear va hb B4 Q4 P4 M4 Y4 X4 B5 M5 X5 Z5 MK2 b6 sz4 i0 i1 i2 i3 i4 i5 j0 j1 hw4 hcs hw2 hbs
  go_wp2_with fail
  refine mk2.mono ?_
  rintro e w7 ⟨v, rfl, hO, hb⟩
  obtain ⟨A7, c7, rfl, hP, -⟩ := hO.ops
  have B7 : Hid (Below w.heap.size w w7) := B6.out.trans (hb.mono B6.out.size)
  have M7 := M6.out.below hb
  have X7 := Lib.hid ((hb.block c (by have := Z6.out; omega)).trans X6.out)
  have f2 := F2.out A7 c7 w7 M7 hP
  have Z7 := Lib.hid (Nat.le_trans Z6.out hb.size)
  clear mk2 hO hP hb B6 M6 X6 Z6 F2 M7
  go_wp2_with fail
  refine f2.mono ?_
  rintro e w8 ⟨rfl, hb⟩
  rw [ex_d2]
  have B8 : Hid (Below w.heap.size w w8) := B7.out.trans (hb.mono B7.out.size)
  have B9 := fun o => Lib.hid (B8.out.alloc B8.out.size o)
  have x8 := fun o => ((up1 w8 o).block c (by have := Z7.out; have := hb.size; omega)).trans ((hb.block c (by have := Z7.out; omega)).trans X7.out)
  have i0 := fun o => Lib.cell_of_heap (x8 o) 0
  have i1 := fun o => Lib.cell_of_heap (x8 o) 1
  simp only [enV]
  rw [show sB [] = (⟨#[]⟩ : ByteArray) from rfl]
  clear f2 hb B7 X7 Z7 B8 x8
  go_wp2
  go_ret
  exact ⟨rfl, (B9 _).out⟩
end Go.Proofs.YtbbpkoaeedkncaaGreatDoor
