/-
  slices.EqualFunc at rows of entries that read the same.
-/
import Derived.Test.YtipgecdfnbldnaaGreatDoorMCoG
import Derived.Test.YtipgecdfnbldnaaGreatDoorReS
set_option linter.all false
set_option maxRecDepth 100000
set_option maxHeartbeats 4000000
namespace Go.Proofs.YtipgecdfnbldnaaGreatDoor
open Go.RowKit Go.Shelf
attribute [local go_sem] Oper.semAt_some
def SameFn (g : Nat) : Prop := ∀ (page op : Int) (m ex : Str) (al : Bool) (A1 A2 : Option Addr) (c1 c2 : Nat) (L : List Tr), L.length ≤ 1000 → ∀ w : World, OpsP w A1 L → OpsP w A2 L →
  Calls Tryz.prog g #[enV page op m (.slice A1 L.length c1) ex al, enV page op m (.slice A2 L.length c2) ex al] w fun e w' => e = .returned (.bool true) ∧ Below w.heap.size w w'
theorem same_page : SameFn 19 := fun page op m ex al A1 A2 c1 c2 L hL w H1 H2 => by
  have hs := fun o1 o2 => rsameE_any page op m ex al A1 A2 c1 c2 L hL ((w.alloc o1).alloc o2) (H1.below (al2 w o1 o2)) (H2.below (al2 w o1 o2))
  simp only [enV] at hs ⊢
  have UU := Lib.hid (al2 w)
  obtain ⟨ll, hll⟩ : ∃ z, L.length = z := ⟨_, rfl⟩
  rw [hll] at hs ⊢
  clear H1 H2 hL hll
  go_enter Tryz.func19, Tryz.ntmps19
  go_wp2_with fail
  refine (hs _ _).mono ?_
  rintro e w' ⟨rfl, hb⟩
  have B : Hid (Below w.heap.size w w') := (UU.out _ _).trans (hb.mono (UU.out _ _).size)
  clear hs hb
  go_wp2
  go_ret
  exact ⟨rfl, B.out⟩
theorem same_named : SameFn 21 := fun page op m ex al A1 A2 c1 c2 L hL w H1 H2 => by
  have hs := fun o1 o2 => rsameE_any page op m ex al A1 A2 c1 c2 L hL ((w.alloc o1).alloc o2) (H1.below (al2 w o1 o2)) (H2.below (al2 w o1 o2))
  simp only [enV] at hs ⊢
  have UU := Lib.hid (al2 w)
  obtain ⟨ll, hll⟩ : ∃ z, L.length = z := ⟨_, rfl⟩
  rw [hll] at hs ⊢
  clear H1 H2 hL hll
  go_enter Tryz.func21, Tryz.ntmps21
  go_wp2_with fail
  refine (hs _ _).mono ?_
  rintro e w' ⟨rfl, hb⟩
  have B : Hid (Below w.heap.size w w') := (UU.out _ _).trans (hb.mono (UU.out _ _).size)
  clear hs hb
  go_wp2
  go_ret
  exact ⟨rfl, B.out⟩
theorem ee_at {w : World} {A : Option Addr} {R : List Ee} (h : EsP w A R) {k : Nat} (hk : k < R.length) {g o : Int} {m ex : Str} {L : List Tr} {al : Bool} (hr : R[k].k = (g, o, m, L, ex, al)) :
    ∃ b off A1 c1, A = some ⟨b, off, none⟩ ∧ b < w.heap.size ∧ w.cell? ⟨b, off + k * 6, none⟩ = some (.int .i64 g) ∧ w.cell? ⟨b, off + k * 6 + 1, none⟩ = some (.int .u8 o) ∧ w.cell? ⟨b, off + k * 6 + 2, none⟩ = some (.string (sB m)) ∧ w.cell? ⟨b, off + k * 6 + 3, none⟩ = some (.slice A1 L.length c1) ∧ w.cell? ⟨b, off + k * 6 + 4, none⟩ = some (.string (sB ex)) ∧ w.cell? ⟨b, off + k * 6 + 5, none⟩ = some (.bool al) ∧ OpsP w A1 L := by
  obtain ⟨b, off, rfl, hb, h0, h1, h2, h3, h4, h5, hO⟩ := h.at_ hk
  unfold Ee.k at hr
  simp only [Prod.mk.injEq] at hr
  obtain ⟨rfl, rfl, rfl, rfl, rfl, rfl⟩ := hr
  exact ⟨b, off, _, _, rfl, hb, h0, h1, h2, h3, h4, h5, hO⟩
theorem equalF_any (g : Nat) (eg : ∀ args w, (callFunc g args).run Tryz.prog w = .ok (.enter g args) w) (S : SameFn g) (A1 A2 : Option Addr) (c1 c2 : Nat) (R1 R2 : List Ee) (hK : R1.map Ee.k = R2.map Ee.k) (hL : ∀ r ∈ R1, r.L.length ≤ 1000) (hn : R1.length ≤ 100000) (w : World) (H1 : EsP w A1 R1) (H2 : EsP w A2 R2) :
    Calls Tryz.prog 17 #[.slice A1 R1.length c1, .slice A2 R2.length c2, .func (.func g) #[] #[]] w fun e w' => e = .returned (.bool true) ∧ Below w.heap.size w w' := by
  have hll : R2.length = R1.length := by have := congrArg List.length hK; rw [List.length_map, List.length_map] at this; exact this.symm
  rw [hll]
  have H1 := Lib.hid H1
  have H2 := Lib.hid H2
  have HS := Lib.hid S
  have HK := Lib.hid hK
  have HL := Lib.hid hL
  have HLL := Lib.hid hll
  obtain ⟨n, hnn⟩ : ∃ n, R1.length = n := ⟨_, rfl⟩
  rw [hnn] at hn ⊢
  have HN := Lib.hid hnn
  have B0 : Hid (Below w.heap.size w w) := Below.refl _ _
  clear S hK hL hll hnn
  go_enter Tryz.func17, Tryz.ntmps17
  go_wp2
  go_loopw [17] (fun i wr => ∃ k : Nat, k ≤ n ∧ i = .int .i64 (k : Int) ∧ Hid (Below w.heap.size w wr)) (fun i _ => n - (intOf i).toNat)
  case atStart => exact ⟨0, Nat.zero_le _, rfl, B0.out⟩
  case round =>
    clear B0
    obtain ⟨k, hk, rfl, BW⟩ := hrel
    by_cases hlt : k < n
    · have hk1 : k < R1.length := by rw [HN.out]; exact hlt
      have hk2 : k < R2.length := by rw [HLL.out]; exact hk1
      obtain ⟨⟨pg, o, m, L, ex, al⟩, hkey⟩ : ∃ z, R1[k].k = z := ⟨_, rfl⟩
      have hkey2 : R2[k].k = (pg, o, m, L, ex, al) := by
        rw [← hkey]
        have h := congrArg (fun l => l[k]?) HK.out
        simp only [List.getElem?_map, List.getElem?_eq_getElem hk1, List.getElem?_eq_getElem hk2, Option.map_some, Option.some.injEq] at h
        exact h.symm
      have hLl : L.length ≤ 1000 := by
        have h := HL.out _ (List.getElem_mem hk1)
        have e : R1[k].L = L := congrArg (fun z : Ke => z.2.2.2.1) hkey
        rwa [e] at h
      have E1 := H1.out.below BW.out
      have E2 := H2.out.below BW.out
      obtain ⟨b1, o1, A5, c5, rfl, hb1, d0, d1, d2, d3, d4, d5, dO⟩ := ee_at E1 hk1 hkey
      obtain ⟨b2, o2, A6, c6, rfl, hb2, e0, e1, e2, e3, e4, e5, eO⟩ := ee_at E2 hk2 hkey2
      obtain ⟨wa, hwa⟩ : ∃ z, wr.alloc (.cells #[.int .i64 pg, .int .u8 o, .string (sB m), .slice A5 L.length c5, .string (sB ex), .bool al] 27) = z := ⟨_, rfl⟩
      obtain ⟨wb, hwb⟩ : ∃ z, wa.alloc (.cells #[.int .i64 pg, .int .u8 o, .string (sB m), .slice A6 L.length c6, .string (sB ex), .bool al] 30) = z := ⟨_, rfl⟩
      obtain ⟨q1, hq1⟩ : ∃ z, wr.heap.size = z := ⟨_, rfl⟩
      obtain ⟨q2, hq2⟩ : ∃ z, wa.heap.size = z := ⟨_, rfl⟩
      have ba : Below wr.heap.size wr wa := by rw [← hwa]; exact up_alloc _ _
      have bb : Below wa.heap.size wa wb := by rw [← hwb]; exact up_alloc _ _
      have bab : Below wr.heap.size wr wb := ba.trans (bb.mono ba.size)
      have ca : wa.heap[q1]? = some (.cells #[.int .i64 pg, .int .u8 o, .string (sB m), .slice A5 L.length c5, .string (sB ex), .bool al] 27 (0, 0)) := by rw [← hwa, ← hq1]; exact World.alloc_heap_new wr _
      have cb : wb.heap[q2]? = some (.cells #[.int .i64 pg, .int .u8 o, .string (sB m), .slice A6 L.length c6, .string (sB ex), .bool al] 30 (0, 0)) := by rw [← hwb, ← hq2]; exact World.alloc_heap_new wa _
      have cb1 := (bb.block q1 (Array.getElem?_eq_some_iff.1 ca).1).trans ca
      have s0 := Lib.cell_of_heap cb1 0
      have s1 := Lib.cell_of_heap cb1 1
      have s2 := Lib.cell_of_heap cb1 2
      have s3 := Lib.cell_of_heap cb1 3
      have s4 := Lib.cell_of_heap cb1 4
      have s5 := Lib.cell_of_heap cb1 5
      have t0 := Lib.cell_of_heap cb 0
      have t1 := Lib.cell_of_heap cb 1
      have t2 := Lib.cell_of_heap cb 2
      have t3 := Lib.cell_of_heap cb 3
      have t4 := Lib.cell_of_heap cb 4
      have t5 := Lib.cell_of_heap cb 5
      have g0 := (ba.cell hb2).trans e0
      have g1 := (ba.cell hb2).trans e1
      have g2 := (ba.cell hb2).trans e2
      have g3 := (ba.cell hb2).trans e3
      have g4 := (ba.cell hb2).trans e4
      have g5 := (ba.cell hb2).trans e5
      have hs := HS.out pg o m ex al A5 A6 c5 c6 L hLl wb (dO.below bab) (eO.below bab)
      simp only [enV] at hs
      have BB : Hid (Below w.heap.size w wb) := BW.out.trans (bab.mono BW.out.size)
      obtain ⟨ll, hll⟩ : ∃ z, L.length = z := ⟨_, rfl⟩
      rw [hll] at hs d3 s3 t3 g3 hwa hwb
      have HLT := Lib.hid hlt
      have HQ2 := Lib.hid hq2
      clear hk hk1 hk2 hkey hkey2 hLl E1 E2 hb1 hb2 dO eO e0 e1 e2 e3 e4 e5 ba bb bab ca cb cb1 BW hll
      go_wp2_with fail
      refine hs.mono ?_
      rintro e w' ⟨rfl, hb⟩
      have B2 : Hid (Below w.heap.size w w') := BB.out.trans (hb.mono BB.out.size)
      clear hs hb BB
      go_wp2
      go_roundw
      case rel => exact ⟨k + 1, HLT.out, by go_num, B2.out⟩
      case measure => have := HLT.out; simp [intOf]; omega
    · obtain rfl : k = n := by omega
      go_wp2
      go_ret
      exact ⟨rfl, BW.out⟩
end Go.Proofs.YtipgecdfnbldnaaGreatDoor
