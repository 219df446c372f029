/-
  The reference's cells and runs in memory; walks over breadboardref02.Find, Get, Same, Few.
-/
import Derived.Test.YtllfebekanafhaaImgM
namespace Go.Proofs.Ytllfebekanafhaa
open Go.RowKit
set_option linter.unusedVariables false

/-- A slice of cells that reads as W, in a block that has the property P. -/
def CellsP (P : Nat → Prop) (w : World) (A : Option Addr) (W : List Cel) : Prop :=
  W = [] ∨ ∃ b off, A = some ⟨b, off, none⟩ ∧ P b ∧ ∀ j (h : j < W.length), w.cell? ⟨b, off + j * 2, none⟩ = some (.int .i64 (W[j].1 : Int)) ∧ w.cell? ⟨b, off + j * 2 + 1, none⟩ = some (.int .u8 (W[j].2.toNat : Int))
theorem CellsP.at_ {P : Nat → Prop} {w : World} {A : Option Addr} {W : List Cel} (h : CellsP P w A W) {k : Nat} (hk : k < W.length) :
    ∃ b off, A = some ⟨b, off, none⟩ ∧ w.cell? ⟨b, off + k * 2, none⟩ = some (.int .i64 (W[k].1 : Int)) ∧ w.cell? ⟨b, off + k * 2 + 1, none⟩ = some (.int .u8 (W[k].2.toNat : Int)) := by
  rcases h with rfl | ⟨b, off, rfl, _, hc⟩
  · simp at hk
  · exact ⟨b, off, rfl, (hc k hk).1, (hc k hk).2⟩
theorem CellsP.mono {P Q : Nat → Prop} {w : World} {A : Option Addr} {W : List Cel} (h : CellsP P w A W) (hPQ : ∀ i, i < w.heap.size → P i → Q i) : CellsP Q w A W := by
  by_cases hx : W = []
  · exact .inl hx
  · rcases h with rfl | ⟨b, off, rfl, hp, hc⟩
    · exact .inl rfl
    · exact .inr ⟨b, off, rfl, hPQ b (World.block_lt_of_cell? w _ (hc 0 (List.length_pos_iff.2 hx)).1) hp, hc⟩
theorem CellsP.blocks {P : Nat → Prop} {w w' : World} {A : Option Addr} {W : List Cel} (h : CellsP P w A W) (hk : ∀ i, i < w.heap.size → P i → w'.heap[i]? = w.heap[i]?) : CellsP P w' A W := by
  rcases h with rfl | ⟨b, off, rfl, hp, hc⟩
  · exact .inl rfl
  · refine .inr ⟨b, off, rfl, hp, fun j hj => ?_⟩
    have e := hk b (World.block_lt_of_cell? w _ (hc j hj).1) hp
    exact ⟨(World.cell?_of_block (w := w) e).trans (hc j hj).1, (World.cell?_of_block (w := w) e).trans (hc j hj).2⟩
theorem CellsP.below {P : Nat → Prop} {w w' : World} {A : Option Addr} {W : List Cel} (h : CellsP P w A W) (hb : Below w.heap.size w w') : CellsP P w' A W := h.blocks fun i hi _ => hb.block i hi
theorem CellsP.keep {P : Nat → Prop} {w w' : World} {b : Nat} {A : Option Addr} {W : List Cel} (h : CellsP P w A W) (hb : Keep b w w') (hP : ¬ P b) : CellsP P w' A W := h.blocks fun i hi hp => hb.block i hi fun e => hP (e ▸ hp)
theorem CellsP.drewN {P : Nat → Prop} {w : World} {A : Option Addr} {W : List Cel} (h : CellsP P w A W) (n : Nat) : CellsP P (w.drewN n) A W := h.blocks fun _ _ _ => rfl

/-- One run in memory: its address, and the slice of its bytes. -/
structure R where
  addr : Int
  A : Option Addr
  cap : Nat
  data : List UInt8
instance : Inhabited R := ⟨⟨0, none, 0, []⟩⟩
/-- A slice of runs, in a block that has the property S; the bytes' blocks have the property P. -/
def RunsP (S P : Nat → Prop) (w : World) (A : Option Addr) (rs : List R) : Prop :=
  (rs = [] ∨ ∃ b off, A = some ⟨b, off, none⟩ ∧ S b ∧ ∀ j (h : j < rs.length), w.cell? ⟨b, off + j * 2, none⟩ = some (.int .i64 rs[j].addr) ∧ w.cell? ⟨b, off + j * 2 + 1, none⟩ = some (.slice rs[j].A rs[j].data.length rs[j].cap)) ∧
  ∀ r ∈ rs, BytesP P w r.A r.data
theorem RunsP.at_ {S P : Nat → Prop} {w : World} {A : Option Addr} {rs : List R} (h : RunsP S P w A rs) {k : Nat} (hk : k < rs.length) :
    ∃ b off, A = some ⟨b, off, none⟩ ∧ w.cell? ⟨b, off + k * 2, none⟩ = some (.int .i64 rs[k].addr) ∧ w.cell? ⟨b, off + k * 2 + 1, none⟩ = some (.slice rs[k].A rs[k].data.length rs[k].cap) := by
  rcases h.1 with rfl | ⟨b, off, rfl, _, hc⟩
  · simp at hk
  · exact ⟨b, off, rfl, (hc k hk).1, (hc k hk).2⟩
theorem RunsP.mono {S T P Q : Nat → Prop} {w : World} {A : Option Addr} {rs : List R} (h : RunsP S P w A rs) (hST : ∀ i, i < w.heap.size → S i → T i) (hPQ : ∀ i, i < w.heap.size → P i → Q i) : RunsP T Q w A rs := by
  refine ⟨?_, fun r hr => (h.2 r hr).mono hPQ⟩
  by_cases hx : rs = []
  · exact .inl hx
  · rcases h.1 with rfl | ⟨b, off, rfl, hp, hc⟩
    · exact .inl rfl
    · exact .inr ⟨b, off, rfl, hST b (World.block_lt_of_cell? w _ (hc 0 (List.length_pos_iff.2 hx)).1) hp, hc⟩
theorem RunsP.blocks {S P : Nat → Prop} {w w' : World} {A : Option Addr} {rs : List R} (h : RunsP S P w A rs) (hs : ∀ i, i < w.heap.size → S i → w'.heap[i]? = w.heap[i]?) (hk : ∀ i, i < w.heap.size → P i → w'.heap[i]? = w.heap[i]?) : RunsP S P w' A rs := by
  refine ⟨?_, fun r hr => (h.2 r hr).blocks hk⟩
  rcases h.1 with rfl | ⟨b, off, rfl, hp, hc⟩
  · exact .inl rfl
  · refine .inr ⟨b, off, rfl, hp, fun j hj => ?_⟩
    have e := hs b (World.block_lt_of_cell? w _ (hc j hj).1) hp
    exact ⟨(World.cell?_of_block (w := w) e).trans (hc j hj).1, (World.cell?_of_block (w := w) e).trans (hc j hj).2⟩
theorem RunsP.below {S P : Nat → Prop} {w w' : World} {A : Option Addr} {rs : List R} (h : RunsP S P w A rs) (hb : Below w.heap.size w w') : RunsP S P w' A rs := h.blocks (fun i hi _ => hb.block i hi) fun i hi _ => hb.block i hi
theorem RunsP.keep {S P : Nat → Prop} {w w' : World} {b : Nat} {A : Option Addr} {rs : List R} (h : RunsP S P w A rs) (hb : Keep b w w') (hS : ¬ S b) (hP : ¬ P b) : RunsP S P w' A rs := h.blocks (fun i hi hp => hb.block i hi fun e => hS (e ▸ hp)) fun i hi hp => hb.block i hi fun e => hP (e ▸ hp)
theorem RunsP.drewN {S P : Nat → Prop} {w : World} {A : Option Addr} {rs : List R} (h : RunsP S P w A rs) (n : Nat) : RunsP S P (w.drewN n) A rs := h.blocks (fun _ _ _ => rfl) fun _ _ _ => rfl

set_option maxHeartbeats 400000 in
theorem find_any (P : Nat → Prop) (A : Option Addr) (cap : Nat) (W : List Cel) (hl : W.length ≤ maxLen) (a : Int) (w : World) (hW : CellsP P w A W) :
    Calls Try.prog 27 #[.slice A W.length cap, .int .i64 a] w fun e w' => e = .returned (.int .i64 (findW W a)) ∧ w = w' := by
  unfold maxLen at hl
  have Z := Lib.hid hW
  clear hW
  go_enter Try.func27, Try.ntmps27
  go_wp2
  go_loop [5] (fun i => ∃ k : Nat, k ≤ W.length ∧ i = .int .i64 k ∧ Hid (∀ j (h : j < W.length), j < k → (W[j].1 : Int) < a)) (fun i => W.length - (intOf i).toNat)
  case atStart => exact ⟨0, Nat.zero_le _, rfl, fun j h h' => by omega⟩
  case round =>
    obtain ⟨k, hk, rfl, R⟩ := hrel
    by_cases hlt : k < W.length
    · obtain ⟨b, off, hA, g1, g2⟩ := Z.out.at_ hlt
      subst hA
      obtain ⟨x, hx⟩ : ∃ x : Int, (W[k].1 : Int) = x := ⟨_, rfl⟩
      rw [hx] at g1
      have X := Lib.hid hx
      clear hx g2
      have hlt' : (k : Int) < (W.length : Int) := by omega
      by_cases h1 : x < a
      · have N : Hid (∀ j (h : j < W.length), j < k + 1 → (W[j].1 : Int) < a) := fun j h h' => by
          by_cases e : j = k
          · subst e; rw [X.out]; exact h1
          · exact R.out j h (by omega)
        go_wp2
        go_round
        case rel => exact ⟨k + 1, by omega, by go_num, N⟩
        case measure => simp [intOf]; omega
      · have N : Hid (findW W a = k) := findW_of W a k hk R.out fun h => by rw [X.out]; exact h1
        go_wp2
        go_ret
        exact ⟨ret_int (by rw [N.out]), rfl⟩
    · have N : Hid (findW W a = k) := findW_of W a k hk R.out fun h => absurd h hlt
      have hlt' : decide ((k : Int) < (W.length : Int)) = false := decide_eq_false (by omega)
      go_wp2
      go_ret
      exact ⟨ret_int (by rw [N.out]), rfl⟩

/-- What Get of the reference answers: the byte, or 0. -/
def getV (W : List Cel) (a : Int) : UInt8 := if addrB a then byteW W a.toNat else 0
def getOk (W : List Cel) (a : Int) : Bool := addrB a && hasW W a.toNat
theorem get_hit {W : List Cel} (hs : SortedW W) (a : Int) (k : Nat) (hk : k < W.length) (h : (W[k].1 : Int) = a) : getV W a = W[k].2 ∧ getOk W a = true := by
  have hm := List.getElem_mem hk
  have h1 := hs.2 _ hm
  have ha : addrB a = true := by unfold addrB; rw [decide_eq_true (by omega), decide_eq_true (by omega)]; rfl
  have e : a.toNat = W[k].1 := by omega
  unfold getV getOk
  rw [ha, e]
  exact ⟨by rw [if_pos rfl]; exact byteW_mem hs.1 hm, by rw [Bool.true_and]; exact hasW_iff.2 ⟨_, hm, rfl⟩⟩
theorem get_miss {W : List Cel} (hs : SortedW W) (a : Int) (h : ∀ h : findW W a < W.length, (W[findW W a].1 : Int) ≠ a) : getV W a = 0 ∧ getOk W a = false := by
  cases ha : addrB a
  · unfold getV getOk; rw [ha]; exact ⟨rfl, rfl⟩
  · have hw : hasW W a.toNat = false := hasW_false.2 fun c hc e => by
      have h0 : (c.1 : Int) = a := by
        unfold addrB at ha
        rw [Bool.and_eq_true, decide_eq_true_eq, decide_eq_true_eq] at ha
        omega
      rcases (mem_split W (findW W a) c).1 hc with h3 | h3
      · have := mem_take_findW h3; omega
      · have hlt : findW W a < W.length := by
          rcases Nat.lt_or_ge (findW W a) W.length with h4 | h4
          · exact h4
          · rw [List.drop_eq_nil_of_le h4] at h3; cases h3
        have hne := h hlt
        have hp := hs.1.sublist (List.drop_sublist (findW W a) W)
        have hd : ∀ c ∈ W.drop (findW W a), a ≤ (c.1 : Int) := fun c hc => mem_drop_findW hs.1 hc
        rw [List.drop_eq_getElem_cons hlt] at h3 hp hd
        have h6 := hd _ List.mem_cons_self
        rw [List.pairwise_cons] at hp
        rcases List.mem_cons.1 h3 with e2 | h5
        · rw [e2] at h0; exact hne h0
        · have := hp.1 c h5; omega
    unfold getV getOk
    rw [ha, hw, byteW_none hw]
    exact ⟨rfl, rfl⟩
theorem ret_u8b {a b : UInt8} {p q : Bool} (h : a = b) (h' : p = q) : Ending.returned (.tuple #[.int .u8 (a.toNat : Int), .bool p]) = .returned (.tuple #[.int .u8 (b.toNat : Int), .bool q]) := by rw [h, h']
set_option maxHeartbeats 400000 in
theorem rget_any (P : Nat → Prop) (A : Option Addr) (cap : Nat) (W : List Cel) (hs : SortedW W) (a : Int) (w : World) (hW : CellsP P w A W) :
    Calls Try.prog 19 #[.slice A W.length cap, .int .i64 a] w fun e w' => e = .returned (.tuple #[.int .u8 ((getV W a).toNat : Int), .bool (getOk W a)]) ∧ w = w' := by
  have hl := sorted_length hs
  have Z := Lib.hid hW
  have hf := find_any P A cap W (by unfold maxLen; omega) a w hW
  obtain ⟨k, hk⟩ : ∃ k, findW W a = k := ⟨_, rfl⟩
  rw [hk] at hf
  clear hW
  by_cases hlt : k < W.length
  · obtain ⟨b, off, hA, g1, g2⟩ := Z.out.at_ hlt
    subst hA
    have hlt' : (k : Int) < (W.length : Int) := by omega
    by_cases he : (W[k].1 : Int) = a
    · have N := Lib.hid (get_hit hs a k hlt he)
      rw [he] at g1
      clear he hs hl hk
      go_enter Try.func19, Try.ntmps19
      go_wp2_with fail
      refine hf.mono ?_
      rintro e w1 ⟨rfl, rfl⟩
      go_wp2
      go_ret2
      exact ⟨ret_u8b N.out.1.symm N.out.2.symm, rfl⟩
    · have N := Lib.hid (get_miss hs a (by rw [hk]; exact fun _ => he))
      obtain ⟨x, hx⟩ : ∃ x : Int, (W[k].1 : Int) = x := ⟨_, rfl⟩
      rw [hx] at g1 he
      have he' : (x == a) = false := beq_eq_false_iff_ne.2 he
      clear hx g2 hs hl hk he
      go_enter Try.func19, Try.ntmps19
      go_wp2_with fail
      refine hf.mono ?_
      rintro e w1 ⟨rfl, rfl⟩
      go_wp2
      go_ret2
      exact ⟨ret_u8b (b := getV W a) (a := 0) N.out.1.symm N.out.2.symm, rfl⟩
  · have N := Lib.hid (get_miss hs a (by rw [hk]; exact fun h => absurd h hlt))
    have hlt' : decide ((k : Int) < (W.length : Int)) = false := decide_eq_false (by omega)
    clear hs hl hk
    go_enter Try.func19, Try.ntmps19
    go_wp2_with fail
    refine hf.mono ?_
    rintro e w1 ⟨rfl, rfl⟩
    go_wp2
    go_ret2
    exact ⟨ret_u8b (b := getV W a) (a := 0) N.out.1.symm N.out.2.symm, rfl⟩

/-- Are the runs few and short? -/
def sumR (rs : List R) : Nat := (rs.map fun r => min r.data.length 5000).sum
def fewB (rs : List R) : Bool := decide (rs.length ≤ 60) && decide (sumR rs ≤ 3000)
theorem sumR_take (rs : List R) (k : Nat) (hk : k < rs.length) : sumR (rs.take (k + 1)) = sumR (rs.take k) + min rs[k].data.length 5000 := by
  unfold sumR
  rw [List.take_succ_eq_append_getElem hk, List.map_append, List.sum_append]
  simp only [List.map_cons, List.map_nil, List.sum_cons, List.sum_nil, Nat.add_zero]
theorem sumR_le (rs : List R) : sumR rs ≤ rs.length * 5000 := by
  unfold sumR
  induction rs with
  | nil => simp
  | cons r t ih => simp only [List.map_cons, List.sum_cons, List.length_cons]; omega
set_option maxHeartbeats 400000 in
theorem few_any (S P : Nat → Prop) (A : Option Addr) (cap : Nat) (rs : List R) (hl : rs.length ≤ 140737488355328) (w : World) (hW : RunsP S P w A rs) (hd : ∀ r ∈ rs, r.data.length ≤ maxLen) :
    Calls Try.prog 9 #[.slice A rs.length cap] w fun e w' => e = .returned (.bool (fewB rs)) ∧ w = w' := by
  have Z := Lib.hid hW
  have HD := Lib.hid hd
  clear hW hd
  go_enter Try.func9, Try.ntmps9
  go_wp2
  go_loop [3, 4] (fun n i => ∃ k m : Nat, k ≤ rs.length ∧ i = .int .i64 k ∧ n = .int .i64 m ∧ m ≤ k * 5000 ∧ Hid (sumR (rs.take k) = m)) (fun _ i => rs.length - (intOf i).toNat)
  case atStart => exact ⟨0, 0, Nat.zero_le _, rfl, rfl, by omega, rfl⟩
  case round =>
    obtain ⟨k, m, hk, rfl, rfl, hm, R⟩ := hrel
    by_cases hlt : k < rs.length
    · obtain ⟨b, off, hA, g1, g2⟩ := Z.out.at_ hlt
      subst hA
      have hdk := HD.out _ (List.getElem_mem hlt)
      obtain ⟨x, hx⟩ : ∃ x : Nat, rs[k].data.length = x := ⟨_, rfl⟩
      have N : Hid (sumR (rs.take (k + 1)) = m + min x 5000) := by
        have h := sumR_take rs k hlt
        rw [R.out, hx] at h
        exact h
      rw [hx] at g2 hdk
      unfold maxLen at hdk
      clear hx g1
      have hlt' : (k : Int) < (rs.length : Int) := by omega
      go_wp2
      go_round
      case rel => exact ⟨k + 1, m + min x 5000, by omega, by go_num, by go_num, by omega, N⟩
      case measure => simp [intOf]; omega
    · have hk' : k = rs.length := by omega
      have N : Hid (sumR rs = m) := by
        have h := R.out
        rwa [List.take_of_length_le (by omega)] at h
      have hlt' : decide ((k : Int) < (rs.length : Int)) = false := decide_eq_false (by omega)
      clear hk'
      by_cases h60 : rs.length ≤ 60
      · have F : Hid (fewB rs = decide ((m : Int) ≤ 3000)) := by
          show fewB rs = _
          unfold fewB
          rw [decide_eq_true h60, N.out, Bool.true_and]
          exact decide_eq_decide.2 (by omega)
        have h60' : (rs.length : Int) ≤ 60 := by omega
        go_wp2
        go_ret
        exact ⟨ret_bool F.out.symm, rfl⟩
      · have F : Hid (fewB rs = false) := by
          show fewB rs = _
          unfold fewB
          rw [decide_eq_false h60]; rfl
        have h60' : decide ((rs.length : Int) ≤ 60) = false := decide_eq_false (by omega)
        go_wp2
        go_ret
        exact ⟨ret_bool F.out.symm, rfl⟩
end Go.Proofs.Ytllfebekanafhaa
