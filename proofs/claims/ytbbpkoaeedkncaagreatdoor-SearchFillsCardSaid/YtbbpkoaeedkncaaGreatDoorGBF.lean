/-
  TbS, TbT.
-/
import Derived.Test.YtbbpkoaeedkncaaGreatDoorGBE
import Derived.Laws.BytesArg
set_option linter.all false
set_option maxRecDepth 100000
set_option maxHeartbeats 4000000
namespace Go.Proofs.YtbbpkoaeedkncaaGreatDoor
open Go.RowKit Go.Shelf
def BytesAt (w : World) (A : Option Addr) (xs : Str) : Prop := xs = [] ∨ ∃ b off, A = some ⟨b, off, none⟩ ∧ ∀ j (h : j < xs.length), w.cell? ⟨b, off + j, none⟩ = some (.int .u8 (xs[j].toNat : Int))
theorem BytesAt.below {w w' : World} {A : Option Addr} {xs : Str} (h : BytesAt w A xs) (hb : Below w.heap.size w w') : BytesAt w' A xs := by
  rcases h with rfl | ⟨b, off, rfl, hc⟩
  · exact .inl rfl
  · exact .inr ⟨b, off, rfl, fun j hj => (hb.cell (World.block_lt_of_cell? w _ (hc j hj))).trans (hc j hj)⟩
theorem conv_sB {w : World} {A : Option Addr} {xs : Str} (h : BytesAt w A xs) (cap : Nat) :
    (convert 101 9 (.slice A xs.length cap)).run Tryz.prog w = .ok (.string (sB xs)) w := by
  cases A with
  | none =>
    obtain rfl : xs = [] := by
      rcases h with h | ⟨b, off, h, _⟩
      · exact h
      · cases h
    rw [run_convert_bytes_nil (P := Tryz.prog) w 101 5 Tryz.underlying101 Tryz.underlying5 _ _ 9 Tryz.underlying9]
    rfl
  | some a =>
    refine run_convert_bytes_back w 101 9 5 a cap xs Tryz.underlying101 Tryz.underlying5 Tryz.underlying9 (fun j hj => ?_)
    rcases h with rfl | ⟨b, off, e, hc⟩
    · simp at hj
    · cases e
      have h1 := hc j hj
      unfold Addr.add
      split
      · rename_i h0; subst h0; simpa using h1
      · exact h1
def cellsB (xs : Str) : List Value := xs.map fun b => .int .u8 (b.toNat : Int)
def TOwnB (w : World) (n : Nat) (v : Value) (xs : Str) : Prop := w.ownsRow n 5 1 v xs.length (cellsB xs)
theorem TOwnB.bytes {w : World} {n : Nat} {v : Value} {xs : Str} (h : TOwnB w n v xs) : ∃ A cap, v = .slice A xs.length cap ∧ BytesAt w A xs := by
  rcases h.2 with ⟨rfl, h0⟩ | ⟨g, cap, cur, rfl, _, _, _⟩
  · have : xs = [] := List.eq_nil_of_length_eq_zero h0
    subst this
    exact ⟨none, 0, rfl, .inl rfl⟩
  · refine ⟨_, cap, rfl, .inr ⟨g, 0, rfl, fun j hj => ?_⟩⟩
    rw [Nat.zero_add, World.ownsRow.cellAt h j (by omega)]
    unfold cellsB
    rw [List.getElem?_map, List.getElem?_eq_getElem hj]
    rfl
theorem TOwnB.below {w w' : World} {n : Nat} {v : Value} {xs : Str} (h : TOwnB w n v xs) (k : Below w.heap.size w w') : TOwnB w' n v xs :=
  World.ownsRow.kept h (row := none) ⟨k.os, k.tape, k.output, k.size, fun i hi _ => k.block i hi⟩ (by
    cases e : v.ownBlock with
    | none => exact .inl rfl
    | some g => exact .inr (by simp))
theorem own_lit (w : World) (xs : Str) (hl : xs.length ≤ 100) : TOwnB (w.alloc (.cells (cellsB xs).toArray 5)) w.heap.size (.slice (some ⟨w.heap.size, 0, none⟩) xs.length xs.length) xs := by
  refine ⟨by unfold cellsB; simp, .inr ⟨w.heap.size, xs.length, (cellsB xs).toArray, rfl, Nat.le_refl _, World.alloc_heap_new w _, Nat.le_refl _, by unfold maxLen; omega, by unfold cellsB; simp, ?_⟩⟩
  unfold cellsB
  rw [List.take_of_length_le (by simp)]
theorem equalB_any (A1 A2 : Option Addr) (c1 c2 : Nat) (xs ys : Str) (w : World) (H1 : BytesAt w A1 xs) (H2 : BytesAt w A2 ys) :
    Calls Tryz.prog 93 #[.slice A1 xs.length c1, .slice A2 ys.length c2] w fun e w' => e = .returned (.bool (decide (xs = ys))) ∧ w' = w := by
  have k1 := conv_sB H1 c1
  have k2 := conv_sB H2 c2
  have E : Hid (((sB xs).toList == (sB ys).toList) = decide (xs = ys)) := by
    show ((sB xs).toList == (sB ys).toList) = _
    rw [sB_eq, ByteArray.toList_eq, show (sB ys).data.toList = ys by simp [sB]]
  clear H1 H2
  go_enter Tryz.func93, Tryz.ntmps93
  go_wp2
  go_ret
  exact ⟨ret_bool E.out, rfl⟩
def preS (page : Int) : Str := if page = 1 then [203] else if page = 2 then [237] else if page = 3 then [221] else if page = 4 then [253] else if page = 5 then [221, 203] else if page = 6 then [253, 203] else []
def RetB (w : World) (xs : Str) (e : Ending) (w' : World) : Prop := ∃ v, e = .returned v ∧ TOwnB w' w.heap.size v xs ∧ Below w.heap.size w w'
theorem prefixes_1 (w : World) : Calls Tryz.prog 54 #[.int .i64 1] w (RetB w [203]) := by
  have O := Lib.hid (own_lit w [203] (by decide))
  go_enter Tryz.func54, Tryz.ntmps54
  go_wp2
  go_ret
  exact ⟨_, rfl, O.out, (Below.refl _ _).alloc (Nat.le_refl _) _⟩
theorem prefixes_2 (w : World) : Calls Tryz.prog 54 #[.int .i64 2] w (RetB w [237]) := by
  have O := Lib.hid (own_lit w [237] (by decide))
  go_enter Tryz.func54, Tryz.ntmps54
  go_wp2
  go_ret
  exact ⟨_, rfl, O.out, (Below.refl _ _).alloc (Nat.le_refl _) _⟩
theorem prefixes_3 (w : World) : Calls Tryz.prog 54 #[.int .i64 3] w (RetB w [221]) := by
  have O := Lib.hid (own_lit w [221] (by decide))
  go_enter Tryz.func54, Tryz.ntmps54
  go_wp2
  go_ret
  exact ⟨_, rfl, O.out, (Below.refl _ _).alloc (Nat.le_refl _) _⟩
theorem prefixes_4 (w : World) : Calls Tryz.prog 54 #[.int .i64 4] w (RetB w [253]) := by
  have O := Lib.hid (own_lit w [253] (by decide))
  go_enter Tryz.func54, Tryz.ntmps54
  go_wp2
  go_ret
  exact ⟨_, rfl, O.out, (Below.refl _ _).alloc (Nat.le_refl _) _⟩
theorem prefixes_5 (w : World) : Calls Tryz.prog 54 #[.int .i64 5] w (RetB w [221, 203]) := by
  have O := Lib.hid (own_lit w [221, 203] (by decide))
  go_enter Tryz.func54, Tryz.ntmps54
  go_wp2
  go_ret
  exact ⟨_, rfl, O.out, (Below.refl _ _).alloc (Nat.le_refl _) _⟩
theorem prefixes_6 (w : World) : Calls Tryz.prog 54 #[.int .i64 6] w (RetB w [253, 203]) := by
  have O := Lib.hid (own_lit w [253, 203] (by decide))
  go_enter Tryz.func54, Tryz.ntmps54
  go_wp2
  go_ret
  exact ⟨_, rfl, O.out, (Below.refl _ _).alloc (Nat.le_refl _) _⟩
theorem prefixes_any (page : Int) (w : World) : Calls Tryz.prog 54 #[.int .i64 page] w (RetB w (preS page)) := by
  unfold preS
  by_cases h1 : page = 1
  · rw [if_pos h1]; subst h1; exact prefixes_1 w
  by_cases h2 : page = 2
  · rw [if_neg h1, if_pos h2]; subst h2; exact prefixes_2 w
  by_cases h3 : page = 3
  · rw [if_neg h1, if_neg h2, if_pos h3]; subst h3; exact prefixes_3 w
  by_cases h4 : page = 4
  · rw [if_neg h1, if_neg h2, if_neg h3, if_pos h4]; subst h4; exact prefixes_4 w
  by_cases h5 : page = 5
  · rw [if_neg h1, if_neg h2, if_neg h3, if_neg h4, if_pos h5]; subst h5; exact prefixes_5 w
  by_cases h6 : page = 6
  · rw [if_neg h1, if_neg h2, if_neg h3, if_neg h4, if_neg h5, if_pos h6]; subst h6; exact prefixes_6 w
  rw [if_neg h1, if_neg h2, if_neg h3, if_neg h4, if_neg h5, if_neg h6]
  have e1 : (page == 1) = false := by simpa using h1
  have e2 : (page == 2) = false := by simpa using h2
  have e3 : (page == 3) = false := by simpa using h3
  have e4 : (page == 4) = false := by simpa using h4
  have e5 : (page == 5) = false := by simpa using h5
  have e6 : (page == 6) = false := by simpa using h6
  clear h1 h2 h3 h4 h5 h6
  go_enter Tryz.func54, Tryz.ntmps54
  go_wp2
  go_ret
  exact ⟨_, rfl, World.ownsRow_nil _ _ _ _, Below.refl _ _⟩
def pageF (xs : Str) : Nat → Option Int
  | 0 => none
  | k + 1 => match pageF xs k with
    | some p => some p
    | none => if preS k = xs then some k else none
def pageT (xs : Str) : Option Int := pageF xs 7
theorem pageF_some (xs : Str) (k : Nat) (p : Int) (h : pageF xs k = some p) : ∀ m, pageF xs (k + m) = some p
  | 0 => h
  | m + 1 => by
    have ih := pageF_some xs k p h m
    show pageF xs (k + m + 1) = some p
    unfold pageF
    rw [ih]
theorem pageOf_any (A : Option Addr) (cap : Nat) (xs : Str) (hx : xs.length ≤ maxLen) (w : World) (H : BytesAt w A xs) : Calls Tryz.prog 53 #[.slice A xs.length cap] w
    fun e w' => e = .returned (.tuple #[.int .i64 ((pageT xs).getD 0), .bool (pageT xs).isSome]) ∧ Below w.heap.size w w' := by
  obtain ⟨l, hl⟩ : ∃ l, xs.length = l := ⟨_, rfl⟩
  have HH := Lib.hid H
  have HL := Lib.hid hl
  rw [hl]
  clear H hl hx
  go_enter Tryz.func53, Tryz.ntmps53
  go_wp2
  go_loopw [5] (fun i wr => ∃ k : Nat, k ≤ 7 ∧ i = .int .i64 k ∧ Hid (pageF xs k = none) ∧ Hid (Below w.heap.size w wr)) (fun i _ => 7 - (intOf i).toNat)
  case atStart => exact ⟨0, Nat.zero_le _, rfl, rfl, Below.refl _ _⟩
  case round =>
    obtain ⟨k, hk, rfl, PF, B⟩ := hrel
    by_cases hlt : k < 7
    · have hp := prefixes_any (k : Int) wr
      go_wp2_with fail
      refine hp.mono ?_
      rintro e w1 ⟨v, rfl, hO, hb1⟩
      obtain ⟨A1, c1, rfl, hB1⟩ := hO.bytes
      have B1 : Hid (Below w.heap.size w w1) := B.out.trans (hb1.mono B.out.size)
      have hq := equalB_any A1 A c1 cap (preS k) xs w1 hB1 (HH.out.below B1.out)
      rw [HL.out] at hq
      have PS : Hid (pageF xs (k + 1) = if preS k = xs then some (k : Int) else none) := by show pageF xs (k + 1) = _; rw [pageF, PF.out]
      clear hp hb1 hO hB1 B PF
      by_cases he : preS k = xs
      · rw [decide_eq_true he] at hq
        have T : Hid (pageT xs = some (k : Int)) := by
          have h := PS.out
          rw [if_pos he] at h
          have h2 := pageF_some xs (k + 1) k h (7 - (k + 1))
          rw [show k + 1 + (7 - (k + 1)) = 7 by omega] at h2
          exact h2
        clear he
        go_wp2_with fail
        refine hq.mono ?_
        rintro e w2 ⟨rfl, hw2⟩
        rw [hw2]
        clear hq hw2
        go_wp2
        go_ret2
        exact ⟨by rw [T.out]; rfl, B1.out⟩
      · rw [decide_eq_false he] at hq
        have T : Hid (pageF xs (k + 1) = none) := by have h := PS.out; rw [if_neg he] at h; exact h
        clear he
        go_wp2_with fail
        refine hq.mono ?_
        rintro e w2 ⟨rfl, hw2⟩
        rw [hw2]
        clear hq hw2
        go_wp2
        go_roundw
        case rel => exact ⟨k + 1, by omega, by go_num, T.out, B1.out⟩
        case measure => simp [intOf]; omega
    · obtain rfl : k = 7 := by omega
      have T : Hid (pageT xs = none) := PF.out
      go_wp2
      go_ret2
      exact ⟨by rw [T.out]; rfl, B.out⟩
theorem tinfo_u8 : (Tryz.prog.info? 5).map (fun i => (i.zero, i.size, i.bytes)) = some (some (.int .u8 0), 1, 1) := by kernel_rfl
theorem wpList_appB {wr : World} {base : Nat} {v : Value} {xs : Str} (R : TOwnB wr base v xs) (hbase : base ≤ wr.heap.size) {ops : Array Oper} {rest : List Oper} {o : Oper} {a : Act} {Q : Exit → Act → World → Prop} (hgd : o.guard = none) (s x : Operand)
    (ho : o.op = .call { callee := .builtin .append, args := #[s, x], argTypes := #[101, 101] }) (hs : a.eval s = v) (nb : Nat) (hnb : nb = wr.heap.size) (hx : a.eval x = .slice (some ⟨nb, 0, none⟩) 1 1)
    (y : UInt8) (k : Nat) (hk : xs.length = k) (hlen : k < 10000)
    (h : ∀ A' cap' w1, BytesAt w1 A' (xs ++ [y]) → Below base wr w1 → wpList Tryz.prog ops Q rest (a.put o.dst (.slice A' (k + 1) cap')) w1) : wpList Tryz.prog ops Q (o :: rest) a (wr.alloc (.cells #[.int .u8 (y.toNat : Int)] 5)) := by
  subst hnb
  obtain ⟨i0, hi, hz0, hz1, hz2⟩ := info_parts tinfo_u8
  have hb : Below base wr (wr.alloc (.cells #[.int .u8 (y.toNat : Int)] 5)) := (Below.refl base wr).alloc hbase _
  have hown := World.ownsRow.alloc R (.cells #[.int .u8 (y.toNat : Int)] 5)
  refine wpList_append_own _ hgd s x 101 ho base 5 i0 (.int .u8 0) 1 1 Tryz.underlying101 hi hz0 hz1 hz2 rfl (by decide) v xs.length _ hs hown ⟨wr.heap.size, 0, none⟩ 1 1 [.int .u8 (y.toNat : Int)] hx rfl ?_ ?_ ?_ ?_ ?_ ?_
  · intro j u hj
    match j, hj with
    | 0, hj => simp at hj; subst hj; simp [Addr.add, go_sem]
  · intro u hu
    simp at hu
    subst hu
    rfl
  · unfold maxLen; omega
  · omega
  · simp; omega
  · intro v' w1 hown' hgrow _
    have hO : TOwnB w1 base v' (xs ++ [y]) := by
      unfold TOwnB cellsB
      rw [List.length_append, List.map_append]
      exact hown'
    obtain ⟨A', cap', rfl, hB⟩ := hO.bytes
    rw [List.length_append, hk]
    exact h A' cap' w1 hB (hb.grown hgrow (by simp; omega) fun k hk => (hown.lt k hk).1)
def kindT (page op : Int) : Int := if page < 0 ∨ 7 ≤ page then 0 else if (pageT (preS page ++ [UInt8.ofNat op.toNat])).isSome then 2 else if page = 2 then 3 else 0
theorem kindWithout_any (page op : Int) (h0 : 0 ≤ op) (h1 : op ≤ 255) (w : World) : Calls Tryz.prog 25 #[.int .i64 page, .int .u8 op] w
    fun e w' => e = .returned (.int .i64 (kindT page op)) ∧ Below w.heap.size w w' := by
  by_cases hp0 : page < 0
  · have T : Hid (kindT page op = 0) := by show kindT page op = 0; unfold kindT; rw [if_pos (.inl hp0)]
    go_enter Tryz.func25, Tryz.ntmps25
    go_wp2
    go_ret
    exact ⟨by rw [T.out]; rfl, Below.refl _ _⟩
  · by_cases hp1 : 7 ≤ page
    · have T : Hid (kindT page op = 0) := by show kindT page op = 0; unfold kindT; rw [if_pos (.inr hp1)]
      go_enter Tryz.func25, Tryz.ntmps25
      go_wp2
      go_ret
      exact ⟨by rw [T.out]; rfl, Below.refl _ _⟩
    · have hpp := prefixes_any page w
      obtain ⟨c, hc⟩ : ∃ c : UInt8, op = (c.toNat : Int) := ⟨UInt8.ofNat op.toNat, by rw [UInt8.toNat_ofNat_of_lt' (show op.toNat < 256 by omega)]; omega⟩
      subst hc
      have hcc : UInt8.ofNat ((c.toNat : Int)).toNat = c := by simp
      have KT : Hid (kindT page (c.toNat : Int) = if (pageT (preS page ++ [c])).isSome then 2 else if page = 2 then 3 else 0) := by
        show kindT page (c.toNat : Int) = _
        unfold kindT
        rw [if_neg (show ¬(page < 0 ∨ 7 ≤ page) by omega), hcc]
      clear h0 h1 hcc
      go_enter Tryz.func25, Tryz.ntmps25
      go_wp2_with fail
      refine hpp.mono ?_
      rintro e w1 ⟨v, rfl, hO, hb1⟩
      have O1 := Lib.hid hO
      have B1 := Lib.hid hb1
      obtain ⟨A1, c1, rfl, -⟩ := hO.bytes
      obtain ⟨l, hl⟩ : ∃ l, (preS page).length = l := ⟨_, rfl⟩
      have HL := Lib.hid hl
      rw [hl] at O1 ⊢
      clear hpp hO hb1
      have hl2 : l ≤ 2 := by
        rw [← HL.out]
        unfold preS
        repeat' split
        all_goals simp
      go_wp2_with (at_builtin; refine wpList_appB O1.out B1.out.size rfl _ _ rfl rfl w1.heap.size rfl rfl c l HL.out (by omega) ?_; intro A2 cap2 w2 hA2 hB2; have A2' := Lib.hid hA2; have B2 : Hid (Below w.heap.size w w2) := B1.out.trans hB2; clear hA2 hB2)
      have hlen : (preS page ++ [c]).length = l + 1 := by rw [List.length_append, HL.out]; rfl
      have hpo := pageOf_any A2 cap2 (preS page ++ [c]) (by rw [hlen]; unfold maxLen; omega) w2 A2'.out
      rw [hlen] at hpo
      obtain ⟨po, hpo2⟩ : ∃ x, pageT (preS page ++ [c]) = x := ⟨_, rfl⟩
      rw [hpo2] at hpo KT
      clear hpo2 hlen
      go_wp2_with fail
      refine hpo.mono ?_
      rintro e w3 ⟨rfl, hb3⟩
      have B3 : Hid (Below w.heap.size w w3) := B2.out.trans (hb3.mono B2.out.size)
      clear hpo hb3 A2' B2 B1 O1
      cases po with
      | some x =>
        have T : Hid (kindT page (c.toNat : Int) = 2) := by show _ = _; rw [KT.out]; rfl
        go_wp2
        go_ret
        exact ⟨by rw [T.out]; rfl, B3.out⟩
      | none =>
        by_cases hp2 : page = 2
        · have T : Hid (kindT page (c.toNat : Int) = 3) := by show _ = _; rw [KT.out, if_neg (by decide), if_pos hp2]
          go_wp2
          go_ret
          exact ⟨by rw [T.out]; rfl, B3.out⟩
        · have T : Hid (kindT page (c.toNat : Int) = 0) := by show _ = _; rw [KT.out, if_neg (by decide), if_neg hp2]
          go_wp2
          go_ret
          exact ⟨by rw [T.out]; rfl, B3.out⟩
end Go.Proofs.YtbbpkoaeedkncaaGreatDoor
namespace Go.Proofs.YtbbpkoaeedkncaaGreatDoor
open Go.RowKit Go.Shelf
def argsU (p : Pat) (a : Nat) : Str := if (cutL [32] p.2).1 = [97] then arB a ++ (cutL [32] p.2).2.1 else (cutL [32] p.2).2.1
theorem argsU_eq (p : Pat) (op : Int) : (wordsT p op).2.1 ++ (wordsT p op).2.2 = argsU p (numP p.1 op 97).toNat := by
  unfold wordsT argsU
  split
  · rfl
  · split <;> rfl
theorem pats_small : ∀ p ∈ mainP ++ cbP ++ edP, p.1.length = 8 ∧ p.2.length ≤ 100 := by decide +kernel
theorem pats_num : ∀ p ∈ mainP ++ cbP ++ edP, ∀ n < 256, numN p.1 n 97 8 ≤ 7 ∧ numN p.1 n 111 8 ≤ 7 := by decide +kernel
theorem pats_words : ∀ p ∈ mainP ++ cbP ++ edP, ∀ a < 8, (argsU p a).length ≤ 100 ∧ ∀ w ∈ splitW (argsU p a), w ∈ wordsAll := by decide +kernel
theorem wordsF_len : ∀ (n : Nat) (l : Str), (wordsF n l).length ≤ l.length
  | 0, l => Nat.zero_le _
  | n + 1, l => by
    unfold wordsF
    split
    · exact Nat.zero_le _
    · next h =>
      have hl : 0 < l.length := List.length_pos_iff.2 (by simpa using h)
      have h1 := (cutL_lt [44] l (by decide) hl).1
      have h2 := wordsF_len n (cutL [44] l).2.1
      rw [List.length_cons]
      omega
theorem extraF_len (p : Pat) (op : Int) : ∀ (n : Nat) (l : Str), (extraT p op (wordsF n l)).length ≤ l.length
  | 0, l => Nat.zero_le _
  | n + 1, l => by
    unfold wordsF
    split
    · exact Nat.zero_le _
    · have h1 := cutL_sum [44] l
      have h2 := extraF_len p op n (cutL [44] l).2.1
      have h3 := opT_len p op (cutL [44] l).1
      show ((opT p op (cutL [44] l).1).2 ++ extraT p op (wordsF n (cutL [44] l).2.1)).length ≤ _
      rw [List.length_append]
      omega
theorem good2_of {p : Pat} (hp : p ∈ mainP ++ cbP ++ edP) (op : Int) (h0 : 0 ≤ op) (h1 : op ≤ 255) : Good2 p op := by
  obtain ⟨n, rfl⟩ : ∃ n : Nat, op = n := ⟨op.toNat, by omega⟩
  have hn : n < 256 := by omega
  obtain ⟨e1, e2⟩ := pats_small p hp
  obtain ⟨e3, e4⟩ := pats_num p hp n hn
  have na : numP p.1 (n : Int) 97 ≤ 7 := by rw [numP_eq _ _ hn]; omega
  have no : numP p.1 (n : Int) 111 ≤ 7 := by rw [numP_eq _ _ hn]; omega
  have n0 := (numP_bd p.1 (n : Int) h0 h1 97).1
  obtain ⟨e5, e6⟩ := pats_words p hp (numP p.1 (n : Int) 97).toNat (by omega)
  rw [← argsU_eq] at e5 e6
  have l1 := wordsF_len ((wordsT p (n : Int)).2.1 ++ (wordsT p (n : Int)).2.2).length ((wordsT p (n : Int)).2.1 ++ (wordsT p (n : Int)).2.2)
  have l2 := extraF_len p (n : Int) ((wordsT p (n : Int)).2.1 ++ (wordsT p (n : Int)).2.2).length ((wordsT p (n : Int)).2.1 ++ (wordsT p (n : Int)).2.2)
  exact ⟨⟨e1, e2, h0, h1, na, no, e5, e6⟩, Nat.le_trans l1 e5, Nat.le_trans l2 (by omega)⟩
theorem op6_all : ∀ n : Fin 256, op6 (n.val : Int) = ((n.val / 8 * 8 + 6 : Nat) : Int) := by decide +kernel
theorem op6_bd (op : Int) (h0 : 0 ≤ op) (h1 : op ≤ 255) : 0 ≤ op6 op ∧ op6 op ≤ 255 := by
  obtain ⟨n, rfl⟩ : ∃ n : Nat, op = n := ⟨op.toNat, by omega⟩
  have h := op6_all ⟨n, by omega⟩
  simp only at h
  omega
theorem find_mem {page op : Int} {p : Pat} (h : findP (listS page) op = some p) : p ∈ mainP ++ cbP ++ edP := by
  have h1 := List.mem_of_find?_eq_some h
  rw [patsOf_page] at h1
  exact page_mem h1
end Go.Proofs.YtbbpkoaeedkncaaGreatDoor
