/-
  HexreadOrder, for every list of runs and every number: Read gives the image back from the text of Write with its records turned round, some of its lines in small letters, with a carriage return, and with a blank line behind them: the law returns true, and its arguments read as they did.
  Conditions: none.
-/
import Derived.Test.YtmeegpdjhcilkaaGreatDoorRdRv
import Derived.Test.YtmeegpdjhcilkaaGreatDoorRdQ
import Derived.Test.YtmeegpdjhcilkaaGreatDoorCards
import Derived.Test.YtmeegpdjhcilkaaGreatDoorTie
import Derived.ProofKit
import Derived.OpenShut
import Derived.Lay
import Derived.LaidOnce
import Derived.SevenTiedAt
import Derived.Below
namespace Go.Proofs.YtmeegpdjhcilkaaGreatDoor.hexreadOrderDone
open Go.ChangeShapes Go.WideShapes Go.ChangeAt Go.RowKit
open Go.ChangeMaps (open_string shut_string)
set_option linter.unusedVariables false

theorem own : ownKnob Tryz.prog.godebug = none := by kernel_rfl
theorem laidOut : laidOutB Tryz.prog = true := by kernel_rfl
/-- A slice of integers that came in: nil, or a row of 'cap' cells that hold the numbers 'zs'. -/
def IsRow (k : IntKind) (w : World) (a : Option Addr) (len cap : Nat) (zs : List Int) : Prop :=
  (a = none ∧ len = 0 ∧ cap = 0 ∧ zs = []) ∨
  ∃ x, a = some x ∧ len ≤ cap ∧ cap ≤ maxLen ∧ zs.length = cap ∧ (∀ i, i < zs.length → w.cell? (x.add i) = some (.int k (zs.getD i 0))) ∧ ∀ n ∈ zs, (Lit.int k n).wf = true

theorem mix_at {α : Type} (T O : List α) (h : T.length = O.length) (i : Nat) (hi : i < O.length) : (T.take i ++ O.drop i)[i]? = O[i]? := by
  have e : (T.take i).length = i := by rw [List.length_take]; omega
  rw [List.getElem?_append_right (by omega), e, Nat.sub_self, List.getElem?_drop, Nat.add_zero]
theorem mix_step {α : Type} (T O : List α) (h : T.length = O.length) (i : Nat) (hi : i < O.length) : (T.take i ++ O.drop i).set i (T[i]'(by omega)) = T.take (i + 1) ++ O.drop (i + 1) := by
  have e : (T.take i).length = i := by rw [List.length_take]; omega
  rw [List.set_append_right _ _ (by omega), e, Nat.sub_self, List.drop_eq_getElem_cons hi, List.set_cons_zero, List.take_succ_eq_append_getElem (by omega : i < T.length), List.append_assoc]
  rfl
theorem mix_same {α : Type} (T O : List α) (h : T.length = O.length) (i : Nat) (hi : i < O.length) (he : T[i]'(by omega) = O[i]) : T.take i ++ O.drop i = T.take (i + 1) ++ O.drop (i + 1) := by
  rw [List.drop_eq_getElem_cons hi, List.take_succ_eq_append_getElem (by omega : i < T.length), he, List.append_assoc]
  rfl
theorem row_get {b : Nat} {ss : List ByteArray} {wr : World} (h : RowS b ss wr) {j : Nat} {s : ByteArray} (hs : ss[j]? = some s) : wr.cell? ⟨b, j, none⟩ = some (.string s) ∧ wr.frozen? ⟨b, j, none⟩ = false := by
  obtain ⟨hj, rfl⟩ := List.getElem?_eq_some_iff.1 hs
  exact h.at_ j hj
theorem ord_c (V : List Im.Cel) : ∀ x ∈ ordL V, ∀ c ∈ x, LnC c := by
  intro x hx
  unfold ordL at hx
  rcases List.mem_append.1 hx with h | h
  · obtain ⟨p, _, rfl⟩ := List.mem_map.1 h
    exact print_c 0 p.1 p.2
  · simp at h
    rcases h with rfl | rfl
    · exact print_c 1 0 []
    · intro c hc; cases hc
theorem ord_len (V : List Im.Cel) : (ordL V).length = (recsW 16 V).length + 2 := by unfold ordL; simp
theorem ord_le {V : List Im.Cel} (hV : Im.SortedW V) : ∀ x ∈ ordL V, x.length ≤ 600 := by
  intro x hx
  have hl := lines_le (s := 16) (by omega) (by omega) hV
  unfold linesW at hl
  unfold ordL at hx
  rcases List.mem_append.1 hx with h | h
  · obtain ⟨p, hp, rfl⟩ := List.mem_map.1 h
    exact hl _ (List.mem_append.2 (.inl (List.mem_map.2 ⟨p, List.mem_reverse.1 hp, rfl⟩)))
  · simp at h
    rcases h with rfl | rfl
    · exact hl _ (by simp)
    · simp
theorem sum_bound (l : List (List UInt8)) (b : Nat) (h : ∀ x ∈ l, x.length ≤ b) : (l.map List.length).sum ≤ l.length * b := by
  induction l with
  | nil => simp
  | cons x l ih =>
    rw [List.map_cons, List.sum_cons, List.length_cons, Nat.add_mul, Nat.one_mul]
    have h1 := h x (by simp)
    have h2 := ih fun y hy => h y (by simp [hy])
    omega
theorem tw_le (b : Bool) (x : List UInt8) : (tw b x).length ≤ x.length + 4 := by
  unfold tw
  split
  · rw [List.length_append]; unfold lowT; rw [List.length_map]; simp
  · omega
theorem ord_text {V : List Im.Cel} (hV : Im.SortedW V) (c : Nat → Bool) : (interL (twL c 0 (ordL V))).length ≤ 40000000 := by
  have hL : (twL c 0 (ordL V)).length = (recsW 16 V).length + 2 := by rw [twL_length, ord_len]
  have h1 := interL_len (twL c 0 (ordL V)) (fun e => by rw [e] at hL; simp at hL)
  have h2 := sum_bound (twL c 0 (ordL V)) 604 fun x hx => by
    obtain ⟨j, hj, rfl⟩ := List.mem_iff_getElem.1 hx
    rw [twL_length] at hj
    rw [twL_get c 0 _ j hj]
    have := tw_le (c (0 + j)) (ordL V)[j]
    have := ord_le hV _ (List.getElem_mem hj)
    omega
  have h4 := recs_length (s := 16) (by omega) (by omega) hV
  have h5 := Im.sorted_length hV
  omega
set_option maxRecDepth 100000 in
set_option maxHeartbeats 8000000 in
theorem walk (A : Option Addr) (cap : Nat) (rs : List Im.R) (sz : Int) (w : World) (hm : rs.length ≤ maxLen) (hR : Im.RunsP (fun _ => True) (fun _ => True) w A rs) (hd : ∀ r ∈ rs, r.data.length ≤ maxLen) (wz : (Lit.int .u8 sz).wf = true) :
    Calls Tryz.prog 4 #[.slice A rs.length cap, .int .u8 sz] w fun e w' => e = .returned (.bool true) ∧ Below w.heap.size w w' := by
  have hbd := build_any A cap rs hm w hR hd
  have Z := Lib.hid hR
  have HD := Lib.hid hd
  have HM := Lib.hid hm
  have hz' : IntKind.u8.min ≤ sz ∧ sz ≤ IntKind.u8.max := by simpa [Lit.wf] using wz
  have hz : 0 ≤ sz ∧ sz ≤ 255 := hz'
  obtain ⟨z0, z1⟩ := hz
  obtain ⟨m, rfl⟩ : ∃ m : Nat, sz = (m : Int) := ⟨sz.toNat, by omega⟩
  have hm255 : m ≤ 255 := by omega
  clear hR hd hm wz hz' z0 z1
  go_enter Tryz.func4, Tryz.ntmps4
  go_wp2_with fail
  refine hbd.mono ?_
  rintro e w1 ⟨h1, h2, h3⟩
  cases hf : Im.fewB rs
  case false =>
    obtain rfl := h1 hf
    have B1 := Lib.hid h3
    have FH := Lib.hid hf
    clear h1 h2 h3 hf hbd
    go_wp2_with fail
    refine (alive5_any _).mono ?_
    rintro e w2 ⟨rfl, hb2⟩
    have hfw2 := Im.fewAll_any _ _ A cap rs HM.out w2 ((Z.out.below B1.out).below hb2) HD.out
    rw [FH.out] at hfw2
    have B2 : Hid (Below w.heap.size w w2) := B1.out.trans (hb2.mono B1.out.size)
    clear hb2
    go_wp2_with fail
    refine hfw2.mono ?_
    rintro e w3 ⟨rfl, rfl⟩
    clear hfw2
    go_wp2
    go_ret
    exact ⟨rfl, B2.out⟩
  case true =>
    obtain ⟨b, A', cap', rfl, -, hI, hC⟩ := h2 hf
    have B1 := Lib.hid h3
    have I1 := Lib.hid hI
    have hrw := rwrite_any _ A' cap' (allW rs) hI.1 w1 hC
    clear h1 h2 h3 hf hbd hI hC Z HD HM
    obtain ⟨V, hV⟩ : ∃ V, allW rs = V := ⟨_, rfl⟩
    rw [hV] at I1 hrw ⊢
    clear hV
    have VS := Lib.hid I1.out.1
    go_wp2_with fail
    refine hrw.mono ?_
    rintro e w2 ⟨rfl, hb2⟩
    have K2 : Hid (Below w.heap.size w w2) := B1.out.trans (hb2.mono B1.out.size)
    have I2 := Lib.hid (I1.out.below hb2)
    have hsp := split_linesR (linesW 16 V) [] (lines_noLf 16 V) (fun c hc => by cases hc) (by rw [List.append_nil]; exact text_size VS.out) w2
    rw [List.append_nil] at hsp
    rw [show strOf (joinL (linesW 16 V)) = strOf (textW 16 V) from rfl] at hsp
    obtain ⟨t, ht⟩ : ∃ t, strOf (textW 16 V) = t := ⟨_, rfl⟩
    rw [ht] at hsp ⊢
    obtain ⟨n, hn⟩ : ∃ n, (recsW 16 V).length = n := ⟨_, rfl⟩
    have HN := Lib.hid hn
    have hnb : n ≤ 65536 := by
      have h4 := recs_length (s := 16) (by omega) (by omega) VS.out
      have h5 := Im.sorted_length VS.out
      omega
    have hlen : ((linesW 16 V).map strOf ++ [strOf []]).length = n + 2 := by simp [lines_length, hn]
    have hrow : (linesW 16 V).map strOf ++ [strOf []] = ((recsW 16 V).map lineB).map strOf ++ [strOf (printL 1 0 []), strOf []] := by unfold linesW; simp
    have hxl : (((recsW 16 V).map lineB).map strOf).length = n := by simp [hn]
    have hord : (((recsW 16 V).map lineB).map strOf).reverse ++ [strOf (printL 1 0 []), strOf []] = (ordL V).map strOf := by unfold ordL; simp [List.map_reverse]
    have HH := Lib.hid (And.intro hrow (And.intro hxl hord))
    clear hb2 hrw I1 B1 hn ht hrow hxl hord
    go_wp2_with fail
    refine hsp.mono ?_
    rintro e w3 ⟨rb, rcap, rfl, hcap, hge, hrow, hb3⟩
    rw [hlen] at hcap ⊢
    rw [HH.out.1] at hrow
    have hrv := srev_any rb rcap _ _ (by rw [HH.out.2.1]; omega) w3 hrow
    rw [HH.out.2.1, HH.out.2.2] at hrv
    have B3 := Lib.hid hb3
    have hsl : ∀ w', (Instr.slice 42 (.slice (some ⟨rb, 0, none⟩) (n + 2) rcap) none (some (.int .i64 (n : Int))) none).run Tryz.prog w' = .ok (.slice (some ⟨rb, 0, none⟩) n rcap) w' := fun w' => slS_h _ _ _ _ (by omega) w'
    have HG := Lib.hid hge
    have HC := Lib.hid hcap
    have e2 : ((n + 2 : Nat) : Int) - 2 = (n : Int) := by omega
    clear hsp hlen hcap hge hrow hb3
    go_wp2_with fail
    refine hrv.mono ?_
    rintro e w4 ⟨rfl, hrow4, hk4⟩
    have BW : Hid (Below w2.heap.size w2 w4) := B3.out.trans (hk4.below (fun i hi => by have := HG.out; omega) B3.out.size)
    have R4 := Lib.hid hrow4
    obtain ⟨c, hc⟩ : ∃ c : Nat → Bool, (fun i => (i + m) % 3 == 0) = c := ⟨_, rfl⟩
    have HCC := Lib.hid hc
    have OC := Lib.hid (ord_c V)
    have OL := Lib.hid (ord_le VS.out)
    have RO := Lib.hid (read_order VS.out c)
    have OT := Lib.hid (ord_text VS.out c)
    have ON : Hid ((ordL V).length = n + 2) := by show _ = _; rw [ord_len, HN.out]
    obtain ⟨O, hO⟩ : ∃ O, ordL V = O := ⟨_, rfl⟩
    rw [hO] at OC OL RO OT ON R4
    have TN : Hid ((twL c 0 O).length = O.length) := twL_length c 0 O
    have TG : Hid (∀ i (h : i < O.length), (twL c 0 O)[i]? = some (tw (c i) O[i])) := fun i h => by
      have := twL_get c 0 O i h
      rw [Nat.zero_add] at this
      rw [List.getElem?_eq_getElem (by rw [twL_length]; exact h), this]
    obtain ⟨T, hT⟩ : ∃ T, twL c 0 O = T := ⟨_, rfl⟩
    rw [hT] at TN TG RO OT
    clear hrv hrow4 hk4 hc hO hT B3 HN HH
    obtain ⟨N, hN⟩ : ∃ N, n + 2 = N := ⟨_, rfl⟩
    have hNb : N ≤ 65538 := by omega
    have HNN := Lib.hid hN
    rw [hN] at ON ⊢
    clear hN
    go_wp2
    go_loopw [39] (fun iv wr => ∃ i : Nat, i ≤ N ∧ iv = .int .i64 i ∧ Hid (RowS rb ((T.take i ++ O.drop i).map strOf) wr) ∧ Hid (Below w2.heap.size w2 wr)) (fun iv _ => N - (intOf iv).toNat)
    case atStart => exact ⟨0, Nat.zero_le _, rfl, R4.out, BW.out⟩
    case round =>
      clear R4 BW
      obtain ⟨i, hi, rfl, R, B⟩ := hrel
      by_cases hlt : i < N
      · have hio : i < O.length := by rw [ON.out]; exact hlt
        have hlt' : (i : Int) < (N : Int) := by omega
        have g := mix_at T O TN.out i hio
        have hti : T[i]'(by rw [TN.out]; exact hio) = tw (c i) O[i] := by
          have h := TG.out i hio
          rw [List.getElem?_eq_getElem (by rw [TN.out]; exact hio)] at h
          exact Option.some.inj h
        rw [List.getElem?_eq_getElem hio] at g
        have g2 : ((T.take i ++ O.drop i).map strOf)[i]? = some (strOf O[i]) := by rw [List.getElem?_map, g]; rfl
        obtain ⟨g3, g4⟩ := row_get R.out g2
        by_cases hq : (i + m) % 3 = 0
        · have hci : c i = true := by rw [← HCC.out]; exact beq_iff_eq.2 hq
          have q1 : (((i : Int) + (m : Int)).tmod 3 == 0) = true := beq_iff_eq.2 (by rw [Int.tmod_eq_emod_of_nonneg (by omega)]; omega)
          have q2 : (((i : Int) + (m : Int)) % 3 == 0) = true := beq_iff_eq.2 (by omega)
          have hst := mix_step T O TN.out i hio
          rw [hti, hci] at hst
          have htl := tolower_any O[i] (OC.out _ (List.getElem_mem hio)) (Nat.le_trans (OL.out _ (List.getElem_mem hio)) (by omega)) wr
          have hsum : strOf (O[i].map lowC) ++ ⟨#[13, 10, 32, 9]⟩ = strOf (tw true O[i]) := by
            apply bytes_ext
            simp [append_data, strOf_list, tw, lowT]
          have hsz : (strOf (O[i].map lowC)).size ≤ 600 := by rw [strOf_size, List.length_map]; exact OL.out _ (List.getElem_mem hio)
          have MM : Hid (∀ w', RowS rb ((T.take i ++ O.drop i).map strOf) w' → RowS rb ((T.take (i + 1) ++ O.drop (i + 1)).map strOf) (w'.setCell ⟨rb, i, none⟩ (.string (strOf (tw true O[i]))))) := fun w' h => by
            have h2 := h.set i (strOf (tw true O[i]))
            rw [← List.map_set, hst] at h2
            exact h2
          have GE : Hid (((T.take i ++ O.drop i).map strOf)[i]? = some (strOf O[i])) := g2
          obtain ⟨lo, hlo⟩ : ∃ lo, strOf (O[i].map lowC) = lo := ⟨_, rfl⟩
          obtain ⟨o, ho⟩ : ∃ o, strOf O[i] = o := ⟨_, rfl⟩
          obtain ⟨u, hu⟩ : ∃ u, strOf (tw true O[i]) = u := ⟨_, rfl⟩
          rw [hlo] at htl hsum hsz
          rw [ho] at htl g3 GE
          rw [hu] at hsum MM
          have h4 : (⟨#[13, 10, 32, 9]⟩ : ByteArray).size = 4 := rfl
          clear hlo ho hu g g2 hst hti hci hq
          go_wp2_with fail
          refine htl.mono ?_
          rintro e w5 ⟨rfl, hb5⟩
          have R5 := R.out.below hb5
          obtain ⟨k3, k4⟩ := row_get R5 GE.out
          have RN := Lib.hid (MM.out _ R5)
          have BN : Hid (Below w2.heap.size w2 (w5.setCell ⟨rb, i, none⟩ (.string u))) := (B.out.trans (hb5.mono B.out.size)).setCell (p := ⟨rb, i, none⟩) HG.out _
          clear htl hb5 R5 g3 g4
          go_wp2
          go_roundw
          case rel => exact ⟨i + 1, hlt, by go_num, RN.out, BN.out⟩
          case measure => simp [intOf]; omega
        · have hci : c i = false := by rw [← HCC.out]; exact beq_eq_false_iff_ne.2 hq
          have q1 : (((i : Int) + (m : Int)).tmod 3 == 0) = false := beq_eq_false_iff_ne.2 (by rw [Int.tmod_eq_emod_of_nonneg (by omega)]; omega)
          have q2 : (((i : Int) + (m : Int)) % 3 == 0) = false := beq_eq_false_iff_ne.2 (by omega)
          have hst := mix_same T O TN.out i hio (by rw [hti, hci]; rfl)
          have RN : Hid (RowS rb ((T.take (i + 1) ++ O.drop (i + 1)).map strOf) wr) := by show RowS _ _ _; rw [← hst]; exact R.out
          clear g g2 g3 g4 hst hti hci hq R
          go_wp2
          go_roundw
          case rel => exact ⟨i + 1, hlt, by go_num, RN.out, B.out⟩
          case measure => simp [intOf]; omega
      · have hlt' : decide ((i : Int) < (N : Int)) = false := decide_eq_false (by omega)
        have hRT : RowS rb (T.map strOf) wr := by
          have h := R.out
          have hTl : T.length = N := by rw [TN.out, ON.out]
          rw [List.take_of_length_le (by omega), List.drop_of_length_le (by rw [ON.out]; omega), List.append_nil] at h
          exact h
        have hTl : T.length = N := by rw [TN.out, ON.out]
        have hj := sjoin_any (fun _ => True) (some ⟨rb, 0, none⟩) rcap T (by have := HNN.out; omega) (by rw [hTl, ← HNN.out]; exact HC.out) (Nat.le_trans OT.out (by omega)) wr hRT.strs
        rw [hTl] at hj
        have hrd := fun w => hread_any (interL T) OT.out w
        rw [RO.out] at hrd
        obtain ⟨y, hy⟩ : ∃ y, strOf (interL T) = y := ⟨_, rfl⟩
        rw [hy] at hj hrd
        clear hy hTl hRT R
        go_wp2_with fail
        refine hj.mono ?_
        rintro e w5 ⟨rfl, hb5⟩
        have B5 : Hid (Below w2.heap.size w2 w5) := B.out.trans (hb5.mono B.out.size)
        have hrd' := hrd w5
        clear hj hb5 hrd B
        go_wp2_with fail
        refine hrd'.mono ?_
        rintro e w6 ⟨h1, -, h3⟩
        obtain ⟨b2, rfl, -, hJ⟩ := h1 rfl
        have al : Below w6.heap.size w6 (w6.alloc (.cells #[.int .i64 0, .int .i64 0] 26)) := (Below.refl _ _).alloc (Nat.le_refl _) _
        have F6 : Two (w6.alloc (.cells #[.int .i64 0, .int .i64 0] 26)) w6.heap.size 26 (.int .i64 0) (.int .i64 0) := World.alloc_heap_new _ _
        have q6 : Below w5.heap.size w5 (w6.alloc (.cells #[.int .i64 0, .int .i64 0] 26)) := h3.trans (al.mono h3.size)
        have B6 : Hid (Below w2.heap.size w2 (w6.alloc (.cells #[.int .i64 0, .int .i64 0] 26))) := B5.out.trans (q6.mono B5.out.size)
        have J6 := Lib.hid (hJ.below al)
        have FF := Lib.hid F6
        obtain ⟨D, hD⟩ : ∃ D, w6.heap.size = D := ⟨_, rfl⟩
        rw [hD] at FF
        clear h1 h3 hrd' al F6 q6 hJ B5
        go_wp2_with fail
        refine (alive5_any _).mono ?_
        rintro e w7 ⟨rfl, hb7⟩
        have F7 : Two w7 D 26 (.int .i64 0) (.int .i64 0) := (hb7.block _ FF.out.lt).trans FF.out
        have c0 := F7.c0
        have c1 := F7.c1
        have B7 : Hid (Below w2.heap.size w2 w7) := B6.out.trans (hb7.mono B6.out.size)
        have hsm := Im.isame_any b2 b V V w7 (J6.out.below hb7) (I2.out.below B7.out)
        rw [decide_eq_true (rfl : V = V)] at hsm
        have BF : Hid (Below w.heap.size w w7.drew) := (K2.out.trans (B7.out.mono K2.out.size)).drew
        clear hb7 F7 J6 B6 FF hD
        go_wp2_with fail
        refine hsm.mono ?_
        rintro e w8 ⟨rfl, rfl⟩
        clear hsm
        go_wp2
        go_ret
        exact ⟨rfl, BF.out⟩

set_option maxRecDepth 100000 in
theorem lifted (os : Os) (started : os.Started) (H : Type) (enc : TypeId × Value → H) :
    ReturnsInHanded {} Tryz.checked os 4 .any (fun w args => (Rows.hexreadOrderSpec.pre enc Tryz.prog Tryz.f4 [] false w args ∧ laidMetH Tryz.prog Rows.hexreadOrderRow.laid w) ∧ sizedMet enc Tryz.prog Tryz.f4 (OpenSpec.ofChange Rows.hexreadOrderSpec) false w args)
      (Rows.hexreadOrderSpec.post enc Tryz.prog Tryz.f4 false true false false) := by
  refine returnsInHanded_of_change_and (C := Tryz.checked) (X := fun w _ => laidMetH Tryz.prog Rows.hexreadOrderRow.laid w) (fun _ _ _ hh h => h.of_heap hh) own started (by kernel_rfl) Tryz.func4
    (ChangeSpec.witness_shaped (enc := enc) (C := Tryz.checked) (os := os) (X := fun w _ => laidMetH Tryz.prog Rows.hexreadOrderRow.laid w) false (World.laidAll Tryz.prog os Rows.hexreadOrderRow.laid) #[.slice none 0 0, .int .u8 0] 8 (World.laidAll_os _ _ _)
      (World.shaped_of_ZipB (by kernel_rfl) (by kernel_rfl)) (by kernel_rfl) (by kernel_rfl) (by kernel_rfl)
      (by rw [MakeChecks.laidMetH_plain _ _ _ (by kernel_rfl)]; exact laidMet_laidAll _ (by kernel_rfl) (by kernel_rfl))) ?_
  intro W base args ds gs before hval0 hW _ _ hL _
  have hval : ∀ (j : Nat) t v, Tryz.f4.params[j]? = some t → args[j]? = some v → Value.okWide Tryz.prog W .any base t v := hval0
  have hW' := hW
  obtain ⟨p, q, hA0, hV, rfl, _, _⟩ := hW
  have hA : DataW.TrodAll enc Tryz.prog W 0 (fun _ => true) true Tryz.f4.params.toList args.toList ds p := hA0
  rw [Tryz.params4] at hA hval
  obtain ⟨v0, vs0, d0, ds0, p0, q0, hargs, rfl, rfl, h0, r0⟩ := trodAll_cons hA
  obtain ⟨v1, vs1, d1, ds1, p1, q1, rfl, rfl, rfl, h1, r1⟩ := trodAll_cons r0
  obtain ⟨rfl, rfl, rfl⟩ := trodAll_nil r1
  obtain rfl : args = #[v0, v1] := by cases args; simp_all
  obtain ⟨rfl, rfl⟩ := trodVars_none hV
  have k0 := h0
  have lt0 : ∀ x ∈ p0, x.block < W.heap.size := by obtain ⟨m, hm⟩ := k0; exact DataW.trod_lt m _ _ _ hm
  obtain ⟨a0, len0, cap0, rfl⟩ := okWide_slice Tryz.underlying38 (hval 0 38 v0 rfl rfl)
  obtain ⟨z0, hz0, hm0, w0, d0'⟩ : ∃ rs, len0 = rs.length ∧ len0 ≤ maxLen ∧ Im.RunsP (fun _ => True) (fun _ => True) W a0 rs ∧ ∀ r ∈ rs, r.data.length ≤ maxLen := by
    obtain ⟨fuel, hf⟩ := h0
    have hf' : DataW.trod enc Tryz.prog W 0 (fun _ => true) true fuel 38 [.slice a0 len0 cap0] = some (d0, p0) := by simpa [Value.cells] using hf
    obtain ⟨A, len, cap, rs, e1, e2, e3, e4, e5⟩ := Im.open_runs hf'
    simp only [Value.slice.injEq] at e1
    obtain ⟨rfl, rfl, rfl⟩ := e1
    exact ⟨rs, e2, e3, e4, e5⟩
  subst hz0
  obtain ⟨a1, rfl, rfl, rfl, w1⟩ := open_int Tryz.underlying5 (hval 1 5 v1 rfl rfl) h1
  clear hA0 hval0
  refine (walk a0 cap0 z0 a1 W hm0 w0 d0' w1).mono fun e W' ⟨he, bel⟩ => ?_
  subst he
  exact ⟨_, rfl, _, _, _, [], _, [], hW', trodAll_mk1 (shut_bool Tryz.underlying4 _), (trodAll_cons_mk (Below.trod laidOut (by kernel_rfl) (of_decide_eq_true (by kernel_rfl)) k0 bel lt0) (trodAll_cons_mk (shut_int Tryz.underlying5 w1) trodAll_mk0)), rfl, bel.frame _, fun h => by cases h⟩

theorem over : Rows.HexreadOrderSaid :=
  OpenClaim.holds_of_wide 4 Tryz.f4 rfl rfl rfl rfl rfl rfl rfl ⟨rfl, rfl, rfl, rfl, rfl⟩ rfl rfl rfl rfl rfl (by kernel_rfl) Tryz.func4 (by kernel_rfl)
    (of_decide_eq_true (by kernel_rfl)) (by unfold Func.isWrapper; first | (rw [if_pos (by decide +kernel)]; kernel_rfl) | (rw [if_neg (by decide +kernel)]; exact ⟨rfl, rfl⟩))
    (fun os started H enc _ => lifted os started H enc)
theorem card_holds : Rows.HexreadOrderCardSaid :=
  Claim7.holds_tied_plain_at .later [] [.data, .pinned, .pinned] true Rows.hexreadOrderCard.stood.harness false over (fun _ h => by cases h) (by kernel_rfl) (fun _ h => by cases h) hexreadOrder_row_tie rfl ⟨rfl, rfl⟩ (by kernel_rfl) rfl
    (fun f fn hf hfn => by
      obtain rfl : f = 4 := Option.some.inj ((show Tryz.prog.funcNamed "breadboard/breadboardlaw05.HexreadOrder" = some 4 by kernel_rfl).symm.trans hf) |>.symm
      obtain rfl : fn = Tryz.f4 := (Option.some.inj (Tryz.func4.symm.trans hfn)).symm
      exact ⟨by kernel_rfl, fun j t ht => by
        rw [Tryz.params4] at ht
        have hm : t ∈ [38, 5] := by simpa [or_assoc, or_comm, or_left_comm] using Array.mem_of_getElem? ht
        have hall : ([38, 5].all fun u => !Tryz.prog.wantsStandIn u) = true := by kernel_rfl
        exact (show Tryz.prog.wantsStandIn t = false by simpa using List.all_eq_true.1 hall t hm)⟩)
    (by kernel_rfl)
#print axioms card_holds
end Go.Proofs.YtmeegpdjhcilkaaGreatDoor.hexreadOrderDone
