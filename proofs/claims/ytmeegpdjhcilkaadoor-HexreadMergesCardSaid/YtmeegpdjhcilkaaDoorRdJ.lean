/-
  What Merge makes of texts (no program); the walk over hexread.putAll.
-/
import Derived.Test.YtmeegpdjhcilkaaDoorRdY
namespace Go.Proofs.YtmeegpdjhcilkaaDoor
open Go.RowKit
set_option linter.unusedVariables false

/-- Runs are put one after the other. -/
def ofP (V : List Im.Cel) : List (Int × List UInt8) → List Im.Cel × Int
  | [] => (V, 0)
  | p :: t => if Im.codeW V p.1 p.2 = 0 then ofP (Im.putW V p.1 p.2) t else ([], Im.codeW V p.1 p.2)
theorem ofP_go {V : List Im.Cel} {p : Int × List UInt8} {t : List (Int × List UInt8)} (h : Im.codeW V p.1 p.2 = 0) : ofP V (p :: t) = ofP (Im.putW V p.1 p.2) t := by
  show (if _ then _ else _) = _
  rw [if_pos h]
theorem ofP_stop {V : List Im.Cel} {p : Int × List UInt8} {t : List (Int × List UInt8)} (h : Im.codeW V p.1 p.2 ≠ 0) : ofP V (p :: t) = ([], Im.codeW V p.1 p.2) := by
  show (if _ then _ else _) = _
  rw [if_neg h]
def runsL (W : List Im.Cel) : List (Int × List UInt8) := Im.pairN (Im.runsW W)
theorem run_code {W : List Im.Cel} (hW : Im.SortedW W) {p : Int × List UInt8} (hp : p ∈ runsL W) (V : List Im.Cel) : Im.codeW V p.1 p.2 = 0 ∨ Im.codeW V p.1 p.2 = 4 := by
  unfold runsL Im.pairN at hp
  obtain ⟨r, hr, rfl⟩ := List.mem_map.1 hp
  obtain ⟨h1, h2⟩ := runs_ok hW r hr
  have h3 : 0 < r.2.length := List.length_pos_iff.2 h1
  unfold Im.codeW Im.putE Im.addrB
  have e1 : (decide ((0 : Int) ≤ (r.1 : Int)) && decide ((r.1 : Int) < 65536)) = true := by simp; omega
  show (if (decide ((0 : Int) ≤ (r.1 : Int)) && decide ((r.1 : Int) < 65536)) = false then (2 : Int) else _) = 0 ∨ _
  rw [e1, if_neg (by decide), if_neg (show ¬ (65536 - ((r.1 : Int)) < (r.2.length : Int)) by omega)]
  split
  · exact .inr rfl
  · exact .inl rfl
theorem ofP_code {W : List Im.Cel} (hW : Im.SortedW W) (V : List Im.Cel) (l : List (Int × List UInt8)) (hl : ∀ p ∈ l, p ∈ runsL W) : (ofP V l).2 = 0 ∨ (ofP V l).2 = 4 := by
  induction l generalizing V with
  | nil => exact .inl rfl
  | cons p t ih =>
    by_cases hc : Im.codeW V p.1 p.2 = 0
    · rw [ofP_go hc]; exact ih _ fun q hq => hl q (by simp [hq])
    · rw [ofP_stop hc]; exact run_code hW (hl p (by simp)) V
theorem ofP_sorted {V : List Im.Cel} (h : Im.SortedW V) (l : List (Int × List UInt8)) : Im.SortedW (ofP V l).1 := by
  induction l generalizing V with
  | nil => exact h
  | cons p t ih =>
    by_cases hc : Im.codeW V p.1 p.2 = 0
    · rw [ofP_go hc]; exact ih (Im.putW_sorted h _ _)
    · rw [ofP_stop hc]; exact Im.sorted_nil
/-- What Merge returns: the cells, the index, the line and the code. -/
def mergeL (V : List Im.Cel) (i : Nat) : List (List UInt8) → List Im.Cel × Int × Int × Int
  | [] => (V, 0, 0, 0)
  | x :: t => if (readT x).2.2 = 0 then (if (ofP V (runsL (readT x).1)).2 = 0 then mergeL (ofP V (runsL (readT x).1)).1 (i + 1) t else ([], (i : Int), 0, 4)) else ([], (i : Int), (readT x).2.1, (readT x).2.2)
theorem mergeL_go {V : List Im.Cel} {i : Nat} {x : List UInt8} {t : List (List UInt8)} (h1 : (readT x).2.2 = 0) (h2 : (ofP V (runsL (readT x).1)).2 = 0) : mergeL V i (x :: t) = mergeL (ofP V (runsL (readT x).1)).1 (i + 1) t := by
  show (if _ then (if _ then _ else _) else _) = _
  rw [if_pos h1, if_pos h2]
theorem mergeL_over {V : List Im.Cel} {i : Nat} {x : List UInt8} {t : List (List UInt8)} (h1 : (readT x).2.2 = 0) (h2 : (ofP V (runsL (readT x).1)).2 ≠ 0) : mergeL V i (x :: t) = ([], (i : Int), 0, 4) := by
  show (if _ then (if _ then _ else _) else _) = _
  rw [if_pos h1, if_neg h2]
theorem mergeL_bad {V : List Im.Cel} {i : Nat} {x : List UInt8} {t : List (List UInt8)} (h1 : (readT x).2.2 ≠ 0) : mergeL V i (x :: t) = ([], (i : Int), (readT x).2.1, (readT x).2.2) := by
  show (if _ then (if _ then _ else _) else _) = _
  rw [if_neg h1]
theorem mergeL_nil {V : List Im.Cel} {i : Nat} {l : List (List UInt8)} (h : (mergeL V i l).2.2.2 ≠ 0) : (mergeL V i l).1 = [] := by
  induction l generalizing V i with
  | nil => exact absurd rfl h
  | cons x t ih =>
    by_cases h1 : (readT x).2.2 = 0
    · by_cases h2 : (ofP V (runsL (readT x).1)).2 = 0
      · rw [mergeL_go h1 h2] at h ⊢; exact ih h
      · rw [mergeL_over h1 h2]
    · rw [mergeL_bad h1]
/-- What putAll returns. -/
def RetPut (w : World) (b : Nat) (p : List Im.Cel × Int) (e : Ending) (w' : World) : Prop :=
  e = .returned (.int .i64 p.2) ∧ (p.2 = 0 → Im.ImgOf w' b p.1) ∧ KeptP (· ≠ b) w w'
theorem runs_kept {S P : Nat → Prop} {Q : Nat → Prop} {w w' : World} {A : Option Addr} {rs : List Im.R} (h : Im.RunsP S P w A rs) (k : KeptP Q w w') (hS : ∀ i, i < w.heap.size → S i → Q i) (hP : ∀ i, i < w.heap.size → P i → Q i) : Im.RunsP S P w' A rs :=
  h.blocks (fun i hi hs => k.block i hi (hS i hi hs)) fun i hi hp => k.block i hi (hP i hi hp)
set_option maxHeartbeats 4000000 in
theorem putAll_any (b c : Nat) (V W : List Im.Cel) (w : World) (hI : Im.ImgOf w b V) (hJ : Im.ImgOf w c W) :
    Calls Tryd.prog 55 #[.pointer (some ⟨b, 0, none⟩), .pointer (some ⟨c, 0, none⟩)] w (RetPut w b (ofP V (runsL W))) := by
  have hr := Im.runs_any c W w hJ
  have I0 := Lib.hid hI
  have WS := Lib.hid hJ.1
  clear hI hJ
  go_enter Tryd.func55, Tryd.ntmps55
  go_wp2_with fail
  refine hr.mono ?_
  rintro e w1 ⟨A, cap, rs, rfl, -, hp, hR, hb⟩
  have PP : Hid (Im.pairs rs = runsL W) := hp
  have R1 := Lib.hid hR
  have I1 := Lib.hid (I0.out.below hb)
  have K1 : Hid (KeptP (· ≠ b) w w1) := KeptP.of_all hb
  have hlen : rs.length ≤ 65536 := by
    rw [Im.pairs_length hp]
    exact Nat.le_trans (Im.runs_length_le _) (Im.sorted_length WS.out)
  have BL := Lib.hid I0.out.lt
  obtain ⟨n, hn⟩ : ∃ n, rs.length = n := ⟨_, rfl⟩
  have HN := Lib.hid hn
  have hnb : (n : Int) ≤ 4294967296 := by omega
  rw [hn]
  have LEN := Lib.hid hlen
  clear hr hp hR hb hn hlen I0
  go_wp2
  go_loopw [11] (fun iv wr => ∃ (k : Nat) (V' : List Im.Cel), k ≤ n ∧ iv = .int .i64 k ∧ Hid (ofP V (runsL W) = ofP V' ((runsL W).drop k)) ∧ Hid (Im.ImgOf wr b V') ∧ Hid (Im.RunsP (w.heap.size ≤ ·) (w.heap.size ≤ ·) wr A rs) ∧ Hid (KeptP (· ≠ b) w wr)) (fun iv _ => n - (intOf iv).toNat)
  case atStart => exact ⟨0, V, Nat.zero_le _, rfl, rfl, I1.out, R1.out, K1.out⟩
  case round =>
    clear I1 R1 K1
    obtain ⟨k, V', hk, rfl, E, I, R, K⟩ := hrel
    by_cases hlt : k < n
    · have hkr : k < rs.length := by rw [HN.out]; exact hlt
      have hlt' : (k : Int) < (n : Int) := by omega
      obtain ⟨g, off, hA, -, -⟩ := R.out.at_ hkr
      subst hA
      obtain ⟨g1, g2⟩ := Im.RunsP.get R.out hkr
      have hkl : k < (runsL W).length := by rw [← PP.out]; unfold Im.pairs; rw [List.length_map]; exact hkr
      have hel : (runsL W)[k] = (rs[k].addr, rs[k].data) := by
        have h := PP.out
        have h2 : (Im.pairs rs)[k]'(by unfold Im.pairs; rw [List.length_map]; exact hkr) = (rs[k].addr, rs[k].data) := by unfold Im.pairs; rw [List.getElem_map]
        simp only [h] at h2
        exact h2
      have hd : (runsL W).drop k = (rs[k].addr, rs[k].data) :: (runsL W).drop (k + 1) := by rw [List.drop_eq_getElem_cons hkl, hel]
      have hdl : rs[k].data.length ≤ maxLen := by
        have hm : (rs[k].addr, rs[k].data) ∈ runsL W := by rw [← hel]; exact List.getElem_mem hkl
        unfold runsL Im.pairN at hm
        obtain ⟨r, hr, he⟩ := List.mem_map.1 hm
        have h1 := runs_ok WS.out r hr
        have e : r.2 = rs[k].data := congrArg Prod.snd he
        rw [← e]
        unfold maxLen
        omega
      have hX := R.out.2 _ (List.getElem_mem hkr)
      obtain ⟨r, hr⟩ : ∃ r, rs[k] = r := ⟨_, rfl⟩
      rw [hr] at g1 g2 hd hdl hX
      rw [hd] at E
      obtain ⟨w2, hw2⟩ : ∃ w2, wr.alloc (.cells #[.int .i64 r.addr, .slice r.A r.data.length r.cap] 91) = w2 := ⟨_, rfl⟩
      have hal : Below wr.heap.size wr w2 := by rw [← hw2]; exact (Below.refl _ _).alloc (Nat.le_refl _) _
      have F2 : Two w2 wr.heap.size 91 (.int .i64 r.addr) (.slice r.A r.data.length r.cap) := by rw [← hw2]; exact World.alloc_heap_new _ _
      have c0 := F2.c0
      have c1 := F2.c1
      have hput := Im.put_any b V' r.addr (· ≠ b) (fun h => h rfl) r.A r.data r.cap w2 hdl (I.out.below hal) ((hX.mono (Q := (· ≠ b)) fun i _ hi => by have := BL.out; omega).below hal)
      have K2 : Hid (KeptP (· ≠ b) w w2) := K.out.trans (KeptP.of_all hal)
      have R2 := Lib.hid (R.out.below hal)
      clear hd hel hdl hX hr hal F2 hkl hkr I R K
      go_wp2_with fail
      refine hput.mono ?_
      rintro e w3 ⟨rfl, hI3, hK3⟩
      have kk := kept_keep (P := (· ≠ b)) hK3 (fun h => h rfl)
      have K3 : Hid (KeptP (· ≠ b) w w3) := K2.out.trans kk
      have R3 := Lib.hid (runs_kept R2.out kk (fun i _ hi => by have := BL.out; omega) fun i _ hi => by have := BL.out; omega)
      have I3 := Lib.hid hI3
      clear hput hI3 hK3 kk K2 R2 hw2 c0 c1 g1 g2
      by_cases hc : Im.codeW V' r.addr r.data = 0
      · have E2 : Hid (ofP V (runsL W) = ofP (Im.putW V' r.addr r.data) ((runsL W).drop (k + 1))) := by show _ = _; rw [E.out, ofP_go hc]
        rw [hc]
        clear hc
        go_wp2
        go_roundw
        case rel => exact ⟨k + 1, _, hlt, by go_num, E2.out, I3.out, R3.out, K3.out⟩
        case measure => simp [intOf]; omega
      · have E2 : Hid (ofP V (runsL W) = ([], Im.codeW V' r.addr r.data)) := by show _ = _; rw [E.out, ofP_stop hc]
        have HC := Lib.hid hc
        obtain ⟨f, hf⟩ : ∃ f, Im.codeW V' r.addr r.data = f := ⟨_, rfl⟩
        rw [hf] at E2 HC hc ⊢
        have n1 : (f == 0) = false := beq_eq_false_iff_ne.2 hc
        have n2 : (f != 0) = true := by unfold bne; rw [n1]; rfl
        clear hc hf
        go_wp2
        go_ret
        rw [E2.out]
        exact ⟨rfl, fun h => absurd h HC.out, K3.out⟩
    · have hlt' : decide ((k : Int) < (n : Int)) = false := decide_eq_false (by omega)
      have E2 : Hid (ofP V (runsL W) = (V', 0)) := by
        show _ = _
        have h : (runsL W).length = n := by rw [← PP.out]; unfold Im.pairs; rw [List.length_map, HN.out]
        rw [E.out, List.drop_of_length_le (by omega)]
        rfl
      go_wp2
      go_ret
      rw [E2.out]
      exact ⟨rfl, fun _ => I.out, K.out⟩
end Go.Proofs.YtmeegpdjhcilkaaDoor
