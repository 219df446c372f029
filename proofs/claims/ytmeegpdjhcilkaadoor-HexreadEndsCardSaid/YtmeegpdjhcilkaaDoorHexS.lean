/-
  The contract of the function that hexwrite.records returns: it passes on the data records of all runs, one after the other, and an End.
-/
import Derived.Test.YtmeegpdjhcilkaaDoorHexAllA
import Derived.Shelf.Abstract
import Derived.Shelf.RegionOpen
import Derived.WalkKit
import Derived.LoopNIn
import Derived.LoopIn
namespace Go.Proofs.YtmeegpdjhcilkaaDoor
open Go.RowKit Go.Shelf
set_option linter.unusedVariables false
attribute [local go_sem] Oper.semAt_some

/-- A record that is passed on: its type; its address and data. -/
abbrev El := Int × R
def elV (x : El) : Value := .agg #[.int .i64 x.1, .int .i64 x.2.addr, .slice x.2.A x.2.data.length x.2.cap]
def elK (x : El) : Int × Int × List UInt8 := (x.1, x.2.addr, x.2.data)
/-- What is said of it in the world of its round. -/
def elE (x : El) (W : World) : Prop := BytesP (fun i => i < W.heap.size) W x.2.A x.2.data ∧ x.2.data.length ≤ 255
def datK (l : List (Int × List UInt8)) : List (Int × Int × List UInt8) := l.map fun p => (0, p.1, p.2)
theorem datK_append (l m : List (Int × List UInt8)) : datK (l ++ m) = datK l ++ datK m := by unfold datK; rw [List.map_append]
def allK (s : Nat) (V : List Im.Cel) : List (Int × Int × List UInt8) := datK (recsW s V) ++ [(1, 0, [])]
theorem allK_length (s : Nat) (V : List Im.Cel) : (allK s V).length = (recsW s V).length + 1 := by unfold allK datK; simp
/-- The block of the size, and the rows' blocks. -/
def QI (Bs : Nat) (i : Nat) (o : Obj) : Prop := i = Bs ∨ rowT o
theorem datK_take (l : List (Int × List UInt8)) (k : Nat) (h : k < l.length) : datK (l.take (k + 1)) = datK (l.take k) ++ [(0, l[k].1, l[k].2)] := by
  rw [List.take_succ_eq_append_getElem h, datK_append]
  rfl

set_option maxHeartbeats 4000000 in
theorem records1_gives (n : Nat) (Bs Bm : Nat) (s : Nat) (hs1 : 1 ≤ s) (hs2 : s ≤ 255) (V : List Im.Cel) (m : Value) (w : World) (hm : ImgM w m V)
    (hBs : Boxed w Bs 3 (.int .i64 s)) (hBm : Boxed w Bm 23 m) :
    Each.Gives Fence.wide n Tryd.prog 67 #[.pointer (some ⟨Bm, 0, none⟩), .pointer (some ⟨Bs, 0, none⟩)] (fun x : El => #[elV x]) elE (KeptO (QI Bs)) (fun ys => ys.map elK = allK s V) ((recsW s V).length + 1) w := fun l J W hW hJ hY h0 => by
  have ks : Boxed W Bs 3 (.int .i64 s) := (hW.block Bs hBs.lt).trans hBs
  have km : W.cell? ⟨Bm, 0, none⟩ = some m := Boxed.cell (t := 23) ((hW.block Bm hBm.lt).trans hBm)
  have hmW := hm.below hW
  have hJd : ∀ (z : List El) (X Y : World), J z X → Below X.heap.size X Y → J z Y := fun z X Y h hb => hJ z X Y none h ⟨hb.os, hb.tape, hb.output, hb.size, fun k hk _ => hb.block k hk⟩ (fun r e => by cases e)
  have hrun := runsM_any m V W hmW
  have VS := Lib.hid hmW.sorted
  have S1 := Lib.hid hs1
  have S2 := Lib.hid hs2
  have KS := Lib.hid ks
  have J0 := Lib.hid h0
  have HY := Lib.hid hY
  have HD := Lib.hid hJd
  clear hs1 hs2 ks hW hBs hBm h0 hY hJd hJ hmW hm
  refine callsIn_wide.2 ?_
  show Calls Tryd.prog 67 #[.func (.yield l) #[] #[], .pointer (some ⟨Bm, 0, none⟩), .pointer (some ⟨Bs, 0, none⟩)] W _
  go_enter Tryd.func67, Tryd.ntmps67
  go_wp2_with fail
  refine hrun.mono ?_
  rintro e w1 ⟨v, rs, rfl, hR, hP, hB⟩
  have R0 := Lib.hid hR
  have PP := Lib.hid hP
  have K0 : Hid (KeptO (QI Bs) W w1) := KeptO.of_all hB
  have J1 : Hid (J [] w1) := HD.out _ _ _ J0.out hB
  obtain ⟨RA, Rc, hv⟩ := hR.val
  subst hv
  have hlen : rs.length ≤ 65536 := by
    rw [Im.pairs_length hP]
    exact Nat.le_trans (Im.runs_length_le _) (Im.sorted_length VS.out)
  clear hrun km hR hP hB J0
  go_wp2
  go_loopw [11] (fun i wr => ∃ (k : Nat), k ≤ rs.length ∧ i = .int .i64 k ∧ Hid (KeptO (QI Bs) W wr) ∧ Hid (RunT wr (.slice RA rs.length Rc) rs) ∧ Hid (∃ pre, J pre wr ∧ pre.map elK = datK (recsR s ((Im.runsW V).take k)))) (fun i _ => rs.length - (intOf i).toNat)
  case atStart => exact ⟨0, Nat.zero_le _, rfl, K0.out, R0.out, [], J1.out, rfl⟩
  case round =>
    obtain ⟨k, hk, rfl, K, RR, G⟩ := hrel
    by_cases hlt : k < rs.length
    · obtain ⟨g, Rc', hA, g0, g1⟩ := RR.out.at_ hlt
      simp only [Value.slice.injEq, true_and] at hA
      obtain ⟨rfl, rfl⟩ := hA
      have kB : wr.cell? ⟨Bs, 0, none⟩ = some (.int .i64 s) := Boxed.cell (t := 3) (K.out.block Bs _ KS.out (.inl rfl))
      have hmem := RR.out.2 rs[k] (List.getElem_mem hlt)
      obtain ⟨hkl, hpa, hpd⟩ := pairsN_at PP.out hlt
      obtain ⟨r, hr⟩ : ∃ r, rs[k] = r := ⟨_, rfl⟩
      rw [hr] at g0 g1 hmem hpa hpd
      have rok := runs_ok VS.out _ (List.getElem_mem hkl)
      rw [← hpd] at rok
      obtain ⟨ob, hob⟩ : ∃ o, Obj.cells #[.int .i64 r.addr, .slice r.A r.data.length r.cap] 91 = o := ⟨_, rfl⟩
      have hal : Below wr.heap.size wr (wr.alloc ob) := (Below.refl _ _).alloc (Nat.le_refl _) ob
      have hsp := split_any _ r.addr s r.A r.cap r.data (by unfold maxLen; omega) hmem.2 (wr.alloc ob) (hmem.1.toP.below hal)
      have HAL := Lib.hid hal
      have HP := Lib.hid (And.intro hpa hpd)
      have ROK := Lib.hid rok
      rw [← hob] at hsp
      have HOB := Lib.hid hob
      have kB2 : (wr.alloc ob).cell? ⟨Bs, 0, none⟩ = some (.int .i64 s) := (hal.cell (p := ⟨Bs, 0, none⟩) (World.block_lt_of_cell? wr _ kB)).trans kB
      rw [← hob] at kB2
      clear kB hr hmem rok hpa hpd hal hob
      go_wp2_with fail
      refine hsp.mono ?_
      rintro e w2 ⟨v2, rs2, n1, -, rfl, hO2, hW2, hP2, hB2⟩
      rw [HOB.out] at hB2
      have hR2 := recT_of hO2 hW2
      have hB3 : Below wr.heap.size wr w2 := HAL.out.trans (hB2.mono HAL.out.size)
      obtain ⟨SA, Sc, hv2⟩ := hR2.val
      subst hv2
      have K2 : Hid (KeptO (QI Bs) W w2) := K.out.trans (KeptO.of_all hB3)
      have RR2 : Hid (RunT w2 (.slice (some ⟨g, 0, none⟩) rs.length Rc) rs) := RR.out.below hB3
      have G2 : Hid (∃ pre, J pre w2 ∧ pre.map elK = datK (recsR s ((Im.runsW V).take k)) ++ datK ((pairs rs2).take 0)) := by
        obtain ⟨pre, h1, h2⟩ := G.out
        exact ⟨pre, HD.out _ _ _ h1 hB3, by rw [h2]; simp [datK]⟩
      have T2 := Lib.hid hR2
      have P2 := Lib.hid hP2
      have hlen2 : rs2.length ≤ 65536 := by
        have h1 := splW_len r.addr s r.data
        rw [← hP2] at h1
        unfold pairs at h1
        rw [List.length_map] at h1
        have := ROK.out
        omega
      have hSP : pairs rs2 = splW (((Im.runsW V)[k]).1 : Int) (s : Int) ((Im.runsW V)[k]).2 := by rw [hP2, HP.out.1, HP.out.2]
      have SP := Lib.hid hSP
      have LEN : Hid (∀ (pre : List El) (j : Nat), j ≤ rs2.length → pre.map elK = datK (recsR s ((Im.runsW V).take k)) ++ datK ((pairs rs2).take j) → pre.length < (recsW s V).length + 1) := by
        intro pre j hj he
        have h1 := congrArg List.length he
        have h2 := recsR_le s (Im.runsW V) (k + 1)
        rw [recsR_take s (Im.runsW V) k hkl, ← hSP] at h2
        unfold recsW
        simp only [List.length_append, List.length_map, datK, List.length_take] at h1 h2 ⊢
        omega
      clear hsp hO2 hW2 hP2 hB2 hR2 hB3 HAL K RR G kB2 hSP
      go_wp2
      go_loopw [22] (fun i wr => ∃ (j : Nat), j ≤ rs2.length ∧ i = .int .i64 j ∧ Hid (KeptO (QI Bs) W wr) ∧ Hid (RunT wr (.slice (some ⟨g, 0, none⟩) rs.length Rc) rs) ∧ Hid (RecT wr (.slice SA rs2.length Sc) rs2) ∧ Hid (∃ pre, J pre wr ∧ pre.map elK = datK (recsR s ((Im.runsW V).take k)) ++ datK ((pairs rs2).take j))) (fun i _ => rs2.length - (intOf i).toNat)
      case atStart => exact ⟨0, Nat.zero_le _, rfl, K2.out, RR2.out, T2.out, G2.out⟩
      case round =>
        clear K2 RR2 T2 G2
        obtain ⟨j, hj, rfl, K, RR, T, G⟩ := hrel
        by_cases hlt2 : j < rs2.length
        · obtain ⟨q, Sc', hA, q0, q1, q2⟩ := T.out.at_ hlt2
          simp only [Value.slice.injEq, true_and] at hA
          obtain ⟨rfl, rfl⟩ := hA
          have hmem := T.out.2 rs2[j] (List.getElem_mem hlt2)
          obtain ⟨x, hx⟩ : ∃ x, rs2[j] = x := ⟨_, rfl⟩
          rw [hx] at q1 q2 hmem
          obtain ⟨pre, hJp, hpre⟩ := G.out
          have hxl : x.data.length ≤ 255 := by
            have h1 := splW_dat r.addr s r.data j
            have h2 := (pairs_at (l := pairs rs2) rfl hlt2 (by unfold pairs; simpa using hlt2)).2
            have h3 : pairs rs2 = splW r.addr s r.data := by rw [SP.out, ← HP.out.1, ← HP.out.2]
            have h4 := h1 (by rw [← h3]; unfold pairs; simpa using hlt2)
            simp only [← h3] at h4
            rw [← hx, h2]
            exact h4
          obtain ⟨ob2, hob2⟩ : ∃ o, Obj.cells #[.int .i64 0, .int .i64 x.addr, .slice x.A x.data.length x.cap] 78 = o := ⟨_, rfl⟩
          have hal2 : Below wr.heap.size wr (wr.alloc ob2) := (Below.refl _ _).alloc (Nat.le_refl _) ob2
          have hYd := HY.out pre (0, x) (wr.alloc ob2) (HD.out _ _ _ hJp hal2) ⟨(hmem.toP.below hal2).mono fun i hi _ => hi, hxl⟩ (LEN.out pre j (Nat.le_of_lt hlt2) hpre)
          have K2 : Hid (KeptO (QI Bs) W (wr.alloc ob2)) := K.out.trans (KeptO.of_all hal2)
          have RR2 := Lib.hid (RR.out.below hal2)
          have T2 := Lib.hid (T.out.below hal2)
          obtain ⟨fn, tmps, assign, body, hy, hR⟩ := hYd
          have HX := Lib.hid hx
          have HPRE := Lib.hid hpre
          rw [← hob2] at hy hR K2 RR2 T2
          have OB2 := Lib.hid hob2
          simp only [elV] at hy
          clear hob2 hal2 hmem hxl hx hpre hJp G K RR T
          go_upto_region 6 with fail
          refine (wpIn_wide (n := n)).1 ?_
          gi_wp2
          refine ⟨fun h => (by cases h), hR.mono ?_⟩
          rintro e3 W3 ⟨rfl, hJ3, hk3⟩
          have hQ : ∀ i o, rowT o → QI Bs i o := fun i o h => .inr h
          have K3 : Hid (KeptO (QI Bs) W W3) := K2.out.trans hk3
          have RR3 : Hid (RunT W3 (.slice (some ⟨g, 0, none⟩) rs.length Rc) rs) := by
            have h := RR2.out
            exact h.keptO hQ hk3
          have T3 : Hid (RecT W3 (.slice (some ⟨q, 0, none⟩) rs2.length Sc) rs2) := by
            have h := T2.out
            exact h.keptO hQ hk3
          have G3 : Hid (∃ pre, J pre W3 ∧ pre.map elK = datK (recsR s ((Im.runsW V).take k)) ++ datK ((pairs rs2).take (j + 1))) := by
            refine ⟨_, hJ3, ?_⟩
            have hl2 : j < (pairs rs2).length := by unfold pairs; simpa using hlt2
            have h1 := pairs_at (l := pairs rs2) rfl hlt2 hl2
            rw [List.map_append, HPRE.out, datK_take _ j hl2, ← h1.1, ← h1.2, HX.out, List.append_assoc]
            rfl
          clear hJ3 hk3 hR hy K2 RR2 T2
          gi_wp2
          go_wp2
          go_roundw
          case rel => exact ⟨j + 1, by omega, by go_num, K3.out, RR3.out, T3.out, G3.out⟩
          case measure => simp [intOf]; omega
        · have G3 : Hid (∃ pre, J pre wr ∧ pre.map elK = datK (recsR s ((Im.runsW V).take (k + 1)))) := by
            obtain ⟨pre, h1, h2⟩ := G.out
            refine ⟨pre, h1, ?_⟩
            have h3 : (pairs rs2).take j = pairs rs2 := List.take_of_length_le (by unfold pairs; simp; omega)
            rw [h2, recsR_take s (Im.runsW V) k hkl, datK_append, ← SP.out, h3]
          go_wp2
          go_roundw
          case rel => exact ⟨k + 1, by omega, by go_num, K.out, RR.out, G3.out⟩
          case measure => simp [intOf]; omega
    · have hkN : k = (Im.runsW V).length := by
        have := Im.pairs_length PP.out
        omega
      obtain ⟨pre, hJp, hpre⟩ := G.out
      rw [hkN, List.take_length] at hpre
      have hYd := HY.out pre (1, ⟨0, none, 0, []⟩) wr hJp ⟨.inl rfl, Nat.zero_le _⟩ (by
        have := congrArg List.length hpre
        simp only [List.length_map, datK] at this
        unfold recsW
        omega)
      obtain ⟨fn, tmps, assign, body, hy, hR⟩ := hYd
      simp only [elV, List.length_nil] at hy
      have HPRE := Lib.hid hpre
      clear hpre hJp G K RR
      go_upto_region 9 with fail
      refine (wpIn_wide (n := n)).1 ?_
      gi_wp2
      refine ⟨fun h => (by cases h), hR.mono ?_⟩
      rintro e3 W3 ⟨rfl, hJ3, hk3⟩
      have F : Hid (∃ xs, xs.map elK = allK s V ∧ J xs W3) := ⟨_, by rw [List.map_append, HPRE.out]; rfl, hJ3⟩
      clear hJ3 hk3 hR hy
      gi_wp2
      go_end0
      exact ⟨⟨_, rfl⟩, F.out⟩
end Go.Proofs.YtmeegpdjhcilkaaDoor
