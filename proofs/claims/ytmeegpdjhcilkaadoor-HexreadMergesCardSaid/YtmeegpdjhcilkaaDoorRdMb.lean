/-
  The walk over the reference's Merge: the cells, or the index, the line and the code.
-/
import Derived.Test.YtmeegpdjhcilkaaDoorRdJ
import Derived.Test.YtmeegpdjhcilkaaDoorRdE
namespace Go.Proofs.YtmeegpdjhcilkaaDoor
open Go.RowKit
set_option linter.unusedVariables false

theorem results_tmp4 {fn : Func} {t u v x : Tmp} (h : fn.results = #[.tmp t, .tmp u, .tmp v, .tmp x]) (tmps : Array Value) (P : Program) (w : World) :
    (results fn tmps).run P w = .ok (.tuple #[tmps.getD t undef, tmps.getD u undef, tmps.getD v undef, tmps.getD x undef]) w := by
  simp [results, h]
macro "go_ret4" : tactic => `(tactic|
  ((try simp only [Exit.inBlock, Exit.then]); refine bodyPost_ret (results_tmp4 rfl _ _ _) rfl ?_))
def RetRMerge (w : World) (r : List Im.Cel × Int × Int × Int) (e : Ending) (w' : World) : Prop :=
  ∃ A cap, e = .returned (.tuple #[.slice A r.1.length cap, .int .i64 r.2.1, .int .i64 r.2.2.1, .int .i64 r.2.2.2]) ∧ r.1.length ≤ cap ∧ Im.CellsP (w.heap.size ≤ ·) w' A r.1 ∧ Below w.heap.size w w'
theorem retRMerge_bad {w w' : World} {r : List Im.Cel × Int × Int × Int} {k l c : Int} (h : r = ([], k, l, c)) (hb : Below w.heap.size w w') : RetRMerge w r (.returned (.tuple #[.slice none 0 0, .int .i64 k, .int .i64 l, .int .i64 c])) w' := by
  subst h
  exact ⟨none, 0, rfl, Nat.le_refl _, .inl rfl, hb⟩
/-- What the texts up to k have made. -/
structure MR5 (w wr : World) (xs : List (List UInt8)) (LA : Option Addr) (V : List Im.Cel) (A : Option Addr) (cap : Nat) : Prop where
  sorted : Im.SortedW V
  cap : V.length ≤ cap
  cells : Im.CellsP (w.heap.size ≤ ·) wr A V
  texts : StrsP (fun _ => True) wr LA (xs.map strOf)
  below : Below w.heap.size w wr
theorem MR5.more {w wr w' : World} {xs : List (List UInt8)} {V : List Im.Cel} {A : Option Addr} {cap : Nat} {LA : Option Addr} (h : MR5 w wr xs LA V A cap) (b : Below wr.heap.size wr w') : MR5 w w' xs LA V A cap :=
  ⟨h.sorted, h.cap, h.cells.below b, h.texts.below b, h.below.trans (b.mono h.below.size)⟩
set_option maxRecDepth 100000 in
set_option maxHeartbeats 8000000 in
theorem rmerge_any (A : Option Addr) (cap : Nat) (xs : List (List UInt8)) (hn : xs.length ≤ 1000000) (hx : ∀ x ∈ xs, x.length ≤ 40000000) (w : World) (hX : StrsP (fun _ => True) w A (xs.map strOf)) :
    Calls Tryd.prog 23 #[.slice A xs.length cap] w (RetRMerge w (mergeL [] 0 xs)) := by
  have XB := Lib.hid hx
  obtain ⟨n, hn'⟩ : ∃ n, xs.length = n := ⟨_, rfl⟩
  have HN := Lib.hid hn'
  rw [hn'] at hn ⊢
  have hnb : (n : Int) ≤ 1000000 := by omega
  have S0 : Hid (MR5 w w xs A [] none 0) := ⟨Im.sorted_nil, Nat.le_refl _, .inl rfl, hX, Below.refl _ _⟩
  clear hx hX hn'
  go_enter Tryd.func23, Tryd.ntmps23
  go_wp2
  go_loopw [6, 7] (fun mv iv wr => ∃ (k : Nat) (V : List Im.Cel) (B : Option Addr) (bcap : Nat), k ≤ n ∧ iv = .int .i64 k ∧ mv = .slice B V.length bcap ∧ Hid (mergeL [] 0 xs = mergeL V k (xs.drop k)) ∧ Hid (MR5 w wr xs A V B bcap)) (fun _ iv _ => n - (intOf iv).toNat)
  case atStart => exact ⟨0, [], none, 0, Nat.zero_le _, rfl, rfl, rfl, S0.out⟩
  case round =>
    clear S0
    obtain ⟨k, V, B, bcap, hk, rfl, rfl, E, R⟩ := hrel
    by_cases hlt : k < n
    · have hkx : k < xs.length := by rw [HN.out]; exact hlt
      have hlt' : (k : Int) < (n : Int) := by omega
      obtain ⟨g, off, hA, g1⟩ := R.out.texts.at_ (show k < (xs.map strOf).length by rw [List.length_map]; exact hkx)
      rw [List.getElem_map] at g1
      subst hA
      have hd : xs.drop k = xs[k] :: xs.drop (k + 1) := List.drop_eq_getElem_cons hkx
      have hr := rread5_any xs[k] (XB.out _ (List.getElem_mem hkx)) wr
      obtain ⟨x, hxk⟩ : ∃ x, xs[k] = x := ⟨_, rfl⟩
      rw [hxk] at hd hr g1
      rw [hd] at E
      have RS := Lib.hid (readT_sorted x)
      obtain ⟨s, hs⟩ : ∃ s, strOf x = s := ⟨_, rfl⟩
      rw [hs] at hr g1
      clear hxk hd hkx hs
      go_wp2_with fail
      refine hr.mono ?_
      rintro e w2 ⟨A2, cap2, rfl, k1, k2, k3⟩
      have R2 := Lib.hid (R.out.more k3)
      have C2 : Hid (Im.CellsP (w.heap.size ≤ ·) w2 A2 (readT x).1) := k2.mono fun i _ hi => Nat.le_trans R.out.below.size hi
      have M2 : Hid (∀ V', mergeL V k (x :: xs.drop (k + 1)) = V' → mergeL [] 0 xs = V') := fun V' h => by rw [E.out, h]
      have RB := Lib.hid (readL_bad (n := 0) (V := []) (e := false) (l := linesOf x))
      have M3 := Lib.hid (And.intro (@mergeL_bad V k x (xs.drop (k + 1))) (And.intro (@mergeL_go V k x (xs.drop (k + 1))) (@mergeL_over V k x (xs.drop (k + 1)))))
      obtain ⟨r, hr'⟩ : ∃ r, readT x = r := ⟨_, rfl⟩
      rw [hr'] at C2 RS M3 k1 ⊢
      obtain ⟨W, l, c⟩ := r
      clear hr hr' k2 k3 E R g1 RB
      by_cases hc : c = 0
      · subst hc
        have hrr := Im.rruns_any _ A2 cap2 W RS.out w2 C2.out
        clear k1
        go_wp2_with fail
        refine hrr.mono ?_
        rintro e w3 ⟨A3, cap3, rs, rfl, -, hp, hR, hb⟩
        have PP : Hid (Im.pairs rs = runsL W) := hp
        have R3 := Lib.hid (R2.out.more hb)
        have hlen : rs.length ≤ 65536 := by
          rw [Im.pairs_length hp]
          exact Nat.le_trans (Im.runs_length_le _) (Im.sorted_length RS.out)
        have Q3 : Hid (Im.RunsP (fun _ => True) (fun _ => True) w3 A3 rs) := hR.mono (fun _ _ _ => trivial) fun _ _ _ => trivial
        obtain ⟨m, hm⟩ : ∃ m, rs.length = m := ⟨_, rfl⟩
        have HM := Lib.hid hm
        have hmb : (m : Int) ≤ 4294967296 := by omega
        rw [hm]
        have LEN := Lib.hid hlen
        clear hrr hp hR hb hm hlen R2 C2
        go_wp2
        go_loopw [6, 12] (fun mv iv wq => ∃ (j : Nat) (V2 : List Im.Cel) (B2 : Option Addr) (bcap2 : Nat), j ≤ m ∧ iv = .int .i64 j ∧ mv = .slice B2 V2.length bcap2 ∧ Hid (ofP V (runsL W) = ofP V2 ((runsL W).drop j)) ∧ Hid (MR5 w wq xs (some ⟨g, off, none⟩) V2 B2 bcap2) ∧ Hid (Im.RunsP (fun _ => True) (fun _ => True) wq A3 rs)) (fun _ iv _ => m - (intOf iv).toNat)
        case atStart => exact ⟨0, V, B, bcap, Nat.zero_le _, rfl, rfl, rfl, R3.out, Q3.out⟩
        case round =>
          clear R3 Q3
          obtain ⟨j, V2, B2, bcap2, hj, rfl, rfl, E, R, Q⟩ := hrel
          by_cases hlt2 : j < m
          · have hjr : j < rs.length := by rw [HM.out]; exact hlt2
            have hlt2' : (j : Int) < (m : Int) := by omega
            obtain ⟨b, off2, hA3, -, -⟩ := Q.out.at_ hjr
            subst hA3
            obtain ⟨g1, g2⟩ := Im.RunsP.get Q.out hjr
            have hkl : j < (runsL W).length := by rw [← PP.out]; unfold Im.pairs; rw [List.length_map]; exact hjr
            have hel : (runsL W)[j] = (rs[j].addr, rs[j].data) := by
              have h := PP.out
              have h2 : (Im.pairs rs)[j]'(by unfold Im.pairs; rw [List.length_map]; exact hjr) = (rs[j].addr, rs[j].data) := by unfold Im.pairs; rw [List.getElem_map]
              simp only [h] at h2
              exact h2
            have hd : (runsL W).drop j = (rs[j].addr, rs[j].data) :: (runsL W).drop (j + 1) := by rw [List.drop_eq_getElem_cons hkl, hel]
            have hmem : (rs[j].addr, rs[j].data) ∈ runsL W := by rw [← hel]; exact List.getElem_mem hkl
            have hdl : rs[j].data.length ≤ maxLen := by
              have hm := hmem
              unfold runsL Im.pairN at hm
              obtain ⟨r, hr, he⟩ := List.mem_map.1 hm
              have h1 := runs_ok RS.out r hr
              have e : r.2 = rs[j].data := congrArg Prod.snd he
              rw [← e]
              unfold maxLen
              omega
            have hX := Q.out.2 _ (List.getElem_mem hjr)
            obtain ⟨r, hr⟩ : ∃ r, rs[j] = r := ⟨_, rfl⟩
            rw [hr] at g1 g2 hd hdl hX hmem
            rw [hd] at E
            have RC := run_code RS.out hmem V2
            have hput := Im.rput_any (w.heap.size ≤ ·) B2 bcap2 V2 R.out.sorted r.addr (fun _ => True) r.A r.cap r.data hdl wr.drew (fun i hi => Nat.le_trans R.out.below.size hi) R.out.cap (R.out.cells.below (Below.refl _ _).drew) (hX.below (Below.refl _ _).drew)
            have hC0 : wr.drew.cell? ⟨b, off2 + j * 2, none⟩ = some (.int .i64 r.addr) ∧ wr.drew.cell? ⟨b, off2 + j * 2 + 1, none⟩ = some (.slice r.A r.data.length r.cap) := ⟨g1, g2⟩
            have hbl := World.block_lt_of_cell? wr _ g1
            clear hd hel hdl hX hr hkl hjr hmem
            go_wp2
            refine Mixed.wp_region_mixed (fun w' => w'.cell? ⟨b, off2 + j * 2, none⟩ = some (.int .i64 r.addr) ∧ w'.cell? ⟨b, off2 + j * 2 + 1, none⟩ = some (.slice r.A r.data.length r.cap)) 16
              [(0, true), (1, true), (2, true), (3, true), (4, true), (5, true), (6, true), (7, true), (8, true), (9, true), (10, true), (11, false), (12, true), (13, true), (14, true), (15, true)] (by kernel_rfl) (by kernel_rfl) hC0 ?_
            refine Mixed.wpMix_move rfl rfl _ rfl _ rfl ?_
            refine Mixed.wpMix_move rfl rfl _ rfl _ rfl ?_
            refine Mixed.wpMix_move rfl rfl _ rfl _ rfl ?_
            refine Mixed.wpMix_pure rfl rfl _ (fun w h => by obtain ⟨q1, q2⟩ := h; go_simp; rfl) ?_
            refine Mixed.wpMix_pure rfl rfl _ (fun w h => by obtain ⟨q1, q2⟩ := h; go_simp; rfl) ?_
            refine Mixed.wpMix_pure rfl rfl _ (fun w h => by obtain ⟨q1, q2⟩ := h; go_simp; rfl) ?_
            refine Mixed.wpMix_move rfl rfl _ rfl _ rfl ?_
            refine Mixed.wpMix_move rfl rfl _ rfl _ rfl ?_
            refine Mixed.wpMix_pure rfl rfl _ (fun w h => by obtain ⟨q1, q2⟩ := h; go_simp; rfl) ?_
            refine Mixed.wpMix_pure rfl rfl _ (fun w h => by obtain ⟨q1, q2⟩ := h; go_simp; rfl) ?_
            refine Mixed.wpMix_pure rfl rfl _ (fun w h => by obtain ⟨q1, q2⟩ := h; go_simp; rfl) ?_
            refine Mixed.wpMix_loud rfl ?_
            go_wp2_with fail
            refine hput.mono ?_
            rintro e w4 ⟨A4, cap4, rfl, hc4, C4, B4⟩
            have BQ : Below wr.heap.size wr w4 := ((Below.refl _ _).drew).trans (B4.mono (Nat.le_refl _))
            have RN : Hid (MR5 w w4 xs (some ⟨g, off, none⟩) (Im.putW V2 r.addr r.data) A4 cap4) := ⟨Im.putW_sorted R.out.sorted _ _, hc4, C4, R.out.texts.below BQ, R.out.below.trans (BQ.mono R.out.below.size)⟩
            have QN := Lib.hid (Q.out.below BQ)
            have hq : w4.cell? ⟨b, off2 + j * 2, none⟩ = some (.int .i64 r.addr) ∧ w4.cell? ⟨b, off2 + j * 2 + 1, none⟩ = some (.slice r.A r.data.length r.cap) :=
              ⟨(B4.cell (p := ⟨b, off2 + j * 2, none⟩) hbl).trans hC0.1, (B4.cell (p := ⟨b, off2 + j * 2 + 1, none⟩) hbl).trans hC0.2⟩
            have HQ := Lib.hid hq
            clear hq B4 C4 hput hc4 BQ R Q hC0 hbl g1 g2
            go_wp2
            refine ⟨HQ.out, ?_⟩
            refine Mixed.wpMix_move rfl rfl _ rfl _ rfl ?_
            refine Mixed.wpMix_pure rfl rfl _ (fun w h => by clear h; go_simp; rfl) ?_
            refine Mixed.wpMix_pure rfl rfl _ (fun w h => by clear h; go_simp; rfl) ?_
            refine Mixed.wpMix_assign rfl rfl _ rfl _ rfl ?_
            simp only [Mixed.wpMix, List.drop_succ_cons, List.drop_zero]
            clear HQ
            by_cases hc : Im.codeW V2 r.addr r.data = 0
            · have E2 : Hid (ofP V (runsL W) = ofP (Im.putW V2 r.addr r.data) ((runsL W).drop (j + 1))) := by show _ = _; rw [E.out, ofP_go hc]
              rw [hc]
              clear hc RC
              go_wp2
              go_roundw
              case rel => exact ⟨j + 1, _, A4, cap4, hlt2, by go_num, rfl, E2.out, RN.out, QN.out⟩
              case measure => simp [intOf]; omega
            · have E2 : Hid (mergeL [] 0 xs = ([], (k : Int), 0, 4)) := M2.out _ (M3.out.2.2 (by first | rfl | trivial) (by rw [E.out, ofP_stop hc]; exact hc))
              have hc4 := RC.resolve_left hc
              have BR := Lib.hid RN.out.below
              rw [hc4]
              clear hc RC hc4
              go_wp2
              go_ret4
              exact retRMerge_bad E2.out BR.out
          · have hlt2' : decide ((j : Int) < (m : Int)) = false := decide_eq_false (by omega)
            have E2 : Hid (ofP V (runsL W) = (V2, 0)) := by
              show _ = _
              have h : (runsL W).length = m := by rw [← PP.out]; unfold Im.pairs; rw [List.length_map, HM.out]
              rw [E.out, List.drop_of_length_le (by omega)]
              rfl
            have E3 : Hid (mergeL [] 0 xs = mergeL V2 (k + 1) (xs.drop (k + 1))) := by
              show _ = _
              rw [M2.out _ (M3.out.2.1 (by first | rfl | trivial) (by rw [E2.out]))]
              rw [E2.out]
            go_wp2
            go_roundw
            case rel => exact ⟨k + 1, V2, B2, bcap2, hlt, by go_num, rfl, E3.out, R.out⟩
            case measure => simp [intOf]; omega
      · have E3 : Hid (mergeL [] 0 xs = ([], (k : Int), l, c)) := M2.out _ (M3.out.1 hc)
        have n1 : (c == 0) = false := beq_eq_false_iff_ne.2 hc
        have n2 : (c != 0) = true := by unfold bne; rw [n1]; rfl
        have BR := Lib.hid R2.out.below
        clear hc k1
        go_wp2
        go_ret4
        exact retRMerge_bad E3.out BR.out
    · have hlt' : decide ((k : Int) < (n : Int)) = false := decide_eq_false (by omega)
      have E2 : Hid (mergeL [] 0 xs = (V, 0, 0, 0)) := by
        show _ = _
        rw [E.out, List.drop_of_length_le (by rw [HN.out]; omega)]
        rfl
      go_wp2
      go_ret4
      rw [E2.out]
      exact ⟨B, bcap, rfl, R.out.cap, R.out.cells, R.out.below⟩
end Go.Proofs.YtmeegpdjhcilkaaDoor
