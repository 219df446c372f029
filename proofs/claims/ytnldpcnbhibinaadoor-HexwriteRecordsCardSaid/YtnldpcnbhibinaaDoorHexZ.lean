/-
  The walk over hexwrite.Dump: the dump of every image.
-/
import Derived.Test.YtnldpcnbhibinaaDoorHexAllC
namespace Go.Proofs.YtnldpcnbhibinaaDoor
open Go.RowKit Go.Shelf
set_option linter.unusedVariables false
attribute [local go_sem] Oper.semAt_some

/-! ### A function that has been through many loops over functions -/
def mkD (D : Nat) : Deferred := { target := .collected D, args := #[] }
def shutD (w : World) (Ds : List Nat) : World := Ds.foldl (fun w D => w.putObj D (.deferred none)) w
theorem leaves_marks {F : Fence} {n : Nat} {P : Program} {fn : Func} {tmps : Array Value} {R : Ending → World → Prop} (Ds : List Nat) (w : World) (hd : Ds.Nodup) (hw : ∀ D ∈ Ds, w.heap[D]? = some (.deferred (some [])))
    (h : LeavesInM F n P fn tmps R [] .returning (shutD w Ds)) : LeavesInM F n P fn tmps R (Ds.map mkD) .returning w := by
  induction Ds generalizing w with
  | nil => exact h
  | cons D Ds ih =>
    rw [List.nodup_cons] at hd
    refine ⟨by simp, .inl ⟨_, _, rfl, run_takeDeferred (hw D (by simp)), ?_⟩⟩
    refine ih _ hd.2 (fun D' hD' => ?_) h
    exact (World.putObj_heap_other (fun (e : D' = D) => hd.1 (by rw [← e]; exact hD'))).trans (hw D' (by simp [hD']))
theorem below_shut {B : Nat} {w : World} (Ds : List Nat) (W : World) (hB : Below B w W) (hd : Ds.Nodup) (h : ∀ D ∈ Ds, B ≤ D ∧ W.heap[D]? = some (.deferred (some []))) : Below B w (shutD W Ds) := by
  induction Ds generalizing W with
  | nil => exact hB
  | cons D Ds ih =>
    rw [List.nodup_cons] at hd
    have h0 := h D (by simp)
    exact ih _ (hB.grown (grownBy_putObj' W D _) (by have := (Array.getElem?_eq_some_iff.1 h0.2).1; omega) fun k e => by cases e; exact h0.1) hd.2 fun D' hD' => ⟨(h D' (by simp [hD'])).1, (World.putObj_heap_other (fun (e : D' = D) => hd.1 (by rw [← e]; exact hD'))).trans (h D' (by simp [hD'])).2⟩
theorem rwE.grown {B : Nat} {x : R} {X Y : World} {row : Option Nat} (h : rwE x X) (hg : X.grownBy Y row) (hr : ∀ r, row = some r → B ≤ r ∧ ∃ o : Obj, X.heap[r]? = some o ∧ o.isCells = false) : rwE x Y := by
  refine ⟨((h.1.cells.blocks fun i hi hp => hg.block i hi fun e' => ?_).mono fun i hi hp => hi), h.2⟩
  obtain ⟨o, ho, hc⟩ := (hr i e'.symm).2
  obtain ⟨o', ho', hc'⟩ := hp.2
  rw [ho] at ho'; cases ho'; rw [hc] at hc'; cases hc'
def rwS (x : R) : ByteArray := strOf (rowB x.addr x.data)
def rowS (r : Im.Rn) : ByteArray := strOf (rowT' r)
theorem map_rwS {ys : List R} {l : List Im.Rn} (h : ys.map rwK = Im.pairN l) : ys.map rwS = l.map rowS := by
  have e1 : ys.map rwS = (ys.map rwK).map (fun k => strOf (rowB k.1 k.2)) := by rw [List.map_map]; rfl
  rw [e1, h]
  unfold Im.pairN
  rw [List.map_map]
  rfl
theorem join_rows (W : List Im.Cel) : joinS ((rowsC W).map rowS) = dumpL W := by
  unfold joinS dumpL
  rw [List.map_map]
  congr 1
/-- What holds in and between the rounds of Dump's loop over rows. -/
def DI (w1 : World) (bl nB Br : Nat) (vr : Value) (rs : List Im.R) (Ds : List Nat) (ss : List ByteArray) (W : World) : Prop :=
  SI w1 bl nB ss W ∧ RunT W vr rs ∧ (∀ D ∈ Ds, W.heap[D]? = some (.deferred (some []))) ∧ ∃ cs, W.heap[Br]? = some (.cells cs 72 (0, 0))
theorem keptO_turn {X Y : World} {row : Option Nat} (hg : X.grownBy Y row) (hr : ∀ r, row = some r → ∃ o : Obj, X.heap[r]? = some o ∧ o.isCells = false) : KeptO (fun _ o => rowT o) X Y :=
  KeptO.grown hg fun k o e ho hq => by
    obtain ⟨o', ho', hc⟩ := hr k e
    rw [ho] at ho'
    cases ho'
    exact rowT_cells hc hq
theorem DI.grown {w1 : World} {bl nB Br B : Nat} {vr : Value} {rs : List Im.R} {Ds : List Nat} {ss : List ByteArray} {X Y : World} {row : Option Nat} (h : DI w1 bl nB Br vr rs Ds ss X) (hB : nB ≤ B) (hD : ∀ D ∈ Ds, D < B) (hg : X.grownBy Y row) (hr : ∀ r, row = some r → B ≤ r ∧ ∃ o : Obj, X.heap[r]? = some o ∧ o.isCells = false) : DI w1 bl nB Br vr rs Ds ss Y := by
  obtain ⟨a1, a2, a3, cs, a4⟩ := h
  have k := keptO_turn hg fun r e => (hr r e).2
  refine ⟨a1.grown hB hg hr, a2.keptO (fun _ _ h => h) k, fun D hD' => ?_, cs, k.block _ _ a4 ⟨cs, _, _, rfl, .inr (.inl rfl)⟩⟩
  exact (hg.block D (Array.getElem?_eq_some_iff.1 (a3 D hD')).1 fun e => by
    have h1 := (hr D e.symm).1
    have h2 := hD D hD'
    omega).trans (a3 D hD')
set_option maxHeartbeats 8000000 in
theorem dump_any (m : Value) (V : List Im.Cel) (w : World) (hm : ImgM w m V) :
    Calls Tryd.prog 15 #[m] w fun e w' => e = .returned (.string (strOf (dumpL V))) ∧ Below w.heap.size w w' := by
  have VS := Lib.hid hm.sorted
  have hal : Below w.heap.size w (w.alloc (.cells #[.slice none 0 0] 29)) := (Below.refl _ _).alloc (Nat.le_refl _) _
  have hrun := runsM_any m V _ (hm.below hal)
  have hbx := Boxed.new w 29 (.slice none 0 0)
  clear hm
  refine callsIn_wide.1 (callsIn_of_wp_marks (n := 3) Tryd.func15 rfl trivial ?_ rfl)
  simp only [Tryd.ntmps15, List.size_toArray, List.length_cons, List.length_nil, Nat.reduceAdd, Nat.reduceSub, Array.replicate_succ, Array.replicate_zero, List.push_toArray, List.append_toArray, List.nil_append, List.cons_append]
  refine wpIn_wide.2 ?_
  go_wp2_with fail
  refine hrun.mono ?_
  rintro e w1 ⟨vr, rs, rfl, hR, hP, hB⟩
  have PP := Lib.hid hP
  have R0 := Lib.hid hR
  have hb1 : Below w.heap.size w w1 := hal.trans (hB.mono hal.size)
  have hs1 : w.heap.size + 1 ≤ w1.heap.size := by have := hB.size; simpa using this
  have S0 : Hid (SI w1 w.heap.size (w.heap.size + 1) [] w1) := ⟨_, (hB.block _ (by simp)).trans hbx, World.ownsRow_nil _ _ _ _, KeptP.refl _ _⟩
  have B1 := Lib.hid hb1
  have Z1 := Lib.hid hs1
  obtain ⟨RA, Rc, hv⟩ := hR.val
  subst hv
  have hlen : rs.length ≤ 65536 := by
    rw [Im.pairs_length hP]
    exact Nat.le_trans (Im.runs_length_le _) (Im.sorted_length VS.out)
  clear hrun hR hP hB hal hbx hb1 hs1
  go_wp2
  refine wp_loop (fun a' w' => ∃ (k : Nat) (u5 u12 u13 u14 u15 u16 u25 : Value) (Ds : List Nat), k ≤ rs.length ∧
      a' = { tmps := #[m, undef, .string ⟨#[]⟩, .pointer (some ⟨w.heap.size, 0, none⟩), undef, u5, undef, undef, m, .slice RA rs.length Rc, .int .i64 rs.length, .int .i64 k, u12, u13, u14, u15, u16, undef, undef, undef, undef, undef, undef, undef, undef, u25, undef, undef], defers := Ds.map mkD } ∧
      Hid (SI w1 w.heap.size (w.heap.size + 1) ((rowsC (Im.expand ((Im.runsW V).take k))).map rowS) w') ∧ Hid (RunT w' (.slice RA rs.length Rc) rs) ∧ Hid (Ds.Nodup) ∧ Hid (∀ D ∈ Ds, w.heap.size + 1 ≤ D ∧ w'.heap[D]? = some (.deferred (some []))))
    (fun a' _ => rs.length - (intOf (a'.tmps.getD 11 undef)).toNat) ?start ?round
  case start => exact ⟨0, _, _, _, _, _, _, _, [], Nat.zero_le _, rfl, S0.out, R0.out, List.nodup_nil, fun D h => absurd h List.not_mem_nil⟩
  case round =>
    clear S0 R0
    rintro a' wr ⟨k, u5, u12, u13, u14, u15, u16, u25, Ds, hk, rfl, S, RR, ND, DD⟩
    by_cases hlt : k < rs.length
    · obtain ⟨g, Rc', hA, g0, g1⟩ := RR.out.at_ hlt
      simp only [Value.slice.injEq, true_and] at hA
      obtain ⟨rfl, rfl⟩ := hA
      have hmem := RR.out.2 rs[k] (List.getElem_mem hlt)
      obtain ⟨hkl, hpa, hpd⟩ := pairsN_at PP.out hlt
      obtain ⟨r, hr⟩ : ∃ r, rs[k] = r := ⟨_, rfl⟩
      rw [hr] at g0 g1 hmem hpa hpd
      have rok := runs_ok VS.out _ (List.getElem_mem hkl)
      have hrt := rows_take VS.out k hkl
      obtain ⟨a, ha⟩ : ∃ a, ((Im.runsW V)[k]).1 = a := ⟨_, rfl⟩
      obtain ⟨xs, hxs⟩ : ∃ xs, ((Im.runsW V)[k]).2 = xs := ⟨_, rfl⟩
      rw [ha, hxs] at rok hrt
      rw [ha] at hpa
      rw [hxs] at hpd
      rw [hpa] at g0
      rw [hpd] at g1 hmem
      obtain ⟨A, hAA⟩ : ∃ A, r.A = A := ⟨_, rfl⟩
      obtain ⟨c, hcc⟩ : ∃ c, r.cap = c := ⟨_, rfl⟩
      rw [hAA] at hmem g1
      rw [hcc] at hmem g1
      have MEM := Lib.hid hmem
      have ROK := Lib.hid rok.2
      have HRT := Lib.hid hrt
      clear hr hmem hpa hpd rok hrt ha hxs hAA hcc
      go_wp2_with fail
      obtain ⟨wa, hwa⟩ : ∃ wa, wr.alloc (.cells #[.int .i64 a, .slice A xs.length c] 72) = wa := ⟨_, rfl⟩
      have za : wa.heap.size = wr.heap.size + 1 := by rw [← hwa]; simp
      have ba : Below wr.heap.size wr wa := by rw [← hwa]; exact (Below.refl _ _).alloc (Nat.le_refl _) _
      rw [hwa]
      clear hwa
      refine (rows_any a A xs.length c wa (wr.heap.size + 1) za).mono ?_
      rintro e W0 ⟨rfl, hW0⟩
      have z0 : W0.heap.size = wr.heap.size + 1 + 1 := by rw [← hW0]; simp; omega
      have b0 : Below wr.heap.size wr W0 := by rw [← hW0]; exact ba.alloc ba.size _
      have hbr : W0.heap[wr.heap.size + 1]? = some (.cells #[.int .i64 a, .slice A xs.length c] 72 (0, 0)) := by rw [← hW0, ← za]; exact heap_alloc_new wa _
      clear hW0 ba za
      have S0 := S.out.below b0
      have R0 := RR.out.below b0
      have hzn : w.heap.size + 1 ≤ wr.heap.size := Nat.le_trans Z1.out (by obtain ⟨_, _, _, h⟩ := S.out; exact h.size)
      have D0 : ∀ D ∈ Ds, W0.heap[D]? = some (.deferred (some [])) := fun D hD => (b0.block D (Array.getElem?_eq_some_iff.1 (DD.out D hD).2).1).trans (DD.out D hD).2
      have D1 : ∀ D ∈ Ds, D < wr.heap.size := fun D hD => (Array.getElem?_eq_some_iff.1 (DD.out D hD).2).1
      have X0 := MEM.out.1.keptO (Q := fun _ _ => True) (fun _ _ _ => trivial) (KeptO.of_all b0)
      have hg := rows1_gives 2 _ a A c xs ROK.out MEM.out.2 W0 hbr X0
      obtain ⟨ss0, hss0⟩ : ∃ ss0, (rowsC (Im.expand ((Im.runsW V).take k))).map rowS = ss0 := ⟨_, rfl⟩
      have hssl : ss0.length + xs.length ≤ 200000 := by
        have h1 := rows_length (Im.expand ((Im.runsW V).take k))
        have h2 : (Im.expand ((Im.runsW V).take k)).length ≤ V.length := by
          conv => rhs; rw [← Im.expand_runs V, ← List.take_append_drop k (Im.runsW V), Im.expand_append, List.length_append]
          omega
        have h3 := Im.sorted_length VS.out
        have h4 := ROK.out
        rw [← hss0, List.length_map]
        omega
      rw [hss0] at S0
      have SS := Lib.hid hss0
      have IN : DI w1 w.heap.size (w.heap.size + 1) (wr.heap.size + 1) (.slice (some ⟨g, 0, none⟩) rs.length Rc) rs Ds (ss0 ++ ([] : List R).map rwS) W0 := ⟨by simpa using S0, R0, D0, _, hbr⟩
      have I0 := Lib.hid IN
      clear S0 R0 D0 X0 IN hss0 g0 g1 hbr
      go_wp2_with fail
      refine wpIn_wide.1 (Each.wpIn_each (F := Fence.wide) (n := 3) rfl (by omega) (gf := 43) (lb := #[.pointer (some ⟨wr.heap.size + 1, 0, none⟩)]) rfl trivial (enters_of Tryd.func43 (by kernel_rfl) rfl)
        hg (fun h k => h.trans k) (fun W l o o' hl ho hc => KeptO.putObj W l o o' ho fun hq => by
          rcases hq with hq | hq
          · omega
          · exact rowT_cells hc hq) (fun _ => rfl)
        (fun pre W => DI w1 w.heap.size (w.heap.size + 1) (wr.heap.size + 1) (.slice (some ⟨g, 0, none⟩) rs.length Rc) rs Ds (ss0 ++ pre.map rwS) W) (fun pre X Y row h hg hr => h.grown (B := W0.heap.size) (by omega) (fun D hD => by have := D1 D hD; omega) hg hr) I0.out
        (fun x a' W => a' = { tmps := #[m, undef, .string ⟨#[]⟩, .pointer (some ⟨w.heap.size, 0, none⟩), undef, .pointer (some ⟨wr.heap.size, 0, none⟩), .int .i64 x.addr, .slice x.A x.data.length x.cap, m, .slice (some ⟨g, 0, none⟩) rs.length Rc, .int .i64 rs.length, .int .i64 k, .bool true, .pointer (some ⟨g, k * 2, none⟩), .agg #[.int .i64 a, .slice A xs.length c], .agg #[.int .i64 a, .slice A xs.length c], .func (.func 43) #[] #[.pointer (some ⟨wr.heap.size + 1, 0, none⟩)], .int .i64 x.addr, .slice x.A x.data.length x.cap, undef, undef, undef, undef, undef, undef, u25, undef, undef], defers := [] } ∧ rwE x W) (fun x a' X Y row h hg hr => ⟨h.1, h.2.grown hg hr⟩) ?assign ?body ?done)
      case assign =>
        intro l pre x W K hI hE hK
        simp only [rwV]
        gi_wp2
        exact hK _ _ (KeepsFrom.refl _ _) (KeptO.refl _ _) hI ⟨rfl, hE⟩
      case body =>
        rintro l pre x a' W ⟨⟨v, a1, a2, a3⟩, i2, i3, cs, i4⟩ ⟨rfl, hE⟩ hlt2
        have b1 : Boxed W.drew w.heap.size 29 v := a1
        have b2 : W.drew.ownsRow (w.heap.size + 1) 9 1 v (ss0 ++ pre.map rwS).length ((ss0 ++ pre.map rwS).map Value.string) := a2
        have b3 := a3.drew
        have hrow := row_any _ x.addr x.A x.cap x.data (Nat.le_trans hE.2 (by omega)) W.drew (hE.1.blocks fun _ _ _ => rfl)
        have hpl : (ss0 ++ pre.map rwS).length ≤ 1099511627776 := by
          rw [List.length_append, List.length_map]
          omega
        have hsv : ∀ g, v.ownBlock = some g → g ≠ wr.heap.size + 1 := fun g hg e => by
          subst e
          rcases a2.2 with ⟨h1, _⟩ | ⟨g0, cap0, cur, h1, _, hgb, _⟩
          · rw [h1] at hg; simp [Value.ownBlock] at hg
          · rw [h1] at hg
            obtain rfl : g0 = wr.heap.size + 1 := by simpa [Value.ownBlock] using hg
            rw [hgb] at i4
            simp only [Option.some.injEq, Obj.cells.injEq] at i4
            exact absurd i4.2.1 (by decide)
        have FF := fun w2 hb2 => Lib.hid (SI.step (w0 := w1) (bl := w.heap.size) (nB := w.heap.size + 1) (Bs := wr.heap.size + 1) Z1.out (by omega) (by omega) hpl b1 b2 b3 hsv (w2 := w2) hb2 (rwS x) 29)
        have I2 := Lib.hid (And.intro i2 (And.intro i3 i4))
        have c1 := b1.cell
        obtain ⟨str, hstr⟩ : ∃ str, strOf (rowB x.addr x.data) = str := ⟨_, rfl⟩
        have HS := Lib.hid hstr
        rw [hstr] at hrow
        rw [show rwS x = str from hstr] at FF
        clear a1 a2 a3 i2 i3 i4 b1 b2 b3 hE hlt2 hpl hsv hstr hg I0 hssl
        gi_wp2_with fail
        refine Mixed.wpIn_region_mixed (fun w' => w'.cell? ⟨w.heap.size, 0, none⟩ = some v) 6 [(0, true), (1, true), (2, true), (3, false), (4, false), (5, false)] (by kernel_rfl) (fun ⟨_, _, h⟩ => h) (by kernel_rfl) (by kernel_rfl) c1 ?_
        refine Mixed.wpMix_pure rfl rfl v (fun w h => by go_simp; try rfl) ?_
        refine Mixed.wpMix_move rfl rfl _ rfl _ rfl ?_
        refine Mixed.wpMix_move rfl rfl _ rfl _ rfl ?_
        refine Mixed.wpMix_loud rfl ?_
        go_wp2_with fail
        refine hrow.mono ?_
        rintro e w2 ⟨rfl, hb2⟩
        obtain ⟨q, cap', w4, k1, k2, k3, k4, k5, k6⟩ := (FF w2 hb2).out
        have K1 := Lib.hid k1
        have K6 := Lib.hid (And.intro k4 (And.intro k5 k6))
        have t1 := k2.cell
        have t2 : (w2.alloc (.cells #[.string str] 9)).cell? ⟨w.heap.size, 0, none⟩ = some v := (k2.alloc _).cell
        have t3 := k3.cell
        have t4 := k3.frozen
        have T2 := Lib.hid t2
        have T3 := Lib.hid (And.intro t3 t4)
        clear k1 k2 k3 k4 k5 k6 hb2 FF hrow c1 t2 t3 t4
        go_wp2
        refine ⟨t1, ?_⟩
        refine Mixed.wpMix_loud rfl ?_
        go_wp2
        refine ⟨T2.out, ?_⟩
        refine Mixed.wpMix_loud rfl ?_
        refine wpList_run_append K1.out rfl _ _ rfl rfl rfl rfl ?_
        refine ⟨T3.out.1, ?_⟩
        simp only [Mixed.wpMix, List.drop_succ_cons, List.drop_zero]
        obtain ⟨t3, t4⟩ := T3.out
        go_wp2
        gi_wp2
        obtain ⟨q1, q2, q3⟩ := K6.out
        simp only [List.length_append, List.length_map] at q1 q2 q3
        obtain ⟨i2, i3, i4⟩ := I2.out
        have Q1 : ∀ B, KeepsFrom B W (w4.setCell ⟨w.heap.size, 0, none⟩ (.slice (some ⟨q, 0, none⟩) (ss0.length + pre.length + 1) cap')) := fun B => ⟨(q1 B).size, (q1 B).same⟩
        have Q2 : KeptO (QI (wr.heap.size + 1)) W (w4.setCell ⟨w.heap.size, 0, none⟩ (.slice (some ⟨q, 0, none⟩) (ss0.length + pre.length + 1) cap')) := ⟨q2.os, q2.tape, q2.output, q2.size, q2.block⟩
        refine ⟨Q1 _, Q2, ?_, i2.keptO (fun i o h => .inr h) Q2, fun D hD => (Q1 0).same D _ (Nat.zero_le _) (i3 D hD) rfl, cs, Q2.block _ _ i4 (.inl rfl)⟩
        rw [List.map_append, ← List.append_assoc]
        have e : rwS x = str := HS.out
        show SI _ _ _ (ss0 ++ pre.map rwS ++ [rwS x]) _
        rw [e]
        exact q3
      case done =>
        rintro D ys W hD hys ⟨s1, s2, s3, -⟩ hK
        have F1 : Hid (SI w1 w.heap.size (w.heap.size + 1) ((rowsC (Im.expand ((Im.runsW V).take (k + 1)))).map rowS) W) := by
          show SI _ _ _ _ _
          rw [HRT.out, List.map_append, SS.out, ← map_rwS hys]
          exact s1
        have F2 := Lib.hid s2
        have F3 : Hid ((D :: Ds).Nodup) := List.nodup_cons.2 ⟨fun h => by have := D1 D h; omega, ND.out⟩
        have F4 : Hid (∀ D' ∈ D :: Ds, w.heap.size + 1 ≤ D' ∧ W.heap[D']? = some (.deferred (some []))) := fun D' h => by
          rcases List.mem_cons.1 h with rfl | h
          · exact ⟨by omega, hK⟩
          · exact ⟨(DD.out D' h).1, s3 D' h⟩
        clear s1 s2 s3 hK hys hg I0 hssl D1
        go_wp2
        refine ⟨⟨k + 1, _, _, _, _, _, _, _, D :: Ds, by omega, rfl, F1.out, F2.out, F3.out, F4.out⟩, ?_⟩
        simp [intOf]
        omega
    · have hkN : k = (Im.runsW V).length := by
        have := Im.pairs_length PP.out
        omega
      have hS := S.out
      rw [hkN, List.take_length, Im.expand_runs] at hS
      obtain ⟨A, cap, hc, hX⟩ := SI.strs hS
      obtain ⟨v0, -, -, hkp⟩ := hS
      have hyl : ((rowsC V).map rowS).length ≤ 100000 := by
        have h1 := rows_length V
        have h2 := Im.sorted_length VS.out
        rw [List.length_map]
        omega
      have hj := join_any _ A cap ((rowsC V).map rowS) (by unfold maxLen; omega) (by
        rw [join_rows]
        have h1 := dump_length V
        have h2 := Im.sorted_length VS.out
        omega) wr hX
      rw [join_rows] at hj
      have q1 : Below w.heap.size w1 wr := hkp.below (fun i hi => ⟨by omega, by omega⟩) B1.out.size
      have hsz := q1.size
      have hz1 := Z1.out
      have F : ∀ W', Below wr.heap.size wr W' → Hid ((∀ D ∈ Ds, W'.heap[D]? = some (.deferred (some []))) ∧ Below w.heap.size w (shutD W' Ds)) := fun W' hb => by
        have hD2 : ∀ D ∈ Ds, W'.heap[D]? = some (.deferred (some [])) := fun D hD => (hb.block D (Array.getElem?_eq_some_iff.1 (DD.out D hD).2).1).trans (DD.out D hD).2
        have q2 : Below w.heap.size w W' := (B1.out.trans q1).trans (hb.mono (by omega))
        exact ⟨hD2, below_shut Ds W' q2 ND.out fun D hD => ⟨by have := (DD.out D hD).1; omega, hD2 D hD⟩⟩
      obtain ⟨n, hn⟩ : ∃ n, ((rowsC V).map rowS).length = n := ⟨_, rfl⟩
      rw [hn] at hj hc
      clear hX hkp hyl hn q1 hkN hsz hz1
      go_wp2_with fail
      refine hj.mono ?_
      rintro e W' ⟨rfl, hb⟩
      obtain ⟨f1, f2⟩ := (F W' hb).out
      have F1 := Lib.hid f1
      have F2 := Lib.hid f2
      clear hj hb F f1 f2
      go_wp2
      refine leaves_marks Ds W' ND.out F1.out ?_
      refine ⟨_, results_tmp rfl _ _ _, ?_⟩
      exact ⟨rfl, F2.out⟩
end Go.Proofs.YtnldpcnbhibinaaDoor
