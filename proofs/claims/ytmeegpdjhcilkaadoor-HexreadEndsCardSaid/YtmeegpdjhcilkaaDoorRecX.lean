/-
  The walk over record.Split.
-/
import Derived.Test.YtmeegpdjhcilkaaDoorRecAllC
import Derived.Test.YtmeegpdjhcilkaaDoorRecAllA
namespace Go.Proofs.YtmeegpdjhcilkaaDoor
open Go.RowKit Go.Shelf
set_option linter.unusedVariables false
attribute [local go_sem] Oper.semAt_some

/-- The call returns a row of records; their bytes lie in new blocks that may be written. -/
def RetSplW (w : World) (l : List (Int × List UInt8)) (en : Ending) (w' : World) : Prop := ∃ v rs n1, w.heap.size ≤ n1 ∧ en = .returned v ∧ OwnR 78 n1 (n1 ≤ ·) w' v rs ∧ (∀ r ∈ rs, Wr w' r.A r.data) ∧ pairs rs = l ∧ Below w.heap.size w w'
theorem retSplW_nil {w w' : World} {l : List (Int × List UInt8)} (hl : l = []) (hb : Below w.heap.size w w') : RetSplW w l (.returned (.slice none 0 0)) w' := ⟨_, [], w.heap.size, Nat.le_refl _, rfl, ownR_start _ _ _ _, fun r hr => absurd hr List.not_mem_nil, hl.symm ▸ rfl, hb⟩
theorem KeptP.putObj {P : Nat → Prop} (W : World) (l : Nat) (o : Obj) (h : ¬ P l) : KeptP P W (W.putObj l o) := (KeptP.refl P W).grown (grownBy_putObj' W l o) fun k e => by cases e; exact h
theorem chD_bytes {P : Nat → Prop} {w : World} {A : Option Addr} {xs : List UInt8} (h : BytesP P w A xs) (s x : Nat) : BytesP P w (subA A (x * s) (x * s + (chD xs s x).length)) (chD xs s x) := by
  by_cases h0 : (chD xs s x).length = 0
  · exact .inl (List.eq_nil_of_length_eq_zero h0)
  · have h1 := chD_length xs s x
    have e : subA A (x * s) (x * s + (chD xs s x).length) = subA A (x * s) xs.length := by
      unfold subA
      rw [if_neg (by omega), if_neg (by omega)]
    rw [e]
    exact (h.sub (x * s) xs.length (Nat.le_refl _)).take s
set_option maxHeartbeats 4000000 in
theorem split_any (P : Nat → Prop) (ad sz : Int) (A : Option Addr) (cap : Nat) (xs : List UInt8) (hl : xs.length ≤ maxLen) (hc : xs.length ≤ cap) (w : World) (hX : BytesP P w A xs) :
    Calls Tryd.prog 68 #[.int .i64 ad, .int .i64 sz, .slice A xs.length cap] w (RetSplW w (splW ad sz xs)) := by
  unfold maxLen at hl
  have X := Lib.hid (hX.mono (Q := fun i => i < w.heap.size) fun i hi hp => hi)
  clear hX
  by_cases h1 : 1 ≤ sz ∧ sz ≤ 255
  case neg =>
    have N : Hid (splW ad sz xs = []) := spOk_no (by omega)
    have f1 : fitsB 1 255 [sz] = false := by rw [fitsOne]; exact decide_eq_false h1
    clear h1
    go_enter Tryd.func68, Tryd.ntmps68
    go_wp2_with fail
    refine (fits_any 1 255 _ _ [sz] (by simp [maxLen]) _ (ints_one' _ _ (by simp) _ _)).mono ?_
    rintro e w' ⟨rfl, rfl⟩
    go_wp2
    go_ret
    exact retSplW_nil N.out (((Below.refl _ _).alloc (Nat.le_refl _) _).alloc (by simp) _)
  have f1 : fitsB 1 255 [sz] = true := by rw [fitsOne]; exact decide_eq_true h1
  by_cases h2 : 0 ≤ ad ∧ ad ≤ 65535
  case neg =>
    have N : Hid (splW ad sz xs = []) := spOk_no (by omega)
    have f2 : fitsB 0 65535 [ad] = false := by rw [fitsOne]; exact decide_eq_false h2
    clear h1 h2
    go_enter Tryd.func68, Tryd.ntmps68
    go_wp2_with fail
    refine (fits_any 1 255 _ _ [sz] (by simp [maxLen]) _ (ints_one' _ _ (by simp) _ _)).mono ?_
    rintro e w' ⟨rfl, rfl⟩
    go_wp2_with fail
    refine (fits_any 0 65535 _ _ [ad] (by simp [maxLen]) _ (ints_one' _ _ (by simp) _ _)).mono ?_
    rintro e w' ⟨rfl, rfl⟩
    go_wp2
    go_ret
    exact retSplW_nil N.out ((((Below.refl _ _).alloc (Nat.le_refl _) _).alloc (by simp) _).alloc (by simp; omega) _)
  have f2 : fitsB 0 65535 [ad] = true := by rw [fitsOne]; exact decide_eq_true h2
  by_cases h5 : (xs.length : Int) ≤ 65536 - ad
  case neg =>
    have N : Hid (splW ad sz xs = []) := spOk_no (by omega)
    obtain ⟨g1, g2⟩ := h2
    have h5' : 65536 - ad < (xs.length : Int) := by omega
    clear h1 h5
    go_enter Tryd.func68, Tryd.ntmps68
    go_wp2_with fail
    refine (fits_any 1 255 _ _ [sz] (by simp [maxLen]) _ (ints_one' _ _ (by simp) _ _)).mono ?_
    rintro e w' ⟨rfl, rfl⟩
    go_wp2_with fail
    refine (fits_any 0 65535 _ _ [ad] (by simp [maxLen]) _ (ints_one' _ _ (by simp) _ _)).mono ?_
    rintro e w' ⟨rfl, rfl⟩
    go_wp2
    go_ret
    exact retSplW_nil N.out ((((Below.refl _ _).alloc (Nat.le_refl _) _).alloc (by simp) _).alloc (by simp; omega) _)
  obtain ⟨g1, g2⟩ := h2
  have h5' : decide (65536 - ad < (xs.length : Int)) = false := decide_eq_false (by omega)
  obtain ⟨s, rfl⟩ : ∃ s : Nat, sz = (s : Int) := ⟨sz.toNat, by omega⟩
  have s1 : 1 ≤ s := by omega
  have s2 : s ≤ 255 := by omega
  have N : Hid (splW ad (s : Int) xs = spl ad xs s (cnt xs.length s)) := spOk_yes s1 s2 g1 g2 h5
  have hlen : xs.length ≤ 65536 := by omega
  have S1 := Lib.hid s1
  have S2 := Lib.hid s2
  clear h1 hl
  refine callsIn_wide.1 (callsIn_of_wp_marks (n := 3) Tryd.func68 rfl trivial ?_ rfl)
  simp only [Tryd.ntmps68, List.size_toArray, List.length_cons, List.length_nil, Nat.reduceAdd, Nat.reduceSub, Array.replicate_succ, Array.replicate_zero, List.push_toArray, List.append_toArray, List.nil_append, List.cons_append]
  refine wpIn_wide.2 ?_
  go_wp2_with fail
  refine (fits_any 1 255 _ _ [(s : Int)] (by simp [maxLen]) _ (ints_one' _ _ (by simp) _ _)).mono ?_
  rintro e w' ⟨rfl, rfl⟩
  go_wp2_with fail
  refine (fits_any 0 65535 _ _ [ad] (by simp [maxLen]) _ (ints_one' _ _ (by simp) _ _)).mono ?_
  rintro e w' ⟨rfl, rfl⟩
  go_wp2_with fail
  obtain ⟨wd, hwd⟩ : ∃ wd, (((w.alloc (.cells #[.int .i64 ad] 3)).alloc (.cells #[.int .i64 (s : Int)] 3)).alloc (.cells #[.int .i64 ad] 3)).alloc (.cells #[.slice none 0 0] 121) = wd := ⟨_, rfl⟩
  have hdz : wd.heap.size = w.heap.size + 1 + 1 + 1 + 1 := by rw [← hwd]; simp
  have hdB : Below w.heap.size w wd := by rw [← hwd]; exact ((((Below.refl _ _).alloc (Nat.le_refl _) _).alloc (by simp) _).alloc (by simp; omega) _).alloc (by simp; omega) _
  have hda : Boxed wd w.heap.size 3 (.int .i64 ad) := by rw [← hwd]; exact (((Boxed.new w 3 (.int .i64 ad)).alloc _).alloc _).alloc _
  have hdl : Boxed wd (w.heap.size + 1 + 1 + 1) 121 (.slice none 0 0) := by
    have h := Boxed.new (((w.alloc (.cells #[.int .i64 ad] 3)).alloc (.cells #[.int .i64 (s : Int)] 3)).alloc (.cells #[.int .i64 ad] 3)) 121 (.slice none 0 0)
    rw [hwd] at h
    simpa using h
  rw [hwd]
  clear hwd
  refine (chunk_any A xs.length cap (s : Int) (by omega) wd (w.heap.size + 1 + 1 + 1 + 1) hdz).mono ?_
  rintro e W0 ⟨rfl, hW0⟩
  have bs := Boxed.new wd 59 (.slice A xs.length cap)
  have bn := Boxed.new (wd.alloc (.cells #[.slice A xs.length cap] 59)) 3 (.int .i64 (s : Int))
  have bs1 := bs.alloc (.cells #[.int .i64 (s : Int)] 3)
  have hda1 := (hda.alloc (.cells #[.slice A xs.length cap] 59)).alloc (.cells #[.int .i64 (s : Int)] 3)
  have hdl1 := (hdl.alloc (.cells #[.slice A xs.length cap] 59)).alloc (.cells #[.int .i64 (s : Int)] 3)
  have hB1 : Below w.heap.size w ((wd.alloc (.cells #[.slice A xs.length cap] 59)).alloc (.cells #[.int .i64 (s : Int)] 3)) := (hdB.alloc hdB.size _).alloc (by simp; omega) _
  have hz1 : W0.heap.size = w.heap.size + 1 + 1 + 1 + 1 + 1 + 1 := by rw [← hW0]; simp; omega
  rw [hW0] at bs1 bn hda1 hdl1 hB1
  rw [hdz] at bs1
  rw [show (wd.alloc (.cells #[.slice A xs.length cap] 59)).heap.size = w.heap.size + 1 + 1 + 1 + 1 + 1 by simp; omega] at bn
  clear hW0 bs hda hdl hdB hdz f1 f2 h5'
  go_wp2_with fail
  refine wpIn_wide.1 (wpIn_rangeFunc_ownG (F := Fence.wide) (n := 3) rfl (by omega) (gf := 119) (lb := #[.pointer (some ⟨w.heap.size + 1 + 1 + 1 + 1, 0, none⟩), .pointer (some ⟨w.heap.size + 1 + 1 + 1 + 1 + 1, 0, none⟩)]) rfl trivial (enters_of Tryd.func119 (by kernel_rfl) rfl)
    (chunk1_stops 2 (fun i => i < w.heap.size + 1 + 1 + 1 + 1 + 1 + 1 ∧ i ≠ w.heap.size ∧ i ≠ w.heap.size + 1 + 1 + 1) (w.heap.size + 1 + 1 + 1 + 1) (w.heap.size + 1 + 1 + 1 + 1 + 1) (by omega) (by omega) A cap xs s s1 s2 hlen hc W0 bs1.lt bn.lt bs1.cell bn.cell)
    (fun h k => h.trans k) (fun W l o o' hl _ _ _ => KeptP.putObj W l o' (by omega)) (Below.refl _ _) (fun _ => rfl)
    (SInv W0 w.heap.size (w.heap.size + 1 + 1 + 1) (w.heap.size + 1 + 1 + 1 + 1 + 1 + 1) ad xs s) (fun _ _ _ => False) (by rw [hz1]; exact SInv.own (by omega) (by omega)) (fun _ _ _ _ _ hs _ _ => hs) ?start
    (fun x => { tmps := #[.int .i64 ad, .int .i64 (s : Int), .slice A xs.length cap, .pointer (some ⟨w.heap.size, 0, none⟩), undef, undef, .slice none 0 0, .pointer (some ⟨w.heap.size + 1 + 1 + 1, 0, none⟩), chV A xs s x, .int .i64 (s : Int), .slice (some ⟨w.heap.size + 1, 0, none⟩) 1 1, .bool true, .bool false, .bool false, .int .i64 ad, .slice (some ⟨w.heap.size + 1 + 1, 0, none⟩) 1 1, .bool true, .bool false, .bool false, .bool false, .slice A xs.length cap, .int .i64 (xs.length : Int), .int .i64 ad, .int .i64 (65536 - ad), .bool false, .bool false, .slice A xs.length cap, .int .i64 (s : Int), .func (.func 119) #[] #[.pointer (some ⟨w.heap.size + 1 + 1 + 1 + 1, 0, none⟩), .pointer (some ⟨w.heap.size + 1 + 1 + 1 + 1 + 1, 0, none⟩)], chV A xs s x, undef, undef, undef, undef, undef, undef, undef, undef, undef, undef, undef, undef], defers := [] }) ?assign ?body ?done ?stop)
  case start => exact ⟨_, [], hdl1, by simpa [sumL] using hda1, ownR_start _ _ _ _, fun r hr => absurd hr List.not_mem_nil, rfl, KeptP.refl _ _⟩
  case assign =>
    intro l x W K hK
    gi_wp2
    exact hK
  case stop =>
    rintro D c pre W _ _ h _
    exact h.elim
  case done =>
    rintro D ys W hD rfl ⟨v, rs, a1, a2, a3, a4, a5, a6⟩ hK
    have hc1 := a1.cell
    have F : Hid (RetSplW w (splW ad (s : Int) xs) (.returned v) (W.putObj D (.deferred none))) := by
      refine ⟨v, rs, w.heap.size + 1 + 1 + 1 + 1 + 1 + 1, by omega, rfl, a3.turn (grownBy_putObj' W D _) (fun r e => by cases e; exact ⟨_, hK, rfl⟩), fun r hr => (a4 r hr).turn (grownBy_putObj' W D _) (fun r e => by cases e; exact ⟨_, hK, rfl⟩), ?_, ?_⟩
      · rw [a5, acc_range ad xs s _ s1 (Nat.le_refl _), N.out]
      · have q1 : Below w.heap.size W0 W := a6.below (fun i hi => by omega) hB1.size
        exact (hB1.trans q1).trans (belowK_b (w := w) (Nat.le_refl _) W D _ _ (by omega) hK rfl rfl)
    clear a1 a2 a3 a4 a5 a6 bn bs1 hda1 hdl1 hB1
    go_wp2
    refine ⟨by simp, .inl ⟨_, _, rfl, run_takeDeferred hK, ?_⟩⟩
    refine ⟨_, results_tmp rfl _ _ _, ?_⟩
    exact F.out
  case body =>
    rintro l pre x W hI hlt
    obtain ⟨v, rs, a1, a2, a3, a4, a5, a6⟩ := hI.drew
    have hpl : pre.length ≤ 65536 := by have := cnt_le xs.length s s1; omega
    have hsu := sumL_le xs s s2 pre
    obtain ⟨n, hn⟩ : ∃ n, (chD xs s x).length = n := ⟨_, rfl⟩
    obtain ⟨a, ha⟩ : ∃ a : Int, ad + (sumL xs s pre : Int) = a := ⟨_, rfl⟩
    have hn1 : n ≤ 255 := by rw [← hn, chD_length]; omega
    have ha0 : 0 ≤ a := by omega
    have ha1 : a ≤ 20000000 := by omega
    have hXW : BytesP (fun i => i < w.heap.size) W.drew A xs := by
      have q1 : KeptP (fun i => i < w.heap.size) w W.drew := (KeptP.of_below hB1 fun i _ hi => hi).trans (a6.mono fun i _ hi => ⟨by omega, by omega, by omega⟩)
      exact X.out.kept q1 fun i _ hi => hi
    have hXD := chD_bytes hXW s x
    rw [hn] at hXD
    have hv : chV A xs s x = .slice (subA A (x * s) (x * s + n)) n n := by unfold chV; rw [hn]
    obtain ⟨A', hA'⟩ : ∃ A', subA A (x * s) (x * s + n) = A' := ⟨_, rfl⟩
    rw [hA'] at hXD hv
    have cl := cloneO_any _ A' n (chD xs s x) (by omega) W.drew hXD
    rw [hn] at cl
    rw [ha] at a2
    have c1 := a1.cell
    have c2 := a2.cell
    have HN := Lib.hid hn
    have HA := Lib.hid ha
    have A1 := Lib.hid a1
    have A2 := Lib.hid a2
    have A3 := Lib.hid a3
    have A4 := Lib.hid a4
    have A5 := Lib.hid a5
    have A6 := Lib.hid a6
    have HP := Lib.hid hpl
    rw [hv]
    clear hXW hXD hv hA' hsu hI a1 a2 a3 a4 a5 a6 hn ha hlt hpl X
    gi_wp2_with fail
    refine Mixed.wpIn_region_mixed (fun w' => w'.cell? ⟨w.heap.size + 1 + 1 + 1, 0, none⟩ = some v ∧ w'.cell? ⟨w.heap.size, 0, none⟩ = some (.int .i64 a)) 7 [(0, true), (1, true), (2, true), (3, false), (4, true), (5, false), (6, false)] (by kernel_rfl) (fun ⟨_, _, h⟩ => h) (by kernel_rfl) (by kernel_rfl) ⟨c1, c2⟩ ?_
    refine Mixed.wpMix_pure rfl rfl v (fun w h => by obtain ⟨p1, p2⟩ := h; go_simp; try rfl) ?_
    refine Mixed.wpMix_pure rfl rfl (.int .i64 a) (fun w h => by obtain ⟨p1, p2⟩ := h; go_simp; try rfl) ?_
    refine Mixed.wpMix_move rfl rfl _ rfl _ rfl ?_
    refine Mixed.wpMix_loud rfl ?_
    go_wp2_with fail
    refine cl.mono ?_
    rintro e w2 ⟨v1, rfl, hO⟩
    obtain ⟨A1', cap1, hv1, -⟩ := own_bytes hO.1 rfl
    rw [HN.out] at hv1
    subst hv1
    obtain ⟨g, cap', w4, k1, ⟨b1, b2⟩, ⟨b3, b4⟩, KF, KQ, SI⟩ := SInv.step hz1 (by omega) (by omega) (by omega) HP.out HA.out A1.out A2.out A3.out A4.out A5.out A6.out x HN.out hO 121
    have t1 := b1.cell
    have t2 := b2.cell
    have t3 := (b1.alloc (.cells #[.int .i64 0, .int .i64 a, .slice A1' n cap1] 78)).cell
    have t4 := (b2.alloc (.cells #[.int .i64 0, .int .i64 a, .slice A1' n cap1] 78)).cell
    have t5 := b3.cell
    have t6 := b3.frozen
    have t7 := b4.cell
    have t8 := b4.frozen
    have K1 := Lib.hid k1
    have T34 := Lib.hid (And.intro t3 t4)
    have T57 := Lib.hid (And.intro t5 t7)
    have T68 := Lib.hid (And.intro t6 t8)
    have FIN := Lib.hid (And.intro KF (And.intro KQ SI))
    clear k1 t3 t4 t5 t6 t7 t8 KF KQ SI b1 b2 b3 b4 hO cl
    go_wp2
    refine ⟨⟨t1, t2⟩, ?_⟩
    refine Mixed.wpMix_pure rfl rfl (.agg #[.int .i64 0, .int .i64 a, .slice A1' n cap1]) (fun w h => by clear h; go_simp; try rfl) ?_
    refine Mixed.wpMix_loud rfl ?_
    go_wp2
    refine ⟨T34.out, ?_⟩
    refine Mixed.wpMix_loud rfl ?_
    refine wpList_run_append K1.out rfl _ _ rfl rfl rfl rfl ?_
    refine ⟨T57.out, ?_⟩
    simp only [Mixed.wpMix, List.drop_succ_cons, List.drop_zero]
    obtain ⟨t5, t7⟩ := T57.out
    obtain ⟨t6, t8⟩ := T68.out
    go_wp2
    gi_wp2
    obtain ⟨q1, q2, q3⟩ := FIN.out
    rw [hz1]
    exact ⟨⟨q1.size, q1.same⟩, ⟨q2.os, q2.tape, q2.output, q2.size, q2.block⟩, q3⟩
end Go.Proofs.YtmeegpdjhcilkaaDoor
