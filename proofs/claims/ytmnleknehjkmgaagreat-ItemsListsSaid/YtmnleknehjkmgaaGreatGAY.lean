/-
  ItI, ItJ, ItK, ItM.
-/
import Derived.Test.YtmnleknehjkmgaaGreatGAW
import Derived.Test.YtmnleknehjkmgaaGreatGAB
set_option linter.all false
set_option maxRecDepth 100000
set_option maxHeartbeats 4000000
namespace Go.Proofs.YtmnleknehjkmgaaGreat
open Go.RowKit Go.Shelf
attribute [local go_sem] Oper.semAt_some
def Kt (q cb : Nat) (W W' : World) : Prop := Kq q cb W W' ∧ ∀ (k : Nat) (cur : Array Value) (fz : Nat × Nat), W.heap[k]? = some (Obj.cells cur 34 fz) → W'.heap[k]? = some (Obj.cells cur 34 fz)
theorem Kt.refl (q cb : Nat) (W : World) : Kt q cb W W := ⟨Kq.refl _ _ _, fun _ _ _ h => h⟩
theorem Kt.trans {q cb : Nat} {A B C : World} (h : Kt q cb A B) (k : Kt q cb B C) : Kt q cb A C := ⟨h.1.trans k.1, fun x c f h1 => k.2 x c f (h.2 x c f h1)⟩
theorem Kt.of_below {q cb : Nat} {W W' : World} (hb : Below W.heap.size W W') : Kt q cb W W' := ⟨Kq.of_below hb, fun k _ _ h => (hb.block k (Array.getElem?_eq_some_iff.1 h).1).trans h⟩
theorem Kt.put (q cb : Nat) (W : World) (l : Nat) (o o' : Obj) (hl : W.heap[l]? = some o) (ho : o.isCells = false) : Kt q cb W (W.putObj l o') := by
  refine ⟨Kq.put q cb W l o o' hl ho, fun k c f hx => ?_⟩
  have hne : k ≠ l := by
    rintro rfl
    rw [hl] at hx
    obtain rfl := Option.some.inj hx
    cases ho
  exact (World.putObj_heap_other hne).trans hx
theorem BytesAt.tr {w w' : World} {A : Option Addr} {xs : Str} (h : BytesAt w A xs) (f : ∀ a v, w.cell? a = some v → w'.cell? a = some v) : BytesAt w' A xs := by
  rcases h with rfl | ⟨b, off, rfl, hc⟩
  · exact .inl rfl
  · exact .inr ⟨b, off, rfl, fun j hj => f _ _ (hc j hj)⟩
theorem OpsP.tr {w w' : World} {A : Option Addr} {L : List Tr} (h : OpsP w A L) (f : ∀ a v, w.cell? a = some v → w'.cell? a = some v) : OpsP w' A L := by
  rcases h with rfl | ⟨b, off, rfl, hc⟩
  · exact .inl rfl
  · exact .inr ⟨b, off, rfl, fun j hj => ⟨f _ _ (hc j hj).1, f _ _ (hc j hj).2.1, f _ _ (hc j hj).2.2⟩⟩
theorem ItJ.tr {w w' : World} {A : Option Addr} {r : Xe} {j : Nat} (h : ItJ w A r j) (f : ∀ a v, w.cell? a = some v → w'.cell? a = some v) : ItJ w' A r j := by
  obtain ⟨b, off, e, h0, h1, h2, h3, h4, h5, h6⟩ := h
  exact ⟨b, off, e, f _ _ h0, f _ _ h1, f _ _ h2, f _ _ h3, f _ _ h4, h5.tr f, h6.tr f⟩
theorem cell_kq {w0 W W' : World} {q cb : Nat} (hb : Below w0.heap.size w0 W) (hk : Kq q cb W W') (h1 : w0.heap.size ≤ q + 1) (h2 : w0.heap.size ≤ cb) : ∀ a v, w0.cell? a = some v → W'.cell? a = some v := fun a v h => by
  have hlt := World.block_lt_of_cell? w0 _ h
  exact hk.cell ((hb.cell hlt).trans h) (by omega) (by omega)
def nth (R : List Xe) (i : Nat) : Xe := R.getD i default
theorem nth_at {R : List Xe} {i : Nat} (h : i < R.length) : nth R i = R[i] := by
  unfold nth
  simp [List.getD, List.getElem?_eq_getElem h]
theorem placed_tells (n Bs cb : Nat) (R : List Xe) (A : Option Addr) (lr cr : Nat) (hr : R.length = lr) (hlr : lr ≤ 90000) (hsum : (rawI (R.map Xe.x)).length ≤ 90000) (w0 w : World) (H : ItsP w0 A R) (hb0 : Below w0.heap.size w0 w) (hcb : w0.heap.size ≤ cb) (hs : Boxed w Bs 24 (.slice A lr cr)) (hw0 : 0 < w.heap.size) :
    Stops.TellsW Fence.wide n Tryz.prog 51 #[.pointer (some ⟨Bs, 0, none⟩)] (fun i : Nat => #[.int .i64 (offI (R.map Xe.x) i : Nat), (nth R i).v]) (fun pre i W => pre = List.range i ∧ i < lr) (Kt (w.heap.size - 1) cb) (fun ys => ys = List.range lr) w := fun lp J Jx W hW hJ hY hJx h0 => by
  have hJd : ∀ (z : List Nat) (X Y : World), J z X → Below X.heap.size X Y → J z Y := fun z X Y h hb => hJ z X Y none h (grow_below hb none) (fun r e => by cases e)
  have hs1 : Boxed W Bs 24 (.slice A lr cr) := (hW.block Bs hs.lt).trans hs
  have k0 := hs1.cell
  have RJ : Hid (∀ j, j < lr → ∀ W', Kt (w.heap.size - 1) cb W W' → ItJ W' A (nth R j) j ∧ offI (R.map Xe.x) (j + 1) = offI (R.map Xe.x) j + (nth R j).x.raw.length ∧ offI (R.map Xe.x) j + (nth R j).x.raw.length ≤ 90000) := fun j hj W' hk => by
    have hj' : j < R.length := by omega
    rw [nth_at hj']
    have e := off_succ (R.map Xe.x) (k := j) (by rw [List.length_map]; exact hj')
    have e2 : (R.map Xe.x)[j]'(by rw [List.length_map]; exact hj') = R[j].x := by simp
    rw [e2] at e
    have h3 := off_mono (R.map Xe.x) (j + 1)
    exact ⟨(H.j hj').tr (cell_kq (q := w.heap.size - 1) (hb0.trans (hW.mono hb0.size)) hk.1 (by have := hb0.size; omega) hcb), e, by omega⟩
  obtain ⟨Kp, hKp⟩ : ∃ z, Kt (w.heap.size - 1) cb = z := ⟨_, rfl⟩
  have KPr : Hid (∀ X, Kp X X) := by rw [← hKp]; exact fun X => Kt.refl _ _ _
  have KPt : Hid (∀ A B C, Kp A B → Kp B C → Kp A C) := by rw [← hKp]; exact fun A B C h k => h.trans k
  have KPb : Hid (∀ X Y, Below X.heap.size X Y → Kp X Y) := by rw [← hKp]; exact fun X Y h => Kt.of_below h
  have KPi : Hid (∀ X Y, Kp X Y → ∀ k kd va s vb al, ItAt X k kd va s vb al → ItAt Y k kd va s vb al) := by rw [← hKp]; exact fun X Y h k kd va s vb al hi => h.2 k _ _ hi
  rw [hKp] at RJ hY
  obtain ⟨L, hL⟩ : ∃ z, R.map Xe.x = z := ⟨_, rfl⟩
  rw [hL] at RJ hY
  have J0 := Lib.hid h0
  have HY := Lib.hid hY
  have HJd := Lib.hid hJd
  clear hJd h0 hY hJ hJx hs hs1 H hb0 hcb hW hr hsum hKp hL hw0
  refine callsIn_wide.2 ?_
  show Calls Tryz.prog 51 #[.func (.yield lp) #[] #[], .pointer (some ⟨Bs, 0, none⟩)] W _
  go_enter Tryz.func51, Tryz.ntmps51
  go_wp2
  go_loopw [3, 8] (fun vo vi wr => ∃ j : Nat, j ≤ lr ∧ vi = .int .i64 j ∧ vo = .int .i64 (offI L j : Nat) ∧ Hid (J (List.range j) wr) ∧ Hid (Kp W wr)) (fun _ vi _ => lr - (intOf vi).toNat)
  case atStart => exact ⟨0, Nat.zero_le _, rfl, rfl, J0.out, KPr.out W⟩
  case round =>
    clear J0 k0
    obtain ⟨j, hj, rfl, rfl, JJ, KK⟩ := hrel
    by_cases hlt : j < lr
    · obtain ⟨⟨b1, o1, rfl, h0, h1, h2, h3, h4, -, -⟩, e1, e2⟩ := RJ.out j hlt wr KK.out
      have hyv := Lib.hid (fun W1 hJ1 => HY.out (List.range j) j W1 hJ1 ⟨rfl, hlt⟩)
      have hrg : List.range j ++ [j] = List.range (j + 1) := List.range_succ.symm
      rw [hrg] at hyv
      obtain ⟨r, hr⟩ : ∃ z, nth R j = z := ⟨_, rfl⟩
      rw [hr] at h0 h1 h2 h3 h4 hyv e1 e2
      have E1 := Lib.hid e1
      obtain ⟨y, w2, hy, hw2, S2, y2, z2⟩ := Fr.box (Fr.nil wr) #[.int .i64 r.x.kind, .slice r.A r.x.raw.length r.ca, .string (sB r.x.m), .slice r.B r.x.C.length r.cb, .bool r.x.al] 34
      have I2 : ItAt w2 y r.x.kind (.slice r.A r.x.raw.length r.ca) (sB r.x.m) (.slice r.B r.x.C.length r.cb) r.x.al := S2.out.1
      obtain ⟨j0, j1, j2, j3, j4, j5⟩ := I2.cells
      have J2 : Hid (J (List.range j) w2) := HJd.out _ _ _ JJ.out y2
      have K2 : Hid (Kp W w2) := KPt.out _ _ _ KK.out (KPb.out _ _ y2)
      have I2 := Lib.hid I2
      obtain ⟨fn, tmps, assign, body, hy', hR⟩ := hyv.out w2 J2.out
      obtain ⟨oj, hoj⟩ : ∃ z, offI L j = z := ⟨_, rfl⟩
      rw [hoj] at hy' E1 e2 ⊢
      simp only [Xe.v] at hy'
      clear S2 y2 hr hrg e1 JJ KK hyv hoj
      refine (wpIn_wide (n := n)).1 ?_
      gi_wp2
      refine ⟨fun h => (by cases h), hR.mono ?_⟩
      rintro e3 W5 (⟨rfl, hJ5, hk5⟩ | ⟨rfl, hJx5⟩)
      · have K5 : Hid (Kp W W5) := KPt.out _ _ _ K2.out hk5
        have J5 := Lib.hid hJ5
        have I5 := KPi.out _ _ hk5 _ _ _ _ _ _ I2.out
        obtain ⟨m0, m1, m2, m3, m4, m5⟩ := I5.cells
        clear hJ5 hk5 hR hy' I5 I2 J2 K2 j0 j1 j2 j3 j4 j5 h0 h1 h2 h3 h4
        gi_wp2
        go_roundw
        case rel => exact ⟨j + 1, by omega, by go_num, by rw [E1.out]; go_num, J5.out, K5.out⟩
        case measure => simp [intOf]; omega
      · clear hR hy'
        gi_wp2
        go_wp2
        refine bodyPost_ret (results_none rfl _ _ _) rfl ?_
        exact ⟨⟨_, rfl⟩, .inr ⟨_, hJx5⟩⟩
    · obtain rfl : lr = j := by omega
      clear RJ HY
      go_wp2
      go_end0
      exact ⟨⟨_, rfl⟩, .inl ⟨_, rfl, JJ.out⟩⟩
end Go.Proofs.YtmnleknehjkmgaaGreat
namespace Go.Proofs.YtmnleknehjkmgaaGreat
open Go.RowKit Go.Shelf
attribute [local go_sem] Oper.semAt_some
def kindP (R : List Xe) (kd : Int) (i : Nat) : Bool := decide ((nth R i).x.kind = kd)
theorem filt_succ (p : Nat → Bool) (j : Nat) : (List.range (j + 1)).filter p = (List.range j).filter p ++ (if p j = true then [j] else []) := by
  rw [List.range_succ, List.filter_append]
  congr 1
  by_cases h : p j = true
  · rw [if_pos h]; simp [h]
  · rw [if_neg h]; simp [h]
theorem ofKind_tells (n Bs Bk cb : Nat) (kd : Int) (R : List Xe) (A : Option Addr) (lr cr : Nat) (hr : R.length = lr) (hlr : lr ≤ 90000) (w0 w : World) (H : ItsP w0 A R) (hb0 : Below w0.heap.size w0 w) (hcb : w0.heap.size ≤ cb) (hs : Boxed w Bs 24 (.slice A lr cr)) (hk : Boxed w Bk 3 (.int .i64 kd)) (hkc : Bk ≠ cb) :
    Stops.TellsW Fence.wide n Tryz.prog 52 #[.pointer (some ⟨Bs, 0, none⟩), .pointer (some ⟨Bk, 0, none⟩)] (fun i : Nat => #[(nth R i).v]) (fun pre i W => pre = (List.range i).filter (kindP R kd) ∧ i < lr ∧ (nth R i).x.kind = kd ∧ OpsP W (nth R i).B (nth R i).x.C) (Kq (w.heap.size - 1) cb) (fun ys => ys = (List.range lr).filter (kindP R kd)) w := fun lp J Jx W hW hJ hY hJx h0 => by
  have hJd : ∀ (z : List Nat) (X Y : World), J z X → Below X.heap.size X Y → J z Y := fun z X Y h hb => hJ z X Y none h (grow_below hb none) (fun r e => by cases e)
  have hs1 : Boxed W Bs 24 (.slice A lr cr) := (hW.block Bs hs.lt).trans hs
  have k0 := hs1.cell
  have RJ : Hid (∀ j, j < lr → ∀ W', Kq (w.heap.size - 1) cb W W' → ItJ W' A (nth R j) j ∧ W'.cell? ⟨Bk, 0, none⟩ = some (.int .i64 kd)) := fun j hj W' hk' => by
    have hj' : j < R.length := by omega
    rw [nth_at hj']
    have hlt := hk.lt
    have hk1 : Boxed W Bk 3 (.int .i64 kd) := (hW.block Bk hlt).trans hk
    have hk2 : Boxed W' Bk 3 (.int .i64 kd) := hk'.2 Bk _ (by omega) hkc hk1 rfl
    exact ⟨(H.j hj').tr (cell_kq (q := w.heap.size - 1) (hb0.trans (hW.mono hb0.size)) hk' (by have := hb0.size; omega) hcb), hk2.cell⟩
  obtain ⟨Kp, hKp⟩ : ∃ z, Kq (w.heap.size - 1) cb = z := ⟨_, rfl⟩
  have KPr : Hid (∀ X, Kp X X) := by rw [← hKp]; exact fun X => Kq.refl _ _ _
  have KPt : Hid (∀ A B C, Kp A B → Kp B C → Kp A C) := by rw [← hKp]; exact fun A B C h k => h.trans k
  have KPb : Hid (∀ X Y, Below X.heap.size X Y → Kp X Y) := by rw [← hKp]; exact fun X Y h => Kq.of_below h
  rw [hKp] at RJ hY
  have J0 := Lib.hid h0
  have HY := Lib.hid hY
  have HJd := Lib.hid hJd
  clear hJd h0 hY hJ hJx hs hs1 H hb0 hcb hW hr hKp hk hkc
  refine callsIn_wide.2 ?_
  show Calls Tryz.prog 52 #[.func (.yield lp) #[] #[], .pointer (some ⟨Bs, 0, none⟩), .pointer (some ⟨Bk, 0, none⟩)] W _
  go_enter Tryz.func52, Tryz.ntmps52
  go_wp2
  go_loopw [8] (fun vi wr => ∃ j : Nat, j ≤ lr ∧ vi = .int .i64 j ∧ Hid (J ((List.range j).filter (kindP R kd)) wr) ∧ Hid (Kp W wr)) (fun vi _ => lr - (intOf vi).toNat)
  case atStart => exact ⟨0, Nat.zero_le _, rfl, J0.out, KPr.out W⟩
  case round =>
    clear J0 k0
    obtain ⟨j, hj, rfl, JJ, KK⟩ := hrel
    by_cases hlt : j < lr
    · obtain ⟨⟨b1, o1, rfl, h0, h1, h2, h3, h4, -, hop⟩, hkb⟩ := RJ.out j hlt wr KK.out
      have hyv := Lib.hid (fun W1 hJ1 hkk ho => HY.out ((List.range j).filter (kindP R kd)) j W1 hJ1 ⟨rfl, hlt, hkk, ho⟩)
      have FS := filt_succ (kindP R kd) j
      have HKP : kindP R kd j = decide ((nth R j).x.kind = kd) := rfl
      obtain ⟨r, hr⟩ : ∃ z, nth R j = z := ⟨_, rfl⟩
      rw [hr] at h0 h1 h2 h3 h4 hyv hop HKP
      rw [HKP] at FS
      obtain ⟨y, w2, hy, hw2, S2, y2, z2⟩ := Fr.box (Fr.nil wr) #[.int .i64 r.x.kind, .slice r.A r.x.raw.length r.ca, .string (sB r.x.m), .slice r.B r.x.C.length r.cb, .bool r.x.al] 34
      have I2 : ItAt w2 y r.x.kind (.slice r.A r.x.raw.length r.ca) (sB r.x.m) (.slice r.B r.x.C.length r.cb) r.x.al := S2.out.1
      obtain ⟨j0, j1, j2, j3, j4, j5⟩ := I2.cells
      have J2 : Hid (J ((List.range j).filter (kindP R kd)) w2) := HJd.out _ _ _ JJ.out y2
      have K2 : Hid (Kp W w2) := KPt.out _ _ _ KK.out (KPb.out _ _ y2)
      have O2 := Lib.hid (hop.below y2)
      have hkb2 : w2.cell? ⟨Bk, 0, none⟩ = some (.int .i64 kd) := (RJ.out j hlt w2 K2.out).2
      clear S2 y2 hr I2 hop HKP
      by_cases hkk : r.x.kind = kd
      · have tt : (r.x.kind == kd) = true := beq_iff_eq.2 hkk
        rw [decide_eq_true hkk, if_pos rfl] at FS
        have FS := Lib.hid FS
        obtain ⟨fn, tmps, assign, body, hy', hR⟩ := hyv.out w2 J2.out hkk O2.out
        simp only [Xe.v] at hy'
        obtain ⟨kx, hkx⟩ : ∃ z, r.x.kind = z := ⟨_, rfl⟩
        rw [hkx] at h0 j0 tt hw2 hy'
        clear hkk hyv JJ KK hkx
        refine (wpIn_wide (n := n)).1 ?_
        gi_wp2
        refine ⟨fun h => (by cases h), hR.mono ?_⟩
        rintro e3 W5 (⟨rfl, hJ5, hk5⟩ | ⟨rfl, hJx5⟩)
        · have K5 : Hid (Kp W W5) := KPt.out _ _ _ K2.out hk5
          have J5 : Hid (J ((List.range (j + 1)).filter (kindP R kd)) W5) := by show J _ _; rw [FS.out]; exact hJ5
          clear hJ5 hk5 hR hy' J2 K2 O2 j0 j1 j2 j3 j4 j5 h0 h1 h2 h3 h4 hkb hkb2
          gi_wp2
          go_roundw
          case rel => exact ⟨j + 1, by omega, by go_num, J5.out, K5.out⟩
          case measure => simp [intOf]; omega
        · clear hR hy'
          gi_wp2
          go_wp2
          refine bodyPost_ret (results_none rfl _ _ _) rfl ?_
          exact ⟨⟨_, rfl⟩, .inr ⟨_, hJx5⟩⟩
      · have tt : (r.x.kind == kd) = false := beq_eq_false_iff_ne.2 hkk
        rw [decide_eq_false hkk, if_neg (by decide), List.append_nil] at FS
        have J5 : Hid (J ((List.range (j + 1)).filter (kindP R kd)) w2) := by show J _ _; rw [FS]; exact J2.out
        clear hkk FS hyv JJ KK J2 O2 hkb
        go_wp2
        go_roundw
        case rel => exact ⟨j + 1, by omega, by go_num, J5.out, K2.out⟩
        case measure => simp [intOf]; omega
    · obtain rfl : lr = j := by omega
      clear RJ HY
      go_wp2
      go_end0
      exact ⟨⟨_, rfl⟩, .inl ⟨_, rfl, JJ.out⟩⟩
end Go.Proofs.YtmnleknehjkmgaaGreat
namespace Go.Proofs.YtmnleknehjkmgaaGreat
open Go.RowKit Go.Shelf
attribute [local go_sem] Oper.semAt_some
theorem map_nth (R : List Xe) : (List.range R.length).map (fun i => (nth R i).x) = R.map Xe.x := by
  refine List.ext_getElem (by simp) fun i h1 h2 => ?_
  simp only [List.length_map] at h2
  simp [nth_at h2]
theorem filt_nth (R : List Xe) (kd : Int) : ((List.range R.length).filter (kindP R kd)).map (fun i => (nth R i).x) = (R.map Xe.x).filter (fun x => decide (x.kind = kd)) := by
  rw [← map_nth R, List.filter_map]
  rfl
theorem cnt_nth (R : List Xe) (kd : Int) : ((List.range R.length).filter (kindP R kd)).length = cntI (R.map Xe.x) kd := by
  unfold cntI
  rw [← filt_nth, List.length_map]
theorem ofKind_any (kd : Int) (A : Option Addr) (l cap n : Nat) (w : World) (hn : w.heap.size = n) : Calls Tryz.prog 36 #[.int .i64 kd, .slice A l cap] w fun e w' => e = .returned (.func (.func 52) #[] #[.pointer (some ⟨n + 1, 0, none⟩), .pointer (some ⟨n, 0, none⟩)]) ∧ Boxed w' n 3 (.int .i64 kd) ∧ Boxed w' (n + 1) 24 (.slice A l cap) ∧ Below n w w' ∧ w'.heap.size = n + 1 + 1 := by
  obtain ⟨n0, W1, e1, hW1, S1, y1, z1⟩ := Fr.box (Fr.nil w) #[.int .i64 kd] 3
  obtain ⟨n1, W2, e2, hW2, S2, y2, z2⟩ := Fr.box S1 #[.slice A l cap] 24
  obtain rfl : n0 = n := by omega
  obtain rfl : n1 = n0 + 1 := by omega
  have F : Hid (Boxed W2 n0 3 (.int .i64 kd) ∧ Boxed W2 (n0 + 1) 24 (.slice A l cap) ∧ Below n0 w W2 ∧ W2.heap.size = n0 + 1 + 1) := ⟨S2.out.2.1, S2.out.1, by rw [← hn]; exact y1.trans (y2.mono (by omega)), z2⟩
  clear S1 S2 y1 y2 e1
  go_enter Tryz.func36, Tryz.ntmps36
  go_wp2
  go_ret
  exact ⟨rfl, F.out⟩
theorem count13_any (kd : Int) (R : List Xe) (A : Option Addr) (lr cr : Nat) (hr : R.length = lr) (hlr : lr ≤ 90000) (w : World) (H : ItsP w A R) :
    Calls Tryz.prog 17 #[.int .i64 kd, .slice A lr cr] w fun e w' => e = .returned (.int .i64 (cntI (R.map Xe.x) kd : Nat)) ∧ Below w.heap.size w w' := by
  obtain ⟨n, W1, e1, hW1, S1, y1, z1⟩ := Fr.box (Fr.nil w) #[.int .i64 0] 3
  have b1 : Boxed W1 n 3 (.int .i64 0) := S1.out.1
  have OK := ofKind_any kd A lr cr (n + 1) W1 z1
  have TE := Lib.hid (fun W0 (y : Below (n + 1) W1 W0) (hs : Boxed W0 (n + 1 + 1) 24 (.slice A lr cr)) (hk : Boxed W0 (n + 1) 3 (.int .i64 kd)) => ofKind_tells 2 (n + 1 + 1) (n + 1) n kd R A lr cr hr hlr w W0 H (y1.trans (y.mono (by omega))) (by omega) hs hk (by omega))
  have HR := Lib.hid hr
  have NB : Hid (w.heap.size = n) := e1
  have B1 := Lib.hid b1
  have Y1 := Lib.hid y1
  have v0 := b1.cell
  have v1 := b1.frozen
  have v2 := set_id b1
  clear hr H S1 y1 b1 e1
  refine callsIn_wide.1 (callsIn_of_wp_marks (n := 3) Tryz.func17 rfl trivial ?_ rfl)
  simp only [Tryz.ntmps17, List.size_toArray, List.length_cons, List.length_nil, Nat.reduceAdd, Nat.reduceSub, Array.replicate_succ, Array.replicate_zero, List.push_toArray, List.append_toArray, List.nil_append, List.cons_append]
  refine wpIn_wide.2 ?_
  have e1 := NB.out
  go_wp2_with fail
  clear v0 v1 v2 e1
  refine OK.mono ?_
  rintro e W0 ⟨rfl, o1, o2, o3, zW⟩
  have hseq := TE.out W0 o3 o2 o1
  have BL : Hid (Boxed W0 n 3 (.int .i64 0)) := (o3.block n (by omega)).trans B1.out
  have B0 : Hid (Below n w W0) := by
    have h := Y1.out
    rw [NB.out] at h
    exact h.trans (o3.mono (by omega))
  clear OK TE o1 o2 o3 Y1 B1 hW1
  rw [show W0.heap.size - 1 = n + 1 + 1 by omega] at hseq
  go_wp2_with fail
  refine wpIn_wide.1 (Stops.wpIn_tellsW (F := Fence.wide) (n := 3) rfl (by omega) (gf := 52) (lb := #[.pointer (some ⟨n + 1 + 1, 0, none⟩), .pointer (some ⟨n + 1, 0, none⟩)]) rfl trivial (enters_of Tryz.func52 (by kernel_rfl) rfl)
    hseq (fun h k => h.trans k) (fun W l o o' _ hl ho => Kq.put (n + 1 + 1) n W l o o' hl ho) (fun _ => rfl)
    (fun pre W => Boxed W n 3 (.int .i64 (pre.length : Nat)) ∧ Below n w W)
    (fun _ _ => False)
    (fun s X Y row h hg hr => ⟨h.1.kept hg (fun e => by have := (hr _ e.symm).1; omega), h.2.grown hg (by have := h.1.lt; omega) (fun r e => by have := (hr r e).1; omega)⟩)
    (fun s X Y row h hg hr => h)
    ⟨BL.out, B0.out⟩
    (fun pre i a' W => pre.length ≤ 90000 ∧ a' = { tmps := #[.int .i64 kd, .slice A lr cr, undef, undef, .int .i64 0, .pointer (some ⟨n, 0, none⟩), .int .i64 kd, .slice A lr cr, .func (.func 52) #[] #[.pointer (some ⟨n + 1 + 1, 0, none⟩), .pointer (some ⟨n + 1, 0, none⟩)], (nth R i).v, undef, undef, undef], defers := [] })
    (fun pre x s X Y row h hg hr => h)
    ?assign ?body ?done ?stop)
  case assign =>
    rintro lp pre i W K ⟨i1, i2⟩ hE hK
    simp only [Xe.v] at hK ⊢
    gi_wp2
    refine hK _ _ ((KeepsOthers.refl _).from _) (Kq.refl _ _ _) ⟨i1, i2⟩ ⟨?_, by simp⟩
    rw [hE.1]
    have h1 := List.length_filter_le (kindP R kd) (List.range i)
    have h2 := hE.2.1
    rw [List.length_range] at h1
    omega
  case body =>
    rintro lp pre i a' W ⟨i1, i2⟩ ⟨hle, rfl⟩
    obtain ⟨m, hm⟩ : ∃ z, pre.length = z := ⟨_, rfl⟩
    rw [hm] at i1 hle
    have v0 := i1.cell
    have v1 := i1.frozen
    have P : Hid (KeepsFrom W0.heap.size W (W.setCell ⟨n, 0, none⟩ (.int .i64 ((m : Int) + 1))) ∧ Kq (n + 1 + 1) n W (W.setCell ⟨n, 0, none⟩ (.int .i64 ((m : Int) + 1))) ∧ Boxed (W.setCell ⟨n, 0, none⟩ (.int .i64 ((m : Int) + 1))) n 3 (.int .i64 ((pre ++ [i]).length : Nat)) ∧ Below n w (W.setCell ⟨n, 0, none⟩ (.int .i64 ((m : Int) + 1)))) := by
      have hln : (pre ++ [i]).length = m + 1 := by simp [hm]
      refine ⟨(KeepsOthers.setCell _ _ _).from _, ⟨by simp, fun y o h1 h2 h3 h4 => (heap_setCell_other W ⟨n, 0, none⟩ y _ h2).trans h3⟩, ?_, i2.setCell (p := ⟨n, 0, none⟩) (Nat.le_refl _) _⟩
      rw [hln]
      exact Boxed.set _ i1
    clear i1 i2 hm
    simp only [Xe.v]
    gi_wp2
    exact P.out
  case done =>
    rintro D ys W hD hys ⟨g1, g2⟩ hK
    have c1 := g1.cell
    have HK := Lib.hid hK
    have G2 := Lib.hid g2
    have HW : Hid (n < W.heap.size) := g1.lt
    have CN : Hid (ys.length = cntI (R.map Xe.x) kd) := by show _ = _; rw [hys, ← HR.out]; exact cnt_nth R kd
    rw [CN.out] at c1
    obtain ⟨m, hm⟩ : ∃ z, cntI (R.map Xe.x) kd = z := ⟨_, rfl⟩
    rw [hm] at c1
    have HM := Lib.hid hm
    clear g1 g2 hK hseq hys CN hm
    go_wp2_with fail
    have hg := grownBy_putObj' W D (.deferred none)
    refine ⟨by simp, .inl ⟨_, _, rfl, run_takeDeferred HK.out, ?_⟩⟩
    refine ⟨.int .i64 m, ?_, by rw [HM.out], ?_⟩
    · simp [results, Tryz.results17, go_sem]
    · rw [NB.out]
      exact G2.out.trans (belowK_b (w := w) (by rw [NB.out]; omega) W D _ _ (by rw [NB.out]; omega) HK.out rfl rfl)
  case stop =>
    rintro D pre W hD h
    exact h.elim
end Go.Proofs.YtmnleknehjkmgaaGreat
namespace Go.Proofs.YtmnleknehjkmgaaGreat
open Go.RowKit Go.Shelf
attribute [local go_sem] Oper.semAt_some
def cellsN (L : List Nat) : List Value := L.map fun z => Value.int .i64 (z : Nat)
theorem info_i64 : (Tryz.prog.info? 3).map (fun i => (i.zero, i.size, i.bytes)) = some (some (.int .i64 0), 1, 8) := by kernel_rfl
def OwnN (w : World) (B : Nat) (v : Value) (L : List Nat) : Prop := w.ownsRow B 3 1 v L.length (cellsN L)
theorem OwnN.below {w w' : World} {n : Nat} {v : Value} {L : List Nat} (h : OwnN w n v L) (k : Below w.heap.size w w') : OwnN w' n v L :=
  World.ownsRow.kept h (row := none) ⟨k.os, k.tape, k.output, k.size, fun i hi _ => k.block i hi⟩ (by
    cases e : v.ownBlock with
    | none => exact .inl rfl
    | some g => exact .inr (by simp))
theorem OwnN.lift {w : World} {n m : Nat} {v : Value} {L : List Nat} (h : OwnN w n v L) (k : m ≤ n) : OwnN w m v L := row_mono h k
theorem OwnN.grown {w w' : World} {n : Nat} {v : Value} {L : List Nat} {row : Option Nat} (h : OwnN w n v L) (k : w.grownBy w' row) (hne : ∀ r, row = some r → v.ownBlock ≠ some r) : OwnN w' n v L :=
  World.ownsRow.kept h k (by
    cases e : v.ownBlock with
    | none => exact .inl rfl
    | some g => exact .inr fun e' => hne g e'.symm e)
theorem ownN_nil (w : World) (n : Nat) : OwnN w n (.slice none 0 0) [] := World.ownsRow_nil _ _ _ _
theorem OwnN.form {w : World} {n : Nat} {v : Value} {L : List Nat} (h : OwnN w n v L) : ∃ A c, v = .slice A L.length c ∧ ∀ i (hi : i < L.length), ∃ g, A = some ⟨g, 0, none⟩ ∧ w.cell? ⟨g, i, none⟩ = some (.int .i64 (L[i] : Nat)) := by
  rcases h.2 with ⟨rfl, h0⟩ | ⟨g, cap, cur, rfl, _, _, hle, _⟩
  · exact ⟨none, 0, by rw [h0], fun i hi => by omega⟩
  · refine ⟨_, cap, rfl, fun i hi => ⟨g, rfl, ?_⟩⟩
    rw [World.ownsRow.cellAt h i (by omega)]
    unfold cellsN
    rw [List.getElem?_map, List.getElem?_eq_getElem hi]
    rfl
theorem run_appN (w : World) (B : Nat) (v : Value) (L : List Nat) (h : OwnN w B v L) (x b c : Nat) (hc : w.cell? ⟨b, 0, none⟩ = some (.int .i64 (x : Nat))) (hB : B ≤ w.heap.size) (hs : L.length + 1 ≤ 100000) :
    ∃ v' w', (Builtin.append_ #[38, 38] 38 #[v, .slice (some ⟨b, 0, none⟩) 1 c]).run Tryz.prog w = .ok v' w' ∧ OwnN w' B v' (L ++ [x]) ∧ Below B w w' ∧ w.grownBy w' v.ownBlock := by
  obtain ⟨i0, hi, hz0, hz1, hz2⟩ := info_parts info_i64
  obtain ⟨v', w', k1, k2, k3⟩ := run_append_src w B 38 38 3 i0 _ 1 8 Tryz.underlying38 hi hz0 hz1 hz2 rfl (by decide) v L.length (cellsN L) h (some ⟨b, 0, none⟩) 1 c [.int .i64 (x : Nat)]
    rfl (.inr ⟨_, rfl, fun j u hj => by
      match j, hj with
      | 0, hj => simp only [List.getElem?_cons_zero, Option.some.injEq] at hj; subst hj; simpa [Addr.add] using hc
      | j + 1, hj => cases hj⟩) (fun u hu => by obtain rfl := List.mem_singleton.1 hu; rfl) (by unfold maxLen; omega) (by omega) hB
  refine ⟨v', w', k1, ?_, (Below.refl B w).grown k3 hB fun k hk => (World.ownsRow.lt h k hk).1, k3⟩
  unfold OwnN cellsN
  rw [List.map_append, List.length_append]
  exact k2
theorem placed_any (A : Option Addr) (l cap : Nat) (w : World) : Calls Tryz.prog 35 #[.slice A l cap] w fun e w' => e = .returned (.func (.func 51) #[] #[.pointer (some ⟨w.heap.size, 0, none⟩)]) ∧ w.alloc (.cells #[.slice A l cap] 24) = w' := by
  go_enter Tryz.func35, Tryz.ntmps35
  go_wp2
  go_ret
  exact ⟨rfl, rfl⟩
def RetOffs (w : World) (L : List Ite) (e : Ending) (w' : World) : Prop := ∃ A c, e = .returned (.slice A L.length c) ∧ OwnN w' w.heap.size (.slice A L.length c) ((List.range L.length).map (offI L)) ∧ Below w.heap.size w w'
theorem offsets_any (R : List Xe) (A : Option Addr) (lr cr : Nat) (hr : R.length = lr) (hlr : lr ≤ 90000) (hsum : (rawI (R.map Xe.x)).length ≤ 90000) (w : World) (H : ItsP w A R) :
    Calls Tryz.prog 16 #[.slice A lr cr] w (RetOffs w (R.map Xe.x)) := by
  obtain ⟨n, W1, e1, hW1, S1, y1, z1⟩ := Fr.box (Fr.nil w) #[.slice none 0 0] 38
  have b1 : Boxed W1 n 38 (.slice none 0 0) := S1.out.1
  have OK := placed_any A lr cr W1
  rw [z1] at OK
  have TE := Lib.hid (fun W0 (y : Below W1.heap.size W1 W0) (hs : Boxed W0 (n + 1) 24 (.slice A lr cr)) => placed_tells 2 (n + 1) n R A lr cr hr hlr hsum w W0 H (y1.trans (y.mono (by omega))) (by omega) hs (by have := y.size; omega))
  have HR : Hid ((R.map Xe.x).length = lr) := by show _ = _; rw [List.length_map]; exact hr
  have NB : Hid (w.heap.size = n) := e1
  have B1 := Lib.hid b1
  have Y1 := Lib.hid y1
  clear hr H S1 y1 b1 e1 hsum
  refine callsIn_wide.1 (callsIn_of_wp_marks (n := 3) Tryz.func16 rfl trivial ?_ rfl)
  simp only [Tryz.ntmps16, List.size_toArray, List.length_cons, List.length_nil, Nat.reduceAdd, Nat.reduceSub, Array.replicate_succ, Array.replicate_zero, List.push_toArray, List.append_toArray, List.nil_append, List.cons_append]
  refine wpIn_wide.2 ?_
  have e1 := NB.out
  go_wp2_with fail
  clear e1
  refine OK.mono ?_
  rintro e W0 ⟨rfl, hW0⟩
  have y0 : Below W1.heap.size W1 W0 := by rw [← hW0]; exact (Below.refl _ _).alloc (Nat.le_refl _) _
  have zW : W0.heap.size = n + 1 + 1 := by rw [← hW0]; simp; omega
  have hseq := TE.out W0 y0 (by rw [← hW0, ← z1]; exact World.alloc_heap_new W1 _)
  have BL : Hid (Boxed W0 n 38 (.slice none 0 0)) := (y0.block n (by omega)).trans B1.out
  have B0 : Hid (Below n w W0) := by
    have h := Y1.out
    rw [NB.out] at h
    exact h.trans (y0.mono (by omega))
  clear OK TE y0 hW0 Y1 B1 hW1 z1
  rw [show W0.heap.size - 1 = n + 1 by omega] at hseq
  obtain ⟨L, hL⟩ : ∃ z, R.map Xe.x = z := ⟨_, rfl⟩
  rw [hL] at hseq HR
  have HLL := Lib.hid hL
  clear hL
  go_wp2_with fail
  refine wpIn_wide.1 (Stops.wpIn_tellsW (F := Fence.wide) (n := 3) rfl (by omega) (gf := 51) (lb := #[.pointer (some ⟨n + 1, 0, none⟩)]) rfl trivial (enters_of Tryz.func51 (by kernel_rfl) rfl)
    hseq (fun h k => h.trans k) (fun W l o o' _ hl ho => Kt.put (n + 1) n W l o o' hl ho) (fun _ => rfl)
    (fun pre W => ∃ A c, Boxed W n 38 (.slice A (List.length pre) c) ∧ OwnN W (n + 2) (.slice A pre.length c) (pre.map (offI L)) ∧ Below n w W ∧ n + 2 ≤ W.heap.size)
    (fun _ _ => False)
    (fun s X Y row h hg hr => by
      obtain ⟨A, c, h1, h2, h3, h4⟩ := h
      exact ⟨A, c, h1.kept hg (fun e => by have := (hr _ e.symm).1; omega), h2.grown hg (not_own h2 fun r e => (hr r e).2), h3.grown hg (by have := h1.lt; omega) (fun r e => by have := (hr r e).1; omega), Nat.le_trans h4 hg.size⟩)
    (fun s X Y row h hg hr => h)
    ⟨none, 0, BL.out, ownN_nil _ _, B0.out, by omega⟩
    (fun pre i a' W => pre.length ≤ 90000 ∧ a' = { tmps := #[.slice A lr cr, undef, .slice none 0 0, .pointer (some ⟨n, 0, none⟩), .int .i64 (offI L i : Nat), .slice A lr cr, .func (.func 51) #[] #[.pointer (some ⟨n + 1, 0, none⟩)], .int .i64 (offI L i : Nat), (nth R i).v, undef, undef, undef, undef, undef], defers := [] })
    (fun pre x s X Y row h hg hr => h)
    ?assign ?body ?done ?stop)
  case assign =>
    rintro lp pre i W K ⟨A', c, i1, i2, i3, i4⟩ ⟨hp, hi⟩ hK
    simp only [Xe.v] at hK ⊢
    gi_wp2
    refine hK _ _ ((KeepsOthers.refl _).from _) (Kt.refl _ _ _) ⟨A', c, i1, i2, i3, i4⟩ ⟨?_, by simp⟩
    rw [hp, List.length_range]
    omega
  case body =>
    rintro lp pre i a' W ⟨A', c, i1, i2, i3, i4⟩ ⟨hle, rfl⟩
    have i0 := i1.cell
    have hal := up1 W (.cells #[.int .i64 (offI L i : Nat)] 3)
    have hnew := World.alloc_heap_new W (.cells #[.int .i64 (offI L i : Nat)] 3)
    obtain ⟨wa, hwa⟩ : ∃ z, W.alloc (.cells #[.int .i64 (offI L i : Nat)] 3) = z := ⟨_, rfl⟩
    rw [hwa] at hal hnew
    obtain ⟨v8, w8, k1, k2, k3, k4⟩ := run_appN wa (n + 2) (.slice A' pre.length c) (pre.map (offI L)) (i2.below hal) (offI L i) W.heap.size 1 (Lib.cell_of_heap hnew 0) (Nat.le_trans i4 hal.size) (by rw [List.length_map]; omega)
    obtain ⟨A8, c8, rfl, -⟩ := k2.form
    have hla : (pre.map (offI L) ++ [offI L i]).length = pre.length + 1 := by simp
    rw [hla] at k1 k2
    have b8 : Boxed w8 n 38 (.slice A' pre.length c) := (k3.block n (by omega)).trans ((hal.block _ i1.lt).trans i1)
    have v0 := b8.cell
    have v1 := b8.frozen
    have K1 := Lib.hid k1
    have kw : Below (n + 2) W w8 := (hal.mono (by omega)).trans k3
    have FIN : Hid (KeepsFrom W0.heap.size W (w8.setCell ⟨n, 0, none⟩ (.slice A8 (pre.length + 1) c8)) ∧ Kt (n + 1) n W (w8.setCell ⟨n, 0, none⟩ (.slice A8 (pre.length + 1) c8)) ∧ ∃ A c, Boxed (w8.setCell ⟨n, 0, none⟩ (.slice A8 (pre.length + 1) c8)) n 38 (.slice A (List.length (pre ++ [i])) c) ∧ OwnN (w8.setCell ⟨n, 0, none⟩ (.slice A8 (pre.length + 1) c8)) (n + 2) (.slice A (pre ++ [i]).length c) ((pre ++ [i]).map (offI L)) ∧ Below n w (w8.setCell ⟨n, 0, none⟩ (.slice A8 (pre.length + 1) c8)) ∧ n + 2 ≤ (w8.setCell ⟨n, 0, none⟩ (.slice A8 (pre.length + 1) c8)).heap.size) := by
      have hg := grownBy_setC w8 n 0 (.slice A8 (pre.length + 1) c8)
      have hln : (pre ++ [i]).length = pre.length + 1 := by simp
      refine ⟨(keeps_b hal _).trans (((KeepsOthers.of_grownBy k4 fun j o e ho => ?_).trans (KeepsOthers.setCell _ _ _)).from _), ⟨⟨by have := kw.size; simpa using this, fun y o h1 h2 h3 h4 => ?_⟩, fun y cur fz hy => ?_⟩, A8, c8, by rw [hln]; exact Boxed.set _ b8, ?_, ?_, ?_⟩
      · obtain ⟨cur, hc⟩ := row_type i2 e
        have hc2 : wa.heap[j]? = _ := (hal.block j (Array.getElem?_eq_some_iff.1 hc).1).trans hc
        rw [hc2] at ho
        obtain rfl := Option.some.inj ho
        rfl
      · exact (heap_setCell_other w8 ⟨n, 0, none⟩ y _ h2).trans ((kw.block y (by omega)).trans h3)
      · have hyn : y ≠ n := by
          rintro rfl
          rw [show W.heap[y]? = _ from i1] at hy
          simp at hy
        have hya : wa.heap[y]? = _ := (hal.block y (Array.getElem?_eq_some_iff.1 hy).1).trans hy
        refine (heap_setCell_other w8 ⟨n, 0, none⟩ y _ hyn).trans ((k4.block y (Array.getElem?_eq_some_iff.1 hya).1 fun e => ?_).trans hya)
        obtain ⟨cur2, hc⟩ := row_type i2 e.symm
        rw [hy] at hc
        simp at hc
      · rw [hln, List.map_append]
        refine k2.grown hg (fun r e e2 => ?_)
        have h5 := (World.ownsRow.lt k2 r e2).1
        have := Option.some.inj e
        omega
      · exact (i3.trans (kw.mono (by omega))).setCell (p := ⟨n, 0, none⟩) (Nat.le_refl _) _
      · have := kw.size
        simp
        omega
    clear i1 i2 i3 i4 hal k1 k2 k3 k4 b8 kw hla hnew
    simp only [Xe.v]
    gi_wp2_with (gi_at_builtin; refine wpListIn_rapp K1.out rfl _ _ rfl rfl rfl rfl ?_)
    exact FIN.out
  case done =>
    rintro D ys W hD hys ⟨A', c, g1, g2, g3, -⟩ hK
    have hyl : ys.length = L.length := by rw [hys, List.length_range, HR.out]
    rw [hyl] at g1 g2
    rw [hys, ← HR.out] at g2
    have c1 := g1.cell
    have HK := Lib.hid hK
    have G2 := Lib.hid g2
    have G4 := Lib.hid g3
    have HW : Hid (n < W.heap.size) := g1.lt
    clear g1 g2 g3 hK hseq hys hyl
    go_wp2_with fail
    have hg := grownBy_putObj' W D (.deferred none)
    refine ⟨by simp, .inl ⟨_, _, rfl, run_takeDeferred HK.out, ?_⟩⟩
    refine ⟨.slice A' L.length c, ?_, ?_⟩
    · simp [results, Tryz.results16, go_sem]
    · have hk : ∀ r, some D = some r → ∃ o : Obj, W.heap[r]? = some o ∧ o.isCells = false := fun r e => by cases e; exact ⟨_, HK.out, rfl⟩
      show RetOffs w (R.map Xe.x) _ _
      rw [HLL.out]
      refine ⟨A', c, rfl, ?_, ?_⟩
      · rw [NB.out]
        exact (G2.out.grown hg (not_own G2.out hk)).lift (by omega)
      · rw [NB.out]
        exact G4.out.trans (belowK_b (w := w) (by rw [NB.out]; omega) W D _ _ (by rw [NB.out]; omega) HK.out rfl rfl)
  case stop =>
    rintro D pre W hD h
    exact h.elim
end Go.Proofs.YtmnleknehjkmgaaGreat
