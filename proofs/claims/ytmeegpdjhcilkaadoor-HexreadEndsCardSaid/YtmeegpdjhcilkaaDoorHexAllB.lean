/-
  HexT, HexU, HexV: texts joined to one.
-/
import Derived.Test.YtmeegpdjhcilkaaDoorHexS
import Derived.Test.YtmeegpdjhcilkaaDoorHexAllA
import Derived.Test.YtmeegpdjhcilkaaDoorRecAllB
/-
  Lines that a loop over records or rows appends to a box; the walks over hexwrite.Sized, Write and Lines: the HEX text of every image, and the number of its lines.
-/
namespace Go.Proofs.YtmeegpdjhcilkaaDoor
open Go.RowKit Go.Shelf
set_option linter.unusedVariables false
attribute [local go_sem] Oper.semAt_some

/-! ### A box with a row of strings -/
theorem info_str : (Tryd.prog.info? 9).map (fun i => (i.zero, i.size, i.bytes)) = some (some (.string ⟨#[]⟩), 1, 16) := by kernel_rfl
/-- Box bl holds a row of strings ss, in a block from nB on; below nB, the box aside, the world is as w0. -/
def SI (w0 : World) (bl nB : Nat) (ss : List ByteArray) (W : World) : Prop :=
  ∃ v, Boxed W bl 43 v ∧ W.ownsRow nB 9 1 v ss.length (ss.map Value.string) ∧ KeptP (fun i => i < nB ∧ i ≠ bl) w0 W
theorem ownsRow_turn {w w' : World} {e : TypeId} {n₀ s k : Nat} {v : Value} {xs : List Value} (h : w.ownsRow n₀ e s v k xs) {row : Option Nat} (hg : w.grownBy w' row) (hr : ∀ r, row = some r → ∃ o : Obj, w.heap[r]? = some o ∧ o.isCells = false) : w'.ownsRow n₀ e s v k xs := by
  refine h.kept hg ?_
  rcases h.2 with ⟨h1, _⟩ | ⟨g, cap, cur, h1, _, hgb, _⟩
  · rw [h1]; exact .inl rfl
  · rw [h1]
    refine .inr fun e' => ?_
    obtain ⟨o, ho, hc⟩ := hr g (by simpa [Value.ownBlock] using e'.symm)
    rw [hgb] at ho; cases ho; cases hc
theorem SI.grown {w0 : World} {bl nB B : Nat} {ss : List ByteArray} {X Y : World} {row : Option Nat} (h : SI w0 bl nB ss X) (hB : nB ≤ B) (hg : X.grownBy Y row) (hr : ∀ r, row = some r → B ≤ r ∧ ∃ o : Obj, X.heap[r]? = some o ∧ o.isCells = false) : SI w0 bl nB ss Y := by
  obtain ⟨v, a1, a2, a3⟩ := h
  have hn : ∀ b, b < nB → some b ≠ row := fun b hb e => by
    have := (hr b e.symm).1
    omega
  refine ⟨v, ?_, ownsRow_turn a2 hg fun r e => (hr r e).2, a3.grown hg fun k e hk => hn k hk.1 e.symm⟩
  exact a1.kept hg fun e => by
    obtain ⟨o, ho, hc⟩ := (hr bl e.symm).2
    rw [show X.heap[bl]? = _ from a1] at ho; cases ho; cases hc
theorem SI.below {w0 : World} {bl nB : Nat} {ss : List ByteArray} {X Y : World} (h : SI w0 bl nB ss X) (k : Below X.heap.size X Y) : SI w0 bl nB ss Y :=
  h.grown (B := nB) (Nat.le_refl _) ⟨k.os, k.tape, k.output, k.size, fun i hi _ => k.block i hi⟩ (row := none) fun r e => by cases e
theorem SI.drew {w0 : World} {bl nB : Nat} {ss : List ByteArray} {X : World} (h : SI w0 bl nB ss X) : SI w0 bl nB ss X.drew := h.below ((Below.refl _ _).drew)
theorem strT : ¬ ((9 : TypeId) = 5 ∨ (9 : TypeId) = 91 ∨ (9 : TypeId) = 78) := by decide
theorem strsT : ¬ ((43 : TypeId) = 5 ∨ (43 : TypeId) = 91 ∨ (43 : TypeId) = 78) := by decide
theorem keepsOthers_row {w w' : World} {e : TypeId} {n₀ s k : Nat} {v : Value} {xs : List Value} (h : w.ownsRow n₀ e s v k xs) (hg : w.grownBy w' v.ownBlock) : KeepsOthers w w' :=
  KeepsOthers.of_grownBy hg fun j o ej hj => by
    rcases h.2 with ⟨rfl, _⟩ | ⟨g0, cap0, cur, rfl, _, hgb, _⟩
    · simp [Value.ownBlock] at ej
    · obtain rfl : g0 = j := by simpa [Value.ownBlock] using ej
      rw [hgb] at hj; cases hj; rfl
/-- 'lines = append(lines, line)', behind whatever only added blocks. -/
theorem SI.step {w0 : World} {bl nB Bs : Nat} (hw0 : nB ≤ w0.heap.size) (hbl : bl < nB) (hBs : bl ≠ Bs) {ss : List ByteArray} (hlen : ss.length ≤ 1099511627776) {W : World} {v : Value}
    (a1 : Boxed W bl 43 v) (a2 : W.ownsRow nB 9 1 v ss.length (ss.map Value.string)) (a3 : KeptP (fun i => i < nB ∧ i ≠ bl) w0 W) (hnv : ∀ g, v.ownBlock = some g → g ≠ Bs)
    {w2 : World} (hb : Below W.heap.size W w2) (s : ByteArray) (ty : TypeId) :
    ∃ g cap' w4, (Builtin.append_ #[43, 43] ty #[v, .slice (some ⟨w2.heap.size, 0, none⟩) 1 1]).run Tryd.prog (w2.alloc (.cells #[.string s] 9)) = .ok (.slice (some ⟨g, 0, none⟩) (ss.length + 1) cap') w4 ∧
      Boxed w2 bl 43 v ∧ Boxed w4 bl 43 v ∧
      (∀ B, KeepsFrom B W (w4.setCell ⟨bl, 0, none⟩ (.slice (some ⟨g, 0, none⟩) (ss.length + 1) cap'))) ∧
      KeptO (QI Bs) W (w4.setCell ⟨bl, 0, none⟩ (.slice (some ⟨g, 0, none⟩) (ss.length + 1) cap')) ∧
      SI w0 bl nB (ss ++ [s]) (w4.setCell ⟨bl, 0, none⟩ (.slice (some ⟨g, 0, none⟩) (ss.length + 1) cap')) := by
  obtain ⟨i0, hi, hz0, hz1, hz2⟩ := info_parts info_str
  have hsW : nB ≤ W.heap.size := Nat.le_trans hw0 a3.size
  have hal : Below w2.heap.size w2 (w2.alloc (.cells #[.string s] 9)) := (Below.refl _ _).alloc (Nat.le_refl _) _
  have hb3 : Below W.heap.size W (w2.alloc (.cells #[.string s] 9)) := hb.trans (hal.mono hb.size)
  have o3 : (w2.alloc (.cells #[.string s] 9)).ownsRow nB 9 1 v ss.length (ss.map Value.string) := ownsRow_kept a2 (KeptP.of_all hb3) fun _ _ => trivial
  have c1 : Boxed w2 bl 43 v := (hb.block bl a1.lt).trans a1
  obtain ⟨v', w4, k1, k2, k3, _, k5⟩ := run_append_own_at (P := Tryd.prog) (w := w2.alloc (.cells #[.string s] 9)) nB 43 ty 9 i0 _ 1 16 Tryd.underlying43 hi hz0 hz1 hz2 rfl (by decide) v ss.length _ o3 ⟨w2.heap.size, 0, none⟩ 1 1 [.string s] rfl
    (fun j u hj => by
      match j, hj with
      | 0, hj => simp at hj; subst hj; simp [Addr.add, go_sem])
    (fun u hu => by simp at hu; subst hu; rfl) (by unfold maxLen; omega) (by omega) (Nat.le_trans hsW hb3.size)
  obtain ⟨g, cap', rfl⟩ := ownsRow_succ k2
  have hg1 : nB ≤ g := (k2.lt g rfl).1
  have hrow : ∀ k, v.ownBlock = some k → nB ≤ k := fun k hk => (a2.lt k hk).1
  have d1 : Boxed w4 bl 43 v := (c1.alloc _).kept k3 fun e => by have := hrow bl e.symm; omega
  have hQ1 : KeptO (QI Bs) (w2.alloc (.cells #[.string s] 9)) w4 := KeptO.grown k3 fun k o e ho hq => by
    rcases hq with rfl | hq
    · exact hnv _ e rfl
    · rcases o3.2 with ⟨h1, _⟩ | ⟨g0, cap0, cur, h1, _, hgb, _⟩
      · rw [h1] at e; simp [Value.ownBlock] at e
      · rw [h1] at e
        obtain rfl : g0 = k := by simpa [Value.ownBlock] using e
        rw [hgb] at ho
        cases ho
        obtain ⟨cs, t, fr, h2, h3⟩ := hq
        simp only [Obj.cells.injEq] at h2
        exact strT (h2.2.1 ▸ h3)
  have hQ2 : KeptO (QI Bs) w4 (w4.setCell ⟨bl, 0, none⟩ (.slice (some ⟨g, 0, none⟩) (ss.length + 1) cap')) := KeptO.grown (grownBy_setCell' w4 bl _) fun k o e ho hq => by
    obtain rfl := Option.some.inj e
    rcases hq with hq | hq
    · exact hBs hq
    · rw [show w4.heap[bl]? = _ from d1] at ho
      cases ho
      obtain ⟨cs, t, fr, h2, h3⟩ := hq
      simp only [Obj.cells.injEq] at h2
      exact strsT (h2.2.1 ▸ h3)
  refine ⟨g, cap', w4, k1, c1, d1, fun B => ?_, ((KeptO.of_all hb3).trans hQ1).trans hQ2, _, d1.set _, ?_, ?_⟩
  · have q1 : KeepsOthers W (w2.alloc (.cells #[.string s] 9)) := keepsOthers_of_below hb3
    exact ((q1.trans (keepsOthers_row o3 k3)).trans (KeepsOthers.setCell _ _ _)).from B
  · rw [List.length_append, List.map_append]
    exact k2.kept (grownBy_setCell' w4 bl _) (.inr fun e => by
      have h : g = bl := Option.some.inj e
      omega)
  · have q2 : KeptP (fun i => i < nB ∧ i ≠ bl) w4 (w4.setCell ⟨bl, 0, none⟩ (.slice (some ⟨g, 0, none⟩) (ss.length + 1) cap')) := (KeptP.refl _ _).setCell (fun h => h.2 rfl) _
    exact a3.trans (((KeptP.of_all hb3).grown k3 fun k hk hq => by have := hrow k hk; omega).trans q2)
theorem SI.strs {w0 : World} {bl nB : Nat} {ss : List ByteArray} {W : World} (h : SI w0 bl nB ss W) : ∃ A cap, W.cell? ⟨bl, 0, none⟩ = some (.slice A ss.length cap) ∧ StrsP (fun _ => True) W A ss := by
  obtain ⟨v, a1, a2, -⟩ := h
  rcases a2.2 with ⟨rfl, h0⟩ | ⟨g, cap, cur, rfl, hb, hg, _⟩
  · have : ss = [] := List.eq_nil_of_length_eq_zero h0
    subst this
    exact ⟨none, 0, a1.cell, .inl rfl⟩
  · refine ⟨_, cap, a1.cell, .inr ⟨g, 0, rfl, trivial, fun j hj => ?_⟩⟩
    rw [Nat.zero_add, a2.cellAt j (by omega)]
    simp [List.getElem?_eq_getElem hj]

theorem wpListIn_run_append {F : Fence} {n : Nat} {w w1 : World} {t ty : TypeId} {v y v' : Value} (h1 : (Builtin.append_ #[t, t] ty #[v, y]).run Tryd.prog w = .ok v' w1) {ops : Array Oper} {rest : List Oper} {o : Oper} {a : Act} {Q : Exit → Act → World → Prop} (hgd : o.guard = none) (s x : Operand)
    (ho : o.op = .call { callee := .builtin .append, args := #[s, x], argTypes := #[t, t] }) (hty : o.type = ty) (hs : a.eval s = v) (hx : a.eval x = y) (hk : wpListIn F n Tryd.prog ops Q rest (a.put o.dst v') w1) : wpListIn F n Tryd.prog ops Q (o :: rest) a w := by
  subst hty
  refine wpListIn_plain hgd fun K hK => ?_
  unfold Oper.wpIn
  refine ⟨?_, ?_⟩
  · simp [Oper.about, ho, resolve, Target.leads, Sem.run_pure]
  · rw [Oper.semAt_plain F _ _ (by rw [ho]; intro c hc; cases hc)]
    simp [execOp, ho, resolve, invoke, builtin, hs, hx, h1, Result.andThen]
    exact hK _ _ hk

/-! ### The element of a round -/
/-- The record lies in a box of its own. -/
def elA (mk : Nat → Act) (x : El) (a' : Act) (W : World) : Prop :=
  ∃ b, a' = mk b ∧ W.heap[b]? = some (.cells #[.int .i64 x.1, .int .i64 x.2.addr, .slice x.2.A x.2.data.length x.2.cap] 78 (0, 0)) ∧ elE x W
theorem elE.grown {B : Nat} {x : El} {X Y : World} {row : Option Nat} (h : elE x X) (hg : X.grownBy Y row) (hr : ∀ r, row = some r → B ≤ r ∧ ∃ o : Obj, X.heap[r]? = some o ∧ o.isCells = false) : elE x Y := by
  refine ⟨((h.1.cells.blocks fun i hi hp => hg.block i hi fun e' => ?_).mono fun i hi hp => hi), h.2⟩
  obtain ⟨o, ho, hc⟩ := (hr i e'.symm).2
  obtain ⟨o', ho', hc'⟩ := hp.2
  rw [ho] at ho'; cases ho'; rw [hc] at hc'; cases hc'
theorem elA.own {B : Nat} (mk : Nat → Act) (x : El) : OwnFrom B (elA mk x) := by
  rintro a' X Y row ⟨b, h1, h2, h3⟩ hg hr
  refine ⟨b, h1, (hg.block b (Array.getElem?_eq_some_iff.1 h2).1 fun e => ?_).trans h2, h3.grown hg hr⟩
  obtain ⟨o, ho, hc⟩ := (hr b e.symm).2
  rw [h2] at ho; cases ho; cases hc
def elS (x : El) : ByteArray := printS x.1 x.2.addr x.2.data
def keyS (k : Int × Int × List UInt8) : ByteArray := printS k.1 k.2.1 k.2.2
theorem elS_key (x : El) : elS x = keyS (elK x) := rfl
theorem map_elS (ys : List El) : ys.map elS = (ys.map elK).map keyS := by rw [List.map_map]; rfl
theorem join_all {s : Nat} {V : List Im.Cel} (h1 : 1 ≤ s) (h2 : s ≤ 255) (hV : Im.SortedW V) : joinS ((allK s V).map keyS) = textW s V := by
  have e : ((allK s V).map keyS).map (fun s => s.data.toList) = linesW s V := by
    unfold allK linesW datK
    rw [List.map_append, List.map_append, List.map_map, List.map_map]
    congr 1
    refine List.map_congr_left fun p hp => ?_
    have hr := recs_right h1 h2 hV p hp
    show (printS 0 p.1 p.2).data.toList = printL 0 p.1 p.2
    unfold printS
    rw [hr, if_pos rfl, strOf_list]
  unfold joinS textW
  rw [e]
end Go.Proofs.YtmeegpdjhcilkaaDoor
/-
  The walk over hexwrite.Sized: for every image and size, the HEX text with records of that size, or nothing and false.
-/
namespace Go.Proofs.YtmeegpdjhcilkaaDoor
open Go.RowKit Go.Shelf
set_option linter.unusedVariables false
attribute [local go_sem] Oper.semAt_some

/-- What Sized returns. -/
def sizedS (n : Int) (V : List Im.Cel) : ByteArray := if 1 ≤ n ∧ n ≤ 255 then strOf (textW n.toNat V) else ⟨#[]⟩
def sizedB (n : Int) : Bool := decide (1 ≤ n ∧ n ≤ 255)
theorem ImgM.ptr {w : World} {m : Value} {V : List Im.Cel} (h : ImgM w m V) : m = .pointer none ∨ ∃ b, m = .pointer (some ⟨b, 0, none⟩) := by
  rcases h with ⟨h, _⟩ | ⟨b, h, _⟩
  · exact .inl h
  · exact .inr ⟨b, h⟩
set_option maxHeartbeats 4000000 in
theorem sized_any (sz : Int) (m : Value) (V : List Im.Cel) (w : World) (hm : ImgM w m V) :
    Calls Tryd.prog 12 #[.int .i64 sz, m] w fun e w' => e = .returned (.tuple #[.string (sizedS sz V), .bool (sizedB sz)]) ∧ Below w.heap.size w w' := by
  by_cases h1 : 1 ≤ sz ∧ sz ≤ 255
  case neg =>
    have N : Hid (sizedS sz V = ⟨#[]⟩) := by show _ = _; unfold sizedS; rw [if_neg h1]
    have N2 : Hid (sizedB sz = false) := decide_eq_false h1
    have f1 : fitsB 1 255 [sz] = false := by rw [fitsOne]; exact decide_eq_false h1
    clear h1
    go_enter Tryd.func12, Tryd.ntmps12
    go_wp2_with fail
    refine (fits_any 1 255 _ _ [sz] (by simp [maxLen]) _ (ints_one' _ _ (by simp) _ _)).mono ?_
    rintro e w' ⟨rfl, rfl⟩
    go_wp2
    go_ret2
    rw [N.out, N2.out]
    exact ⟨rfl, (Below.refl _ _).alloc (Nat.le_refl _) _⟩
  have f1 : fitsB 1 255 [sz] = true := by rw [fitsOne]; exact decide_eq_true h1
  obtain ⟨s, rfl⟩ : ∃ s : Nat, sz = (s : Int) := ⟨sz.toNat, by omega⟩
  have s1 : 1 ≤ s := by omega
  have s2 : s ≤ 255 := by omega
  have N : Hid (sizedS (s : Int) V = strOf (textW s V)) := by show _ = _; unfold sizedS; rw [if_pos h1]; rfl
  have N2 : Hid (sizedB (s : Int) = true) := decide_eq_true h1
  have M := Lib.hid hm
  have S1 := Lib.hid s1
  have S2 := Lib.hid s2
  clear h1 hm
  refine callsIn_wide.1 (callsIn_of_wp_marks (n := 3) Tryd.func12 rfl trivial ?_ rfl)
  simp only [Tryd.ntmps12, List.size_toArray, List.length_cons, List.length_nil, Nat.reduceAdd, Nat.reduceSub, Array.replicate_succ, Array.replicate_zero, List.push_toArray, List.append_toArray, List.nil_append, List.cons_append]
  refine wpIn_wide.2 ?_
  go_wp2_with fail
  refine (fits_any 1 255 _ _ [(s : Int)] (by simp [maxLen]) _ (ints_one' _ _ (by simp) _ _)).mono ?_
  rintro e w' ⟨rfl, rfl⟩
  go_wp2_with fail
  obtain ⟨wd, hwd⟩ : ∃ wd, (w.alloc (.cells #[.int .i64 (s : Int)] 3)).alloc (.cells #[.slice none 0 0] 43) = wd := ⟨_, rfl⟩
  have hdz : wd.heap.size = w.heap.size + 1 + 1 := by rw [← hwd]; simp
  have hdB : Below w.heap.size w wd := by rw [← hwd]; exact ((Below.refl _ _).alloc (Nat.le_refl _) _).alloc (by simp) _
  have hdl : Boxed wd (w.heap.size + 1) 43 (.slice none 0 0) := by
    have h := Boxed.new (w.alloc (.cells #[.int .i64 (s : Int)] 3)) 43 (.slice none 0 0)
    rw [hwd] at h
    simpa using h
  rw [hwd]
  clear hwd
  refine (records_any (s : Int) m M.out.ptr wd (w.heap.size + 1 + 1) hdz).mono ?_
  rintro e W0 ⟨rfl, hW0⟩
  have bs := (Boxed.new wd 3 (.int .i64 (s : Int))).alloc (.cells #[m] 23)
  have bm := Boxed.new (wd.alloc (.cells #[.int .i64 (s : Int)] 3)) 23 m
  have hdl1 := (hdl.alloc (.cells #[.int .i64 (s : Int)] 3)).alloc (.cells #[m] 23)
  have hB1 : Below w.heap.size w ((wd.alloc (.cells #[.int .i64 (s : Int)] 3)).alloc (.cells #[m] 23)) := (hdB.alloc hdB.size _).alloc (by simp; omega) _
  have hz1 : W0.heap.size = w.heap.size + 1 + 1 + 1 + 1 := by rw [← hW0]; simp; omega
  rw [hW0] at bs bm hdl1 hB1
  rw [hdz] at bs
  rw [show (wd.alloc (.cells #[.int .i64 (s : Int)] 3)).heap.size = w.heap.size + 1 + 1 + 1 by simp; omega] at bm
  have hmW := M.out.below hB1
  have hg := records1_gives 2 _ _ s s1 s2 V m W0 hmW bs bm
  have VS := Lib.hid hmW.sorted
  clear hW0 hdl hdB hdz f1
  go_wp2_with fail
  refine wpIn_wide.1 (Each.wpIn_each (F := Fence.wide) (n := 3) rfl (by omega) (gf := 67) (lb := #[.pointer (some ⟨w.heap.size + 1 + 1 + 1, 0, none⟩), .pointer (some ⟨w.heap.size + 1 + 1, 0, none⟩)]) rfl trivial (enters_of Tryd.func67 (by kernel_rfl) rfl)
    hg (fun h k => h.trans k) (fun W l o o' hl ho hc => KeptO.putObj W l o o' ho fun hq => by
      rcases hq with hq | hq
      · omega
      · exact rowT_cells hc hq) (fun _ => rfl)
    (fun pre W => SI W0 (w.heap.size + 1) (w.heap.size + 1 + 1 + 1 + 1) (pre.map elS) W) (fun pre X Y row h hg hr => h.grown (B := W0.heap.size) (by omega) hg hr) ?start
    (fun x => elA (fun b => { tmps := #[.int .i64 (s : Int), m, undef, undef, .string ⟨#[]⟩, .bool false, .pointer (some ⟨w.heap.size + 1, 0, none⟩), .pointer (some ⟨b, 0, none⟩), undef, undef, .int .i64 (s : Int), .slice (some ⟨w.heap.size, 0, none⟩) 1 1, .bool true, .bool false, .int .i64 (s : Int), m, .func (.func 67) #[] #[.pointer (some ⟨w.heap.size + 1 + 1 + 1, 0, none⟩), .pointer (some ⟨w.heap.size + 1 + 1, 0, none⟩)], elV x, undef, undef, undef, undef, undef, undef, undef, undef, undef, undef, undef], defers := [] }) x) (fun x => elA.own _ x) ?assign ?body ?done)
  case start => exact ⟨_, hdl1, World.ownsRow_nil _ _ _ _, KeptP.refl _ _⟩
  case assign =>
    intro l pre x W K hI hE hK
    simp only [elV] at hK ⊢
    gi_wp2
    have al : Below W.heap.size W (W.alloc (.cells #[.int .i64 x.1, .int .i64 x.2.addr, .slice x.2.A x.2.data.length x.2.cap] 78)) := (Below.refl _ _).alloc (Nat.le_refl _) _
    exact hK _ _ ((keepsOthers_of_below al).from _) (KeptO.of_all al) (SI.below hI al) ⟨_, rfl, heap_alloc_new W _, (hE.1.below al).mono fun i hi _ => hi, hE.2⟩
  case body =>
    rintro l pre x a' W hI ⟨b, rfl, hb, hE⟩ hlt
    simp only [elV]
    obtain ⟨v, a1, a2, a3⟩ := hI
    have c0 : W.cell? ⟨b, 0, none⟩ = some (.int .i64 x.1) := by rw [Lib.cell_of_heap hb]; rfl
    have c1 : W.cell? ⟨b, 1, none⟩ = some (.int .i64 x.2.addr) := by rw [Lib.cell_of_heap hb]; rfl
    have c2 : W.cell? ⟨b, 2, none⟩ = some (.slice x.2.A x.2.data.length x.2.cap) := by rw [Lib.cell_of_heap hb]; rfl
    have hpr := print_any x.1 x.2.addr x.2.A x.2.cap x.2.data (Nat.le_trans hE.2 (by unfold maxLen; omega)) W hE.1
    have hpl : (pre.map elS).length ≤ 1099511627776 := by
      have h1 := recs_length s1 s2 VS.out
      have h2 := Im.sorted_length VS.out
      rw [List.length_map]
      omega
    have hsv : ∀ g, v.ownBlock = some g → g ≠ w.heap.size + 1 + 1 := fun g hg e => by
      have := (a2.lt g hg).1
      omega
    obtain ⟨str, hstr⟩ : ∃ str, printS x.1 x.2.addr x.2.data = str := ⟨_, rfl⟩
    rw [hstr] at hpr
    have HS := Lib.hid hstr
    have FF := fun w2 hb2 => Lib.hid (SI.step (w0 := W0) (bl := w.heap.size + 1) (nB := w.heap.size + 1 + 1 + 1 + 1) (Bs := w.heap.size + 1 + 1) (by omega) (by omega) (by omega) hpl a1 a2 a3 hsv (w2 := w2) hb2 str 43)
    clear hb hE a1 a2 a3 hlt hpl hsv hstr bs bm hdl1 hB1 hmW hg
    gi_wp2_with fail
    refine ⟨trivial, CallsIn.inRound l (callsIn_wide.2 (hpr.mono ?_))⟩
    rintro e w2 ⟨rfl, hb2⟩
    obtain ⟨g, cap', w4, k1, k2, k3, k4, k5, k6⟩ := (FF w2 hb2).out
    have K1 := Lib.hid k1
    have K6 := Lib.hid (And.intro k4 (And.intro k5 k6))
    have t1 := k2.cell
    have t2 := k3.cell
    have t3 := k3.frozen
    clear k1 k2 k3 k4 k5 k6 hb2 FF hpr c0 c1 c2
    gi_wp2_with (gi_at_builtin; refine wpListIn_run_append K1.out rfl _ _ rfl rfl rfl rfl ?_)
    obtain ⟨q1, q2, q3⟩ := K6.out
    simp only [List.length_map] at q1 q2 q3
    refine ⟨q1 _, q2, ?_⟩
    rw [List.map_append]
    have e : elS x = str := HS.out
    show SI _ _ _ (pre.map elS ++ [elS x]) _
    rw [e]
    exact q3
  case done =>
    rintro D ys W hD hys hI hK
    obtain ⟨A, cap, hc, hX⟩ := SI.strs hI
    obtain ⟨v0, -, -, hkp⟩ := hI
    have hjs : joinS (ys.map elS) = textW s V := by rw [map_elS, hys, join_all s1 s2 VS.out]
    have hyl : (ys.map elS).length ≤ 100000 := by
      have h0 := congrArg List.length hys
      rw [List.length_map, allK_length] at h0
      have h1 := recs_length s1 s2 VS.out
      have h2 := Im.sorted_length VS.out
      rw [List.length_map]
      omega
    have hj := join_any _ A cap (ys.map elS) (by unfold maxLen; omega) (by rw [hjs]; exact Nat.le_trans (text_le s1 s2 VS.out) (by omega)) W hX
    rw [hjs, ← N.out] at hj
    have q1 : Below w.heap.size W0 W := hkp.below (fun i hi => ⟨by omega, by omega⟩) hB1.size
    have F : ∀ W', Below W.heap.size W W' → Hid (W'.heap[D]? = some (.deferred (some [])) ∧ Below w.heap.size w (W'.putObj D (.deferred none))) := fun W' hb => by
      have hD2 : W'.heap[D]? = some (.deferred (some [])) := (hb.block D (Array.getElem?_eq_some_iff.1 hK).1).trans hK
      have q2 : Below w.heap.size w W' := (hB1.trans q1).trans (hb.mono (Nat.le_trans hB1.size q1.size))
      exact ⟨hD2, q2.trans (belowK_b (w := w) (Nat.le_refl _) W' D _ _ (by omega) hD2 rfl rfl)⟩
    obtain ⟨n, hn⟩ : ∃ n, (ys.map elS).length = n := ⟨_, rfl⟩
    rw [hn] at hj hc
    clear hX hkp hjs hyl hn hB1 q1 hys hD hK bs bm hdl1 hmW hg
    go_wp2_with fail
    refine hj.mono ?_
    rintro e W' ⟨rfl, hb⟩
    obtain ⟨f1, f2⟩ := (F W' hb).out
    have F1 := Lib.hid f1
    have F2 := Lib.hid f2
    clear hj hb F f1 f2
    go_wp2
    refine ⟨by simp, .inl ⟨_, _, rfl, run_takeDeferred F1.out, ?_⟩⟩
    refine ⟨_, results_tmp2 rfl _ _ _, ?_⟩
    rw [N2.out]
    exact ⟨rfl, F2.out⟩
end Go.Proofs.YtmeegpdjhcilkaaDoor
/-
  The walks over hexwrite.Write and Lines: the HEX text of every image, and the number of its lines.
-/
namespace Go.Proofs.YtmeegpdjhcilkaaDoor
open Go.RowKit Go.Shelf
set_option linter.unusedVariables false
attribute [local go_sem] Oper.semAt_some

set_option maxHeartbeats 1000000 in
theorem write_any (m : Value) (V : List Im.Cel) (w : World) (hm : ImgM w m V) :
    Calls Tryd.prog 11 #[m] w fun e w' => e = .returned (.string (strOf (textW 16 V))) ∧ Below w.heap.size w w' := by
  have hs := sized_any 16 m V w hm
  have e1 : sizedS 16 V = strOf (textW 16 V) := by unfold sizedS; rw [if_pos (by omega)]; rfl
  rw [e1] at hs
  clear hm e1
  go_enter Tryd.func11, Tryd.ntmps11
  go_wp2_with fail
  refine hs.mono ?_
  rintro e w' ⟨rfl, hb⟩
  have N := Lib.hid hb
  clear hb hs
  go_wp2
  go_ret
  exact ⟨rfl, N.out⟩

theorem intT : ¬ ((3 : TypeId) = 5 ∨ (3 : TypeId) = 91 ∨ (3 : TypeId) = 78) := by decide
/-- Box bn holds the number of what has come. -/
def LI (w0 : World) (bn nB : Nat) (k : Nat) (W : World) : Prop := Boxed W bn 3 (.int .i64 k) ∧ KeptP (fun i => i < nB ∧ i ≠ bn) w0 W
theorem LI.grown {w0 : World} {bn nB B : Nat} {k : Nat} {X Y : World} {row : Option Nat} (h : LI w0 bn nB k X) (hB : nB ≤ B) (hg : X.grownBy Y row) (hr : ∀ r, row = some r → B ≤ r ∧ ∃ o : Obj, X.heap[r]? = some o ∧ o.isCells = false) : LI w0 bn nB k Y := by
  obtain ⟨a1, a3⟩ := h
  refine ⟨?_, a3.grown hg fun k e hk => by have := (hr k e).1; omega⟩
  exact a1.kept hg fun e => by
    obtain ⟨o, ho, hc⟩ := (hr bn e.symm).2
    rw [show X.heap[bn]? = _ from a1] at ho; cases ho; cases hc
end Go.Proofs.YtmeegpdjhcilkaaDoor
