/-
  The iterator over the codes of a list: every opcode with its first pattern, in ascending order.
-/
import Derived.Test.YtipgecdfnbldnaaGreatDoorMCoC
import Derived.Test.YtipgecdfnbldnaaGreatDoorMCoA
import Derived.Test.YtipgecdfnbldnaaGreatDoorMLpA
import Derived.Test.YtipgecdfnbldnaaGreatDoorMLpB
import Derived.Test.YtipgecdfnbldnaaGreatDoorTaB
import Derived.Test.YtipgecdfnbldnaaGreatDoorTaG
import Derived.RangeFuncKeeps
set_option linter.all false
set_option maxRecDepth 100000
set_option maxHeartbeats 4000000
namespace Go.Proofs.YtipgecdfnbldnaaGreatDoor
open Go.RowKit Go.Shelf
attribute [local go_sem] Oper.semAt_some
def KeepD (W W' : World) : Prop := ∀ (D : Nat) (o : Option (List Deferred)), W.heap[D]? = some (.deferred o) → W'.heap[D]? = some (.deferred o)
theorem KeepD.trans {A B C : World} (h : KeepD A B) (k : KeepD B C) : KeepD A C := fun D o e => k D o (h D o e)
theorem KeepD.below {W W' : World} (h : Below W.heap.size W W') : KeepD W W' := fun D o e => (h.block D (Array.getElem?_eq_some_iff.1 e).1).trans e
def IsCode (ps : List Pat) (x : Pat × Int) : Prop := fstF ps x.2.toNat = x.1 ∧ x.1.1 ≠ [] ∧ 0 ≤ x.2 ∧ x.2 < 256
theorem isCode_of {ps : List Pat} {k : Nat} (hk : k < 256) (h : (fstF ps k).1 ≠ []) : IsCode ps (fstF ps k, (k : Int)) := ⟨rfl, h, by simp, by simp; omega⟩
theorem sB_nil_eq (l : Str) : (sB l).toList.isEmpty = l.isEmpty := by
  rw [ByteArray.toList_eq]
  cases l <;> rfl
theorem grown_set2 (X : World) (b i j : Nat) (u v : Value) : X.grownBy ((X.setCell ⟨b, i, none⟩ u).setCell ⟨b, j, none⟩ v) (some b) :=
  ⟨rfl, rfl, rfl, by simp, fun k hk e => (heap_setCell_other _ ⟨b, j, none⟩ k v (by simpa using e)).trans (heap_setCell_other _ ⟨b, i, none⟩ k u (by simpa using e))⟩
theorem loadR {P : Program} {w : World} {t : TypeId} {x : Operand} {p v : Value} {ops : Array Oper} {rest : List Oper} {o : Oper} {a : Act} {Q : Exit → Act → World → Prop} (h1 : (Instr.loadAt t p).run P w = .ok v w) (hgd : o.guard = none)
    (ho : o.op = .load t x) (hx : a.eval x = p) (hk : wpList P ops Q rest (a.put o.dst v) w) : wpList P ops Q (o :: rest) a w := by
  refine wpList_plain hgd fun K hK => ?_
  unfold Oper.wp
  simp [execOp, ho, hx, h1, Result.andThen]
  exact hK _ _ hk
theorem fst_pre {ps pre : List Pat} {x : Pat} (hps : ∀ p ∈ ps, p ∈ mainP ++ cbP ++ edP) (h : pre ++ [x] <+: ps) : x ∈ mainP ++ cbP ++ edP ∧ ∀ q ∈ pre, q ∈ mainP ++ cbP ++ edP :=
  ⟨hps _ (h.subset (by simp)), fun q hq => hps _ (h.subset (List.mem_append_left _ hq))⟩
def InvO (n0 : Nat) (W : World) (pre : List Pat) (X : World) : Prop := Below n0 W X ∧ n0 + 2 ≤ X.heap.size ∧ RowF X n0 (fstF pre)
theorem InvO.own {n0 : Nat} {W X Y : World} {pre : List Pat} {row : Option Nat} (h : InvO n0 W pre X) (hg : X.grownBy Y row) (hr : ∀ r, row = some r → n0 + 1 ≤ r) : InvO n0 W pre Y :=
  ⟨h.1.grown hg (by have := h.2.1; omega) fun r e => by have := hr r e; omega, Nat.le_trans h.2.1 hg.size, h.2.2.block (hg.block n0 h.2.2.lt fun e => by have := hr _ e.symm; omega)⟩
theorem codesK_len (ps : List Pat) : ∀ k, (codesK ps k).length ≤ k
  | 0 => Nat.le_refl _
  | k + 1 => by
    have h := codesK_len ps k
    unfold codesK
    split
    · omega
    · rw [List.length_append]; simp; omega
theorem codes1_gives (n : Nat) (Bs : Nat) (l : Str) (hl : l.length ≤ 100000) (hps : ∀ p ∈ patsOf l, p ∈ mainP ++ cbP ++ edP) (w : World) (hs : Boxed w Bs 9 (.string (sB l))) (hM : MaxAt w) :
    Each.GivesO Fence.wide n Tryz.prog 97 #[.pointer (some ⟨Bs, 0, none⟩)] (fun x : Pat × Int => #[codeV x.1 x.2]) (fun x _ => IsCode (patsOf l) x) KeepD (fun xs => xs = codesK (patsOf l) 256) 256 w := fun lp J W hW hJ hY h0 => by
  have hJb : ∀ (z : List (Pat × Int)) (X Y : World), J z X → Below X.heap.size X Y → J z Y := fun z X Y h hb => hJ z X Y none h ⟨hb.os, hb.tape, hb.output, hb.size, fun i hi _ => hb.block i hi⟩ (fun r e => by cases e)
  have kb : Boxed W Bs 9 (.string (sB l)) := (hW.block Bs hs.lt).trans hs
  have hM1 : MaxAt W := hM.below hW
  obtain ⟨n0, hn⟩ : ∃ z, W.heap.size = z := ⟨_, rfl⟩
  have hgn : 0 < n0 := by rw [← hn]; exact hM1.lt
  have hz := zero_row W
  obtain ⟨w0, hw0⟩ : ∃ w0, W.alloc (.cells (Array.replicate 512 (.string ⟨#[]⟩)) 139) = w0 := ⟨_, rfl⟩
  have R0 : RowF w0 n0 (fstF []) := by rw [← hw0, ← hn]; exact new_row W
  have b0 : Below n0 W w0 := by rw [← hw0, ← hn]; exact (Below.refl _ _).alloc (Nat.le_refl _) _
  have z0 : w0.heap.size = n0 + 1 := by rw [← hw0, ← hn]; simp
  have kb0 : Boxed w0 Bs 9 (.string (sB l)) := by rw [← hw0]; exact kb.alloc _
  have p0 := kb0.cell
  have hM0 : MaxAt w0 := hM1.below (by rw [hn]; exact b0)
  have hpt := patterns_any l w0
  rw [z0] at hpt
  have HY := Lib.hid hY
  have HJb := Lib.hid hJb
  have HJd : Hid (∀ (z : List (Pat × Int)) (X : World) (D : Nat) (o : Option (List Deferred)), J z X → n0 ≤ D → X.heap[D]? = some (.deferred o) → J z (X.putObj D (.deferred none))) := fun z X D o h hD hX => hJ z X _ (some D) h (grownBy_putObj' X D _) (fun r e => by cases e; exact ⟨by omega, _, hX, rfl⟩)
  have J0 := Lib.hid h0
  have HPS := Lib.hid hps
  have hn0 := Lib.hid hn
  clear h0 hY hJb hJ hW hM hs kb hM1 kb0
  refine callsIn_wide.2 (callsIn_wide.1 (callsIn_of_wp_marks (n := 6) Tryz.func97 rfl trivial ?_ rfl))
  simp only [Tryz.ntmps97, List.size_toArray, List.length_cons, List.length_nil, Nat.reduceAdd, Nat.reduceSub, Array.replicate_succ, Array.replicate_zero, List.push_toArray, List.append_toArray, List.nil_append, List.cons_append]
  refine wpIn_wide.2 ?_
  go_wp2_with fail
  refine hpt.mono ?_
  rintro e W0 ⟨rfl, hW0⟩
  have hs1 : Boxed W0 (n0 + 1) 9 (.string (sB l)) := by
    have h := Boxed.new w0 9 (.string (sB l))
    rw [hW0, z0] at h
    exact h
  have zW : W0.heap.size = n0 + 1 + 1 := by rw [← hW0]; simp; omega
  have bW : Below w0.heap.size w0 W0 := by rw [← hW0]; exact (Below.refl _ _).alloc (Nat.le_refl _) _
  have bN : Below n0 W W0 := b0.trans (bW.mono (by omega))
  have R1 : RowF W0 n0 (fstF []) := R0.block (bW.block n0 (by omega))
  have hMW : MaxAt W0 := hM0.below bW
  have hseq := patterns1_tells 5 (n0 + 1) l hl W0 hs1 hMW
  have HM := Lib.hid hMW
  have I0 : Hid (InvO n0 W [] W0) := ⟨bN, by omega, R1⟩
  clear R0 b0 p0 hM0 hpt hs1 bW bN R1 hMW hw0 hW0 z0 hz hl w0
  go_wp2_with fail
  refine wpIn_wide.1 (Stops.wpIn_tellsH (F := Fence.wide) (n := 6) rfl (by omega) (gf := 77) (lb := #[.pointer (some ⟨n0 + 1, 0, none⟩)]) rfl trivial (enters_of Tryz.func77 (by kernel_rfl) rfl)
    hseq (by omega) (fun h k => h.trans k) (fun W l o o' hl _ _ => keepM_put HM.out W l o' (by omega)) (fun _ => rfl)
    (InvO n0 W) (fun _ _ => False)
    (fun s X Y row h hg hr => h.own hg fun r e => by have := (hr r e).1; omega)
    (fun s X Y h hg => h.own hg fun r e => by cases e; omega)
    (fun s X Y row h hg hr => h.elim)
    I0.out
    (fun x a' W1 => ∃ b, n0 + 2 ≤ b ∧ W1.heap[b]? = some (.cells #[.string (sB x.1), .string (sB x.2)] 56 (0, 0)) ∧ a' = { tmps := #[.func (.yield lp) #[] #[], .pointer (some ⟨Bs, 0, none⟩), undef, .pointer (some ⟨n0, 0, none⟩), .pointer (some ⟨b, 0, none⟩), undef, undef, undef, .string (sB l), .func (.func 77) #[] #[.pointer (some ⟨n0 + 1, 0, none⟩)], .agg #[.string (sB x.1), .string (sB x.2)], undef, undef, undef, undef, undef, undef, undef, undef, undef, undef, undef, undef, undef, undef, undef, undef, undef, undef, undef, undef, undef, undef, undef, undef, undef, undef, undef, undef, undef], defers := [] })
    (fun x s X Y row h hg hr => by
      obtain ⟨b, h1, h2, h3⟩ := h
      exact ⟨b, h1, (grownBy_keeps_cells hg (fun r e => (hr r e).2) h2 rfl).trans h2, h3⟩)
    ?assign ?body ?done (fun _ _ _ _ h => h.elim))
  case assign =>
    rintro lq pre x W1 K hI hE hK
    have hsz := hI.2.1
    gi_wp2
    refine hK _ _ ((KeepsOthers.alloc _ _).from _) (keepM_below ((Below.refl n0 W1).alloc (by omega) _) hgn) ⟨hI.1.alloc (by omega) _, by simp; omega, World.rowIs.alloc hI.2.2 _⟩ ⟨W1.heap.size, by omega, World.alloc_heap_new W1 _, rfl⟩
  case body =>
    rintro lq pre x a' W1 hlq ⟨r1, hr1⟩ hI ⟨b, hb, hc, rfl⟩ hpre
    have HP := Lib.hid (fst_pre HPS.out hpre)
    have hmem := HP.out.1
    have hfit := ops_fit x hmem
    have h8 := (pats_small x hmem).1
    have q0 := Lib.cell_of_heap hc 0
    have q1 := Lib.cell_of_heap hc 1
    have HC := Lib.hid hc
    have HI := Lib.hid hI
    have hi8 := opcodes_gives 3 x h8 hfit.1 W1
    have hbl : b < W1.heap.size := (Array.getElem?_eq_some_iff.1 hc).1
    have hW1 : n0 + 2 ≤ W1.heap.size := hI.2.1
    have HR := Lib.hid hr1
    have HE := Lib.hid hpre
    clear hfit h8 hmem hc hI hpre hr1
    gi_wp2_with fail
    refine Each.wpIn_eachN (F := Fence.wide.inRound lq) (n := 6 - 1 - 1) rfl HR.out (by omega) (gf := 98) (ba := #[.agg #[.string (sB x.1), .string (sB x.2)]]) (lb := #[]) rfl trivial (enters_of Tryz.func98 (by kernel_rfl) rfl)
      (N := 256) (fun lp2 J2 W2 h1 h2 h3 h4 => (hi8 lp2 J2 W2 h1 h2 h3 h4).inRound lq) (fun _ _ => trivial) (fun _ _ _ _ _ _ _ => trivial) (fun _ => rfl)
      (fun xs X => W1.grownBy X (some n0) ∧ RowF X n0 (mkF pre x xs))
      (fun s X Y row h hg hr => ⟨h.1.andThen hg fun j e => .inl (hr j e).1, h.2.block (hg.block n0 h.2.lt fun e => by have := (hr _ e.symm).1; omega)⟩)
      ⟨World.grownBy.refl _ _, HI.out.2.2.congr fun i _ => (mkF_nil pre x i).symm⟩
      (fun y a' X => (0 ≤ y ∧ y ≤ 255) ∧ a' = { tmps := #[.func (.yield lp) #[] #[], .pointer (some ⟨Bs, 0, none⟩), undef, .pointer (some ⟨n0, 0, none⟩), .pointer (some ⟨b, 0, none⟩), .int .u8 y, undef, undef, .string (sB l), .func (.func 77) #[] #[.pointer (some ⟨n0 + 1, 0, none⟩)], .agg #[.string (sB x.1), .string (sB x.2)], .agg #[.string (sB x.1), .string (sB x.2)], .func (.func 98) #[.agg #[.string (sB x.1), .string (sB x.2)]] #[], .int .u8 y, undef, undef, undef, undef, undef, undef, undef, undef, undef, undef, undef, undef, undef, undef, undef, undef, undef, undef, undef, undef, undef, undef, undef, undef, undef, undef], defers := [] })
      (fun x s X Y row h hg hr => h)
      ?assign2 ?body2 ?done2
    case assign2 =>
      rintro lr xs y X K hX hy hK
      gi_wp2
      exact hK _ _ (KeepsFrom.refl _ _) trivial hX ⟨hy, rfl⟩
    case body2 =>
      rintro lr xs y a' X ⟨g1, g2⟩ ⟨⟨y0, y1⟩, rfl⟩ hlen
      obtain ⟨yn, rfl⟩ : ∃ z : Nat, y = (z : Int) := ⟨y.toNat, by omega⟩
      have hyn : yn < 256 := by omega
      have e0 := g2.c0 hyn
      have f0 := World.rowIs.frozen g2 (yn * 2)
      have f1 := World.rowIs.frozen g2 (yn * 2 + 1)
      have e1 := g2.c1 hyn
      have HCX := (g1.block b hbl (by simp; omega)).trans HC.out
      have k0 := Lib.cell_of_heap HCX 0
      have k1 := Lib.cell_of_heap HCX 1
      have hem := sB_nil_eq (mkF pre x xs yn).1
      have G1 := Lib.hid g1
      have G2 := Lib.hid g2
      have bne : b ≠ n0 := by omega
      have KF : Hid (∀ Z, W1.grownBy Z (some n0) → X.grownBy Z (some n0) → KeepsFrom W1.heap.size X Z) := fun Z h1 h2 => ⟨h2.size, fun k o hk hk2 _ => (h2.block k (Array.getElem?_eq_some_iff.1 hk2).1 (by simp; omega)).trans hk2⟩
      clear g1 g2 HCX y0 y1 hlen
      by_cases hemp : (mkF pre x xs yn).1 = []
      · rw [hemp] at hem e0
        rw [List.isEmpty_nil] at hem
        have P : Hid (RowF ((X.setCell ⟨n0, yn * 2, none⟩ (.string (sB x.1))).setCell ⟨n0, yn * 2 + 1, none⟩ (.string (sB x.2))) n0 (mkF pre x (xs ++ [(yn : Int)]))) :=
          (G2.out.put yn x).congr fun i hi => (mkF_put pre x xs yn hemp i).symm
        clear hemp
        gi_wp2
        have hg : X.grownBy ((X.setCell ⟨n0, yn * 2, none⟩ (.string (sB x.1))).setCell ⟨n0, yn * 2 + 1, none⟩ (.string (sB x.2))) (some n0) := grown_set2 _ _ _ _ _ _
        exact ⟨KF.out _ (G1.out.trans hg) hg, trivial, G1.out.trans hg, P.out⟩
      · rw [List.isEmpty_eq_false_iff.2 hemp] at hem
        have P : Hid (RowF X n0 (mkF pre x (xs ++ [(yn : Int)]))) := G2.out.congr fun i hi => (mkF_skip pre x xs yn hemp i).symm
        clear hemp
        gi_wp2
        exact ⟨KF.out _ G1.out (World.grownBy.refl _ _), trivial, G1.out, P.out⟩
    case done2 =>
      rintro xs X hxs ⟨g1, g2⟩
      rw [show xs = opsP x from hxs] at g2
      have P : InvO n0 W (pre ++ [x]) X := ⟨HI.out.1.trans ((Below.refl n0 W1).grown g1 (by omega) fun r e => by cases e; omega), by have := g1.size; omega, g2.congr fun i hi => fst_snoc pre x HP.out.1 HP.out.2 i hi⟩
      have Q : KeepsFrom (n0 + 2) W1 X := ⟨g1.size, fun k o hk hk2 _ => (g1.block k (Array.getElem?_eq_some_iff.1 hk2).1 (by simp; omega)).trans hk2⟩
      have M : KeepM W1 X := World.cell?_of_block (g1.block _ (by show 0 < _; omega) (by simp; omega))
      have PQ := Lib.hid (And.intro Q (And.intro M P))
      clear g1 g2 P Q M
      gi_wp2
      rw [show W0.heap.size = n0 + 2 by omega]
      exact PQ.out
  case done =>
    rintro D xs W2 hD hxs hI hK
    rw [show xs = patsOf l from hxs] at hI
    have hld := load_row hI.2.2
    have J2 := Lib.hid (HJb.out _ _ _ J0.out (by rw [hn]; exact hI.1))
    have DK := Lib.hid hK
    have HD : Hid (n0 + 2 ≤ D) := by show _ ≤ _; omega
    have HI := Lib.hid hI
    obtain ⟨f, hf⟩ : ∃ f, fstF (patsOf l) = f := ⟨_, rfl⟩
    have HF := Lib.hid hf
    rw [hf] at hld
    clear hK hD hI hxs hf hseq HM
    go_wp2_with (refine loadR hld rfl rfl rfl ?_)
    go_loopw [23] (fun r wr => ∃ j : Nat, r = .int .i64 (j : Int) ∧ j ≤ 256 ∧ Hid (J (codesK (patsOf l) j) wr) ∧ Hid (wr.heap[D]? = some (.deferred (some [])))) (fun r _ => 256 - (intOf r).toNat)
    case atStart => exact ⟨0, rfl, by omega, J2.out, DK.out⟩
    case round =>
      clear J2 DK hld
      obtain ⟨j, rfl, hj, JJ, DD⟩ := hrel
      by_cases hj2 : j = 256
      · subst hj2
        clear hj
        go_wp2
        refine ⟨by simp, .inl ⟨_, _, rfl, run_takeDeferred DD.out, ?_⟩⟩
        refine ⟨.tuple #[], by simp [results, Tryz.results97, go_sem], ⟨_, rfl⟩, _, rfl, HJd.out _ _ _ _ JJ.out (by have := HD.out; omega) DD.out⟩
      · have hj3 : j < 256 := by omega
        have hij : (j : Int) < 256 := by omega
        have hix := index_row f j hj3
        have hwr : IntKind.u8.wrap (j : Int) = (j : Int) := by show (j : Int) % 256 = _; omega
        have hem := sB_nil_eq (f j).1
        have HJ3 := Lib.hid hj3
        clear hj2 hj hj3
        by_cases hemp : (f j).1 = []
        · rw [hemp] at hem hix
          rw [List.isEmpty_nil] at hem
          have P : Hid (codesK (patsOf l) (j + 1) = codesK (patsOf l) j) := by
            show codesK _ (j + 1) = _
            rw [codesK, HF.out, if_pos hemp]
          clear hemp
          go_wp2
          refine ⟨⟨j + 1, by simp, by have := HJ3.out; omega, ?_, (Below.heap_alloc _ _ _ (Array.getElem?_eq_some_iff.1 DD.out).1).trans DD.out⟩, ?_⟩
          · show J _ _
            rw [P.out]
            exact HJb.out _ _ _ JJ.out ((Below.refl _ _).alloc (Nat.le_refl _) _)
          · show 256 - ((j : Int) + 1).toNat < 256 - (j : Int).toNat
            have := HJ3.out
            omega
        · rw [List.isEmpty_eq_false_iff.2 hemp] at hem
          have P : Hid (codesK (patsOf l) (j + 1) = codesK (patsOf l) j ++ [(f j, (j : Int))]) := by
            show codesK _ (j + 1) = _
            rw [codesK, HF.out, if_neg hemp]
          have IC : Hid (IsCode (patsOf l) (f j, (j : Int))) := by
            have h := isCode_of (ps := patsOf l) HJ3.out (by rw [HF.out]; exact hemp)
            rw [HF.out] at h
            exact h
          obtain ⟨wa, hwa⟩ : ∃ wa, wr.alloc (.cells #[.string (sB (f j).1), .string (sB (f j).2)] 56) = wa := ⟨_, rfl⟩
          have hca : wa.heap[wr.heap.size]? = some (.cells #[.string (sB (f j).1), .string (sB (f j).2)] 56 (0, 0)) := by rw [← hwa]; exact World.alloc_heap_new wr _
          have q0 := Lib.cell_of_heap hca 0
          have q1 := Lib.cell_of_heap hca 1
          have DA : Hid (wa.heap[D]? = some (.deferred (some []))) := by rw [← hwa]; exact (Below.heap_alloc _ _ _ (Array.getElem?_eq_some_iff.1 DD.out).1).trans DD.out
          have hyd := HY.out (codesK (patsOf l) j) (f j, (j : Int)) wa (by rw [← hwa]; exact HJb.out _ _ _ JJ.out ((Below.refl _ _).alloc (Nat.le_refl _) _)) IC.out (Nat.lt_of_le_of_lt (codesK_len _ _) HJ3.out)
          obtain ⟨fn, tmps, assign, body, hy, hR⟩ := hyd
          simp only [codeV] at hy
          clear hemp IC JJ DD hca
          go_upto_region 10 with fail
          refine (wpIn_wide (n := n)).1 ?_
          gi_wp2
          refine ⟨fun h => (by cases h), hR.mono ?_⟩
          rintro e3 W3 ⟨rfl, hJ3, hk3⟩
          have J3 := Lib.hid hJ3
          have D3 := Lib.hid (hk3 D _ DA.out)
          clear hJ3 hk3 hR hy
          gi_wp2
          go_wp2
          refine ⟨⟨j + 1, by simp, by have := HJ3.out; omega, ?_, D3.out⟩, ?_⟩
          · show J _ _
            rw [P.out]
            exact J3.out
          · show 256 - ((j : Int) + 1).toNat < 256 - (j : Int).toNat
            have := HJ3.out
            omega
end Go.Proofs.YtipgecdfnbldnaaGreatDoor
