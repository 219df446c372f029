/-
  Two images compared by '=='; the walk over image.Same.
-/
import Derived.Test.YtllfebekanafhaaImgI
namespace Go.Proofs.Ytllfebekanafhaa
open Go.RowKit
set_option linter.unusedVariables false

theorem equalIn_arr {w : World} (d : Nat) (t e : TypeId) (n : Nat) (ht : Try.prog.underlying t = some (.array n e)) (hsz : ∀ w, (sizeOf e).run Try.prog w = .ok 1 w) (hagg : ∀ w, (isAgg e).run Try.prog w = .ok false w) (xs ys : Array Value) (f : Nat → Bool)
    (hf : ∀ i, i < n → ∃ a b, xs[i]? = some a ∧ ys[i]? = some b ∧ (Op.equalIn d e a b).run Try.prog w = .ok (f i) w) :
    (Op.equalIn (d + 1) t (.agg xs) (.agg ys)).run Try.prog w = .ok ((List.range n).all f) w := by
  rw [List.range_eq_range', Op.equalIn]
  simp only [Sem.run_bind, run_underlying ht, Result.andThen_ok, hsz, Std.Legacy.Range.forIn_eq_forIn_range', Std.Legacy.Range.size, Nat.sub_zero, Nat.add_sub_cancel, Nat.div_one]
  have hl : ∀ i ∈ List.range' 0 n 1, i < n := fun i hi => by simpa using (List.mem_range'_1.1 hi).2
  generalize List.range' 0 n 1 = l at hl ⊢
  induction l with
  | nil => simp
  | cons i l ih =>
    obtain ⟨a, b, h1, h2, h3⟩ := hf i (hl i (by simp))
    have px : (part e xs (i * 1)).run Try.prog w = .ok a w := by simp [part, hagg, h1]
    have py : (part e ys (i * 1)).run Try.prog w = .ok b w := by simp [part, hagg, h2]
    simp only [List.forIn_cons, Sem.run_bind, px, py, h3, Result.andThen_ok, List.all_cons]
    cases hb : f i
    · simp
    · simp only [Bool.not_true, Bool.false_eq_true, if_false, Sem.run_pure, Result.andThen_ok, Bool.true_and]
      exact ih fun j hj => hl j (by simp [hj])
/-- Have two images the same cells? -/
def imgEq (H : Nat → Bool) (n : Int) (D : Nat → UInt8) (H' : Nat → Bool) (n' : Int) (D' : Nat → UInt8) : Bool :=
  ((List.range 65536).all (fun i => H i == H' i) && (n == n')) && (List.range 65536).all (fun i => ((D i).toNat : Int) == ((D' i).toNat : Int))
theorem fields_img : Try.prog.underlying 62 = some (.struct (Try.prog.fieldsOf 62)) ∧ (Try.prog.fieldsOf 62).toList.map (fun f => (f.name, f.type, f.offset)) = [("addresses", 59, 0), ("bytes", 60, 65537)] := by
  unfold Program.fieldsOf
  rw [Try.underlying62]
  exact ⟨rfl, rfl⟩
theorem fields_adr : Try.prog.underlying 59 = some (.struct (Try.prog.fieldsOf 59)) ∧ (Try.prog.fieldsOf 59).toList.map (fun f => (f.name, f.type, f.offset)) = [("in", 57, 0), ("count", 3, 65536)] := by
  unfold Program.fieldsOf
  rw [Try.underlying59]
  exact ⟨rfl, rfl⟩
theorem eqFields_two {w : World} (d : Nat) (xs ys : Array Value) (fs : List Field) (n1 n2 : String) (t1 t2 o1 o2 : Nat) (h1 : n1 ≠ "_") (h2 : n2 ≠ "_") (hf : fs.map (fun f => (f.name, f.type, f.offset)) = [(n1, t1, o1), (n2, t2, o2)]) (a b c e : Value) (x y : Bool)
    (pa : (part t1 xs o1).run Try.prog w = .ok a w) (pb : (part t1 ys o1).run Try.prog w = .ok b w) (px : (Op.equalIn d t1 a b).run Try.prog w = .ok x w)
    (pc : (part t2 xs o2).run Try.prog w = .ok c w) (pe : (part t2 ys o2).run Try.prog w = .ok e w) (py : (Op.equalIn d t2 c e).run Try.prog w = .ok y w) :
    (Op.eqFields d xs ys fs).run Try.prog w = .ok (x && y) w := by
  match fs, hf with
  | [f, g], hf =>
    simp only [List.map_cons, List.map_nil, List.cons.injEq, Prod.mk.injEq, and_true] at hf
    obtain ⟨⟨rfl, rfl, rfl⟩, rfl, rfl, rfl⟩ := hf
    simp only [Op.eqFields]
    rw [if_pos h1]
    simp only [Sem.run_bind, pa, pb, px, Result.andThen_ok]
    cases x
    · simp
    · rw [if_neg (by simp), if_pos h2]
      simp only [Sem.run_bind, pc, pe, py, Result.andThen_ok]
      cases y <;> simp
theorem part_agg {w : World} (t : TypeId) (n : Nat) (ha : ∀ w, (isAgg t).run Try.prog w = .ok true w) (hs : ∀ w, (sizeOf t).run Try.prog w = .ok n w) (cs : Array Value) (off : Nat) : (part t cs off).run Try.prog w = .ok (.agg (cs.extract off (off + n))) w := by
  simp [part, ha, hs]
theorem part_one {w : World} (t : TypeId) (ha : ∀ w, (isAgg t).run Try.prog w = .ok false w) (cs : Array Value) (off : Nat) (v : Value) (h : cs[off]? = some v) : (part t cs off).run Try.prog w = .ok v w := by
  simp [part, ha, h]
theorem equal_img {w : World} {H H' : Nat → Bool} {n n' : Int} {D D' : Nat → UInt8} (c c' : Array Value) (hs : c.size = 131073) (hs' : c'.size = 131073) (hc : ∀ i, i < 131073 → c[i]? = some (imgV H n D i)) (hc' : ∀ i, i < 131073 → c'[i]? = some (imgV H' n' D' i)) :
    (binOp .eql 62 (.agg c) (.agg c')).run Try.prog w = .ok (.bool (imgEq H n D H' n' D')) w := by
  have eH : ∀ (c : Array Value) (H : Nat → Bool) (n : Int) (D : Nat → UInt8), c.size = 131073 → (∀ i, i < 131073 → c[i]? = some (imgV H n D i)) → ∀ i, i < 65536 → ((c.extract 0 (0 + 65537)).extract 0 (0 + 65536))[i]? = some (.bool (H i)) := fun c H n D h1 h2 i hi => by
    rw [Array.getElem?_extract, if_pos (by simp only [Array.size_extract]; omega), Array.getElem?_extract, if_pos (by omega), show 0 + (0 + i) = i by omega, h2 i (by omega), imgV_in hi]
  have eN : ∀ (c : Array Value) (H : Nat → Bool) (n : Int) (D : Nat → UInt8), c.size = 131073 → (∀ i, i < 131073 → c[i]? = some (imgV H n D i)) → (c.extract 0 (0 + 65537))[65536]? = some (.int .i64 n) := fun c H n D h1 h2 => by
    rw [Array.getElem?_extract, if_pos (by omega), Nat.zero_add, h2 _ (by omega), imgV_n]
  have eD : ∀ (c : Array Value) (H : Nat → Bool) (n : Int) (D : Nat → UInt8), c.size = 131073 → (∀ i, i < 131073 → c[i]? = some (imgV H n D i)) → ∀ i, i < 65536 → (c.extract 65537 (65537 + 65536))[i]? = some (.int .u8 ((D i).toNat : Int)) := fun c H n D h1 h2 i hi => by
    rw [Array.getElem?_extract, if_pos (by omega), h2 _ (by omega), imgV_b]
  have h1 : (Op.equalIn 9999 59 (.agg (c.extract 0 (0 + 65537))) (.agg (c'.extract 0 (0 + 65537)))).run Try.prog w = .ok ((List.range 65536).all (fun i => H i == H' i) && (n == n')) w := by
    rw [run_equalIn_struct w 9998 59 _ _ fields_adr.1 Try.stoodInHeld59]
    exact eqFields_two 9998 _ _ _ _ _ _ _ _ _ (by decide) (by decide) fields_adr.2 _ _ _ _ _ _ (part_agg 57 65536 Try.isAgg57 Try.sizeOf57 _ 0) (part_agg 57 65536 Try.isAgg57 Try.sizeOf57 _ 0)
      (equalIn_arr 9997 57 4 65536 Try.underlying57 Try.sizeOf4 Try.isAgg4 _ _ _ fun i hi => ⟨_, _, eH c H n D hs hc i hi, eH c' H' n' D' hs' hc' i hi, run_equalIn_bool' w 9996 _ _ _ Try.underlying4⟩)
      (part_one 3 Try.isAgg3 _ _ _ (eN c H n D hs hc)) (part_one 3 Try.isAgg3 _ _ _ (eN c' H' n' D' hs' hc')) (run_equalIn_int w 9997 3 .i64 .i64 n n' Try.underlying3)
  have h2 : (Op.equalIn 9999 60 (.agg (c.extract 65537 (65537 + 65536))) (.agg (c'.extract 65537 (65537 + 65536)))).run Try.prog w = .ok ((List.range 65536).all (fun i => ((D i).toNat : Int) == ((D' i).toNat : Int))) w :=
    equalIn_arr 9998 60 5 65536 Try.underlying60 Try.sizeOf5 Try.isAgg5 _ _ _ fun i hi => ⟨_, _, eD c H n D hs hc i hi, eD c' H' n' D' hs' hc' i hi, run_equalIn_int w 9997 5 .u8 .u8 _ _ Try.underlying5⟩
  rw [run_eql_struct, run_equalIn_struct w 9999 62 _ _ fields_img.1 Try.stoodInHeld62,
    eqFields_two 9999 _ _ _ _ _ _ _ _ _ (by decide) (by decide) fields_img.2 _ _ _ _ _ _ (part_agg 59 65537 Try.isAgg59 Try.sizeOf59 _ 0) (part_agg 59 65537 Try.isAgg59 Try.sizeOf59 _ 0) h1
      (part_agg 60 65536 Try.isAgg60 Try.sizeOf60 _ 65537) (part_agg 60 65536 Try.isAgg60 Try.sizeOf60 _ 65537) h2]
  rfl
theorem imgEq_iff {V W : List Cel} (hV : SortedW V) (hW : SortedW W) : imgEq (hasW V) V.length (byteW V) (hasW W) W.length (byteW W) = decide (V = W) := by
  by_cases h : V = W
  · subst h
    rw [decide_eq_true rfl]
    unfold imgEq
    rw [Bool.and_eq_true, Bool.and_eq_true, List.all_eq_true, List.all_eq_true]
    exact ⟨⟨fun i _ => by simp, by simp⟩, fun i _ => by simp⟩
  · rw [decide_eq_false h]
    cases he : imgEq (hasW V) V.length (byteW V) (hasW W) W.length (byteW W)
    · rfl
    · exfalso
      unfold imgEq at he
      rw [Bool.and_eq_true, Bool.and_eq_true, List.all_eq_true, List.all_eq_true] at he
      obtain ⟨⟨h1, _⟩, h2⟩ := he
      exact h (cells_ext hV hW (fun i hi => by simpa using h1 i (List.mem_range.2 hi)) fun i hi => UInt8.toNat_inj.1 (by have := h2 i (List.mem_range.2 hi); simp only [beq_iff_eq] at this; omega))

theorem execOp_load {a : Act} {w : World} {o : Oper} (ty : TypeId) (x : Operand) (ho : o.op = .load ty x) (ad : Addr) (hx : a.eval x = .pointer (some ad)) (v : Value) (hl : (loadVar ty ad).run Try.prog w = .ok v w) : (execOp a.eval o).run Try.prog w = .ok (.value v) w := by
  unfold execOp
  simp only [ho, hx, Instr.loadAt, Instr.sureAddr, Sem.run_bind, Sem.run_pure, Result.andThen_ok, hl]
theorem execOp_eql {a : Act} {w : World} {o : Oper} (ty : TypeId) (x y : Operand) (z : TypeId) (ho : o.op = .binOp .eql ty x y z) (c d : Array Value) (hx : a.eval x = .agg c) (hy : a.eval y = .agg d) (hg : Try.prog.eqGuardType Try.prog.depth ty = false) (r : Bool) (he : (binOp .eql ty (.agg c) (.agg d)).run Try.prog w = .ok (.bool r) w) :
    (execOp a.eval o).run Try.prog w = .ok (.value (.bool r)) w := by
  have hg' := run_eqGuard_agg (P := Try.prog) w .eql ty x y c d hg
  unfold execOp
  simp only [ho, hx, hy, Sem.run_bind, hg', he, Result.andThen_ok, Sem.run_pure]
theorem same_nil {a b : Value} {n m : Int} (w : World) (ha : a = .pointer none ∨ b = .pointer none) (h1 : Calls Try.prog 25 #[a] w fun e w' => e = .returned (.int .i64 n) ∧ w = w')
    (h2 : Calls Try.prog 25 #[b] w fun e w' => e = .returned (.int .i64 m) ∧ w = w') (hpa : ∃ p, a = .pointer p) (hpb : ∃ p, b = .pointer p) :
    Calls Try.prog 21 #[a, b] w fun e w' => e = .returned (.bool (n == m)) ∧ w = w' := by
  obtain ⟨p, rfl⟩ := hpa
  obtain ⟨q, rfl⟩ := hpb
  cases p with
  | none =>
    go_enter Try.func21, Try.ntmps21
    go_wp2_with fail
    refine h1.mono ?_
    rintro e w1 ⟨rfl, rfl⟩
    go_wp2_with fail
    refine h2.mono ?_
    rintro e w1 ⟨rfl, rfl⟩
    go_wp2
    go_ret
    exact ⟨rfl, rfl⟩
  | some p =>
    obtain rfl : q = none := by simpa using ha
    go_enter Try.func21, Try.ntmps21
    go_wp2_with fail
    refine h1.mono ?_
    rintro e w1 ⟨rfl, rfl⟩
    go_wp2_with fail
    refine h2.mono ?_
    rintro e w1 ⟨rfl, rfl⟩
    go_wp2
    go_ret
    exact ⟨rfl, rfl⟩
set_option maxHeartbeats 1000000 in
/-- image.Same. -/
theorem isame_any (a b : Nat) (V W : List Cel) (w : World) (hV : ImgOf w a V) (hW : ImgOf w b W) :
    Calls Try.prog 21 #[.pointer (some ⟨a, 0, none⟩), .pointer (some ⟨b, 0, none⟩)] w fun e w' => e = .returned (.bool (decide (V = W))) ∧ w' = w.drew := by
  obtain ⟨c, hl, hs, hc⟩ := load_img hV.2
  obtain ⟨d, hm, ht, hd⟩ := load_img hW.2
  have hE : ∀ w, (binOp .eql 62 (.agg c) (.agg d)).run Try.prog w = .ok (.bool (decide (V = W))) w := fun w => by
    rw [← imgEq_iff hV.1 hW.1]; exact equal_img c d hs ht hc hd
  have hC : (loadVar 62 ⟨a, 0, none⟩).run Try.prog w.drew = .ok (.agg c) w.drew ∧ (loadVar 62 ⟨b, 0, none⟩).run Try.prog w.drew = .ok (.agg d) w.drew := by
    obtain ⟨c', hl', hs', hc'⟩ := load_img (w := w.drew) (b := a) (H := hasW V) (n := V.length) (D := byteW V) (World.rowIs.drew hV.2)
    obtain ⟨d', hm', ht', hd'⟩ := load_img (w := w.drew) (b := b) (H := hasW W) (n := W.length) (D := byteW W) (World.rowIs.drew hW.2)
    have e1 : c' = c := Array.ext_getElem? fun i => by
      by_cases hi : i < 131073
      · rw [hc i hi, hc' i hi]
      · rw [Array.getElem?_eq_none (by omega), Array.getElem?_eq_none (by omega)]
    have e2 : d' = d := Array.ext_getElem? fun i => by
      by_cases hi : i < 131073
      · rw [hd i hi, hd' i hi]
      · rw [Array.getElem?_eq_none (by omega), Array.getElem?_eq_none (by omega)]
    rw [← e1, ← e2]
    exact ⟨hl', hm'⟩
  have E := Lib.hid hE
  have C := Lib.hid hC
  clear hV hW hl hs hc hm ht hd hE hC
  go_enter Try.func21, Try.ntmps21
  go_wp2_with fail
  refine Mixed.wp_region_mixed (fun w' => w' = w.drew) 7 [(0, true), (1, true), (2, true), (3, true), (4, true), (5, true), (6, true)] (by kernel_rfl) (by kernel_rfl) rfl ?_
  refine Mixed.wpMix_move rfl rfl _ rfl _ rfl ?_
  refine Mixed.wpMix_pure rfl rfl _ (fun w h => by clear h; go_simp; rfl) ?_
  refine Mixed.wpMix_pure rfl rfl _ (fun w h => by subst h; exact execOp_load 62 _ rfl _ rfl _ C.out.1) ?_
  refine Mixed.wpMix_move rfl rfl _ rfl _ rfl ?_
  refine Mixed.wpMix_pure rfl rfl _ (fun w h => by clear h; go_simp; rfl) ?_
  refine Mixed.wpMix_pure rfl rfl _ (fun w h => by subst h; exact execOp_load 62 _ rfl _ rfl _ C.out.2) ?_
  refine Mixed.wpMix_pure rfl rfl (.bool (decide (V = W))) (fun w h => execOp_eql 62 _ _ _ rfl c d rfl rfl Try.eqGuardType62 _ (E.out w)) ?_
  simp only [Mixed.wpMix, List.drop_succ_cons, List.drop_zero]
  go_wp2
  go_ret
  exact ⟨rfl, rfl⟩
end Go.Proofs.Ytllfebekanafhaa
