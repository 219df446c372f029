/-
  The walks over image.Of, Clone and Same: for every list of runs, all images.
-/
import Derived.Test.YtllfebekanafhaaImgH
import Derived.Laws.StructEq
import Derived.Laws.Rows
import Derived.Laws.Tables
namespace Go.Proofs.Ytllfebekanafhaa
open Go.RowKit
set_option linter.unusedVariables false

/-- What image.Of returns: an image of W and 0, or nil and the code. -/
def RetOf (w : World) (x : List Cel × Int) (e : Ending) (w' : World) : Prop :=
  (x.2 = 0 → ∃ b, e = .returned (.tuple #[.pointer (some ⟨b, 0, none⟩), .int .i64 0]) ∧ w.heap.size ≤ b ∧ ImgOf w' b x.1) ∧ (x.2 ≠ 0 → e = .returned (.tuple #[.pointer none, .int .i64 x.2])) ∧ Below w.heap.size w w'
set_option maxHeartbeats 1000000 in
theorem iof_any (S P : Nat → Prop) (A : Option Addr) (cap : Nat) (rs : List R) (hl : rs.length ≤ 140737488355328) (w : World) (hW : RunsP S P w A rs) (hd : ∀ r ∈ rs, r.data.length ≤ maxLen) :
    Calls Try.prog 15 #[.slice A rs.length cap] w (RetOf w (ofW [] rs)) := by
  have Z := Lib.hid (hW.mono (T := (· < w.heap.size)) (Q := (· < w.heap.size)) (fun _ h _ => h) (fun _ h _ => h))
  have HD := Lib.hid hd
  clear hW hd
  go_enter Try.func15, Try.ntmps15
  go_wp2_with fail
  refine (newOf_any _).mono ?_
  rintro e w1 ⟨b, rfl, hb, hI, hB⟩
  have I1 := Lib.hid hI
  have B1 := Lib.hid hB
  have hbH := Lib.hid hb
  clear hI hB hb
  go_wp2
  go_loopw [11] (fun i wr => ∃ (k : Nat) (W : List Cel), k ≤ rs.length ∧ i = .int .i64 k ∧ Hid (ofW [] (rs.take k) = (W, 0)) ∧ ImgOf wr b W ∧ Below w.heap.size w wr) (fun i _ => rs.length - (intOf i).toNat)
  case atStart => exact ⟨0, [], Nat.zero_le _, rfl, rfl, I1.out, B1.out⟩
  case round =>
    obtain ⟨k, W, hk, rfl, E, hI, hB⟩ := hrel
    have I2 := Lib.hid hI
    have B2 := Lib.hid hB
    clear hI hB
    by_cases hlt : k < rs.length
    · have Z2 := Lib.hid (Z.out.below B2.out)
      obtain ⟨bb, off, hA, g1, g2⟩ := Z2.out.at_ hlt
      subst hA
      have hlt' : (k : Int) < (rs.length : Int) := by omega
      have X := Lib.hid (Z2.out.2 _ (List.getElem_mem hlt))
      have hdk := Lib.hid (HD.out _ (List.getElem_mem hlt))
      obtain ⟨r, hr⟩ : ∃ r, rs[k] = r := ⟨_, rfl⟩
      have T := Lib.hid (ofW_take rs k hlt W E.out)
      have F := Lib.hid (ofW_bad rs k hlt W E.out)
      rw [hr] at g1 g2 X hdk T F
      clear hr
      obtain ⟨o, ho⟩ : ∃ o, Obj.cells #[.int .i64 r.addr, .slice r.A r.data.length r.cap] 47 = o := ⟨_, rfl⟩
      have hab : Below wr.heap.size wr (wr.alloc o) := (Below.refl _ _).alloc (Nat.le_refl _) o
      have hput := put_any b W r.addr (· < w.heap.size) (Nat.not_lt.2 hbH.out) r.A r.data r.cap (wr.alloc o) hdk.out (I2.out.below hab) (X.out.below hab)
      have HB := Lib.hid (B2.out.alloc B2.out.size o)
      have hsz := Lib.hid B2.out.size
      rw [← ho] at hput HB
      clear hab ho
      go_wp2_with fail
      refine hput.mono ?_
      rintro e w2 ⟨rfl, hI2, hK2⟩
      have hle := hsz.out
      have I3 := Lib.hid hI2
      have B3 := Lib.hid (HB.out.trans (hK2.below hbH.out (by simp; omega)))
      clear hI2 hK2 hle hput
      by_cases hc : codeW W r.addr r.data = 0
      · have T2 := Lib.hid (T.out hc)
        rw [hc]
        clear hc
        go_wp2
        go_roundw
        case rel => exact ⟨k + 1, _, by omega, by go_num, T2, I3.out, B3.out⟩
        case measure => simp [intOf]; omega
      · have F2 := Lib.hid (F.out hc)
        have hne : (codeW W r.addr r.data == 0) = false := beq_eq_false_iff_ne.2 hc
        obtain ⟨c, hcc⟩ : ∃ c, codeW W r.addr r.data = c := ⟨_, rfl⟩
        rw [hcc] at hne hc F2 ⊢
        have hne2 : (c != 0) = true := by unfold bne; rw [hne]; rfl
        have N : Hid (RetOf w (ofW [] rs) (.returned (.tuple #[.pointer none, .int .i64 c])) w2) := by
          show RetOf _ _ _ _
          rw [F2.out]
          exact ⟨fun h => absurd h hc, fun _ => rfl, B3.out⟩
        clear hcc hc
        go_wp2
        go_ret2
        exact N.out
    · have hlt' : decide ((k : Int) < (rs.length : Int)) = false := decide_eq_false (by omega)
      have N : Hid (RetOf w (ofW [] rs) (.returned (.tuple #[.pointer (some ⟨b, 0, none⟩), .int .i64 0])) wr) := by
        have h := E.out
        rw [List.take_of_length_le (by omega)] at h
        show RetOf _ _ _ _
        rw [h]
        exact ⟨fun _ => ⟨b, rfl, hbH.out, I2.out⟩, fun h => absurd rfl h, B2.out⟩
      go_wp2
      go_ret2
      exact N.out

/-! ### Clone -/
theorem info_img : (Try.prog.info? 62).map (·.size) = some 131073 := by
  have h : Try.prog.info? 62 = some Try.t62 := Try.type62
  rw [h]; rfl
theorem load_img {w : World} {b : Nat} {H : Nat → Bool} {n : Int} {D : Nat → UInt8} (h : ImgF w b H n D) :
    ∃ c : Array Value, (loadVar 62 ⟨b, 0, none⟩).run Try.prog w = .ok (.agg c) w ∧ c.size = 131073 ∧ ∀ i, i < 131073 → c[i]? = some (imgV H n D i) := by
  obtain ⟨c, hb, hs, hc⟩ := h
  exact ⟨c, run_loadVar_row w b 62 62 c (0, 0) _ hb Try.underlying62 rfl (by rw [hs]; exact info_img), hs, hc⟩
theorem store_img {w : World} {b : Nat} {H H' : Nat → Bool} {n n' : Int} {D D' : Nat → UInt8} (h : ImgF w b H n D) (c : Array Value) (hs : c.size = 131073) (hc : ∀ i, i < 131073 → c[i]? = some (imgV H' n' D' i)) :
    ∃ w', (storeVar 62 ⟨b, 0, none⟩ (.agg c)).run Try.prog w = .ok () w' ∧ ImgF w' b H' n' D' ∧ Keep b w w' := by
  obtain ⟨c0, hb, hs0, _⟩ := h
  have h1 : c.all (·.oneCell') = true := by
    rw [Array.all_eq_true]
    intro i hi
    have hi' : i < 131073 := by omega
    have := hc i hi'
    rw [Array.getElem?_eq_getElem hi] at this
    rw [Option.some.inj this]
    unfold imgV
    split
    · rfl
    · split <;> rfl
  refine ⟨_, run_storeVar_row w b 62 62 c0 c hb (by rw [hs]; exact info_img) (by rw [hs0, hs]) h1, ⟨c, setRow_heap w b c0 c _ _ hb, hs, hc⟩, ⟨rfl, rfl, rfl, by simp, fun i hi hn => setRow_other w b i _ (by omega)⟩⟩
theorem wpList_load_var {ops : Array Oper} {rest : List Oper} {o : Oper} {a : Act} {w : World} {Q : Exit → Act → World → Prop} (hgd : o.guard = none) (ty : TypeId) (x : Operand) (ho : o.op = .load ty x) (ad : Addr) (hx : a.eval x = .pointer (some ad)) (v : Value)
    (hl : (loadVar ty ad).run Try.prog w = .ok v w) (h : wpList Try.prog ops Q rest (a.put o.dst v) w) : wpList Try.prog ops Q (o :: rest) a w :=
  wpList_plain hgd fun K hK => by
    unfold Oper.wp execOp
    simp only [ho, hx, Instr.loadAt, Instr.sureAddr, Sem.run_bind, Sem.run_pure, Result.andThen_ok, hl]
    exact hK _ _ h
theorem wpList_store_var {ops : Array Oper} {rest : List Oper} {o : Oper} {a : Act} {w w' : World} {Q : Exit → Act → World → Prop} (hgd : o.guard = none) (ty : TypeId) (x y : Operand) (ho : o.op = .store ty x y) (ad : Addr) (hx : a.eval x = .pointer (some ad)) (v : Value) (hy : a.eval y = v)
    (hs : (storeVar ty ad v).run Try.prog w = .ok () w') (h : wpList Try.prog ops Q rest (a.put o.dst undef) w') : wpList Try.prog ops Q (o :: rest) a w :=
  wpList_plain hgd fun K hK => by
    unfold Oper.wp execOp
    simp only [ho, hx, hy, Instr.storeAt, Instr.sureAddr, Sem.run_bind, Sem.run_pure, Result.andThen_ok, hs]
    exact hK _ _ h
theorem cloneNil_any (w : World) : Calls Try.prog 22 #[.pointer none] w (NewOf w []) := by
  go_enter Try.func22, Try.ntmps22
  go_wp2_with fail
  refine (newOf_any _).mono ?_
  rintro e w1 ⟨b, rfl, hb⟩
  have N := Lib.hid hb
  clear hb
  go_wp2
  go_ret
  exact ⟨b, rfl, N.out⟩
set_option maxHeartbeats 1000000 in
theorem clone_any (b : Nat) (W : List Cel) (w : World) (hI : ImgOf w b W) : Calls Try.prog 22 #[.pointer (some ⟨b, 0, none⟩)] w (NewOf w W) := by
  have I := Lib.hid hI
  clear hI
  go_enter Try.func22, Try.ntmps22
  go_wp2_with fail
  refine (newOf_any _).mono ?_
  rintro e w1 ⟨d, rfl, hb, hJ, hB⟩
  obtain ⟨c, hl, hs, hc⟩ := load_img (I.out.2.below hB)
  obtain ⟨w2, hst, hI2, hK⟩ := store_img hJ.2 c hs hc
  have N : Hid (NewOf w W (.returned (.pointer (some ⟨d, 0, none⟩))) w2) := ⟨d, rfl, hb, ⟨I.out.1, hI2⟩, hB.trans (hK.below hb hB.size)⟩
  clear hJ hB hb hs hc hI2 hK
  go_wp2_with (first | (refine wpList_load_var rfl 62 (.tmp 9) rfl _ rfl _ hl ?_) | (refine wpList_store_var rfl 62 (.tmp 11) (.tmp 10) rfl _ rfl _ rfl hst ?_))

  go_ret
  exact N.out
end Go.Proofs.Ytllfebekanafhaa
