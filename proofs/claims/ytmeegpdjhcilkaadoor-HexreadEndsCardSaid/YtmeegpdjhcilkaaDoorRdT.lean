/-
  The walks over strings.TrimSuffix at a byte 13, and over strings.Trim and TrimRight at a set of ASCII bytes.
-/
import Derived.Test.YtmeegpdjhcilkaaDoorRdB
import Derived.Test.YtmeegpdjhcilkaaDoorRecAllB
import Derived.Test.YtmeegpdjhcilkaaDoorImgAllB
import Derived.Deep.OwnRows
namespace Go.Proofs.YtmeegpdjhcilkaaDoor
open Go.RowKit
set_option linter.unusedVariables false

theorem strOf_sz (x : List UInt8) : (strOf x).size = x.length := strOf_size x
theorem suf13 (x : List UInt8) : sufB (strOf x) ⟨#[13]⟩ = decide (x.getLast? = some 13) ∧ (sufB (strOf x) ⟨#[13]⟩ = true → (strOf x).extract 0 ((strOf x).size - 1) = strOf (trimC x)) ∧ (sufB (strOf x) ⟨#[13]⟩ = false → strOf x = strOf (trimC x)) := by
  rcases List.eq_nil_or_concat x with rfl | ⟨y, c, rfl⟩
  · exact ⟨by decide, by decide, fun _ => rfl⟩
  · have e : sufB (strOf (y.concat c)) ⟨#[13]⟩ = decide (c = 13) := by
      unfold sufB
      have h1 : (⟨#[13]⟩ : ByteArray).size = 1 := rfl
      rw [h1, strOf_size, List.length_concat, decide_eq_true (show 1 ≤ y.length + 1 by omega), Bool.true_and, ByteArray.toList_eq, Lib.extract_data, ByteArray.toList_eq]
      have e2 : (strOf (y.concat c)).data.toList = y ++ [c] := by simp [strOf]
      rw [e2, show y.length + 1 - 1 = y.length by omega, List.drop_append_of_le_length (Nat.le_refl _), List.drop_length, List.nil_append]
      simp
      exact decide_eq_decide.2 Iff.rfl
    have hl : (y.concat c).getLast? = some c := by simp
    refine ⟨?_, fun h => ?_, fun h => ?_⟩
    · rw [e, hl]
      exact decide_eq_decide.2 ⟨fun h => by rw [h], fun h => Option.some.inj h⟩
    · rw [e] at h
      have hc : c = 13 := of_decide_eq_true h
      unfold trimC
      rw [hl, hc, if_pos rfl, strOf_size]
      apply bytes_ext
      rw [Lib.extract_data]
      simp [strOf]
    · rw [e] at h
      have hc : ¬ c = 13 := of_decide_eq_false h
      unfold trimC
      rw [hl, if_neg fun h => hc (Option.some.inj h)]
set_option maxHeartbeats 1000000 in
theorem slTrimSuf_any (x : List UInt8) (hx : x.length ≤ maxLen) (w : World) :
    Calls Tryd.prog 46 #[.string (strOf x), .string ⟨#[13]⟩] w fun e w' => e = .returned (.string (strOf (trimC x))) ∧ w = w' := by
  obtain ⟨h1, h2, h3⟩ := suf13 x
  have hs : (strOf x).size ≤ maxLen := by rw [strOf_size]; exact hx
  have hsf := hasSuffix_any (strOf x) ⟨#[13]⟩ hs (by decide) w
  have h13 : (⟨#[13]⟩ : ByteArray).size = 1 := rfl
  have hlen : sufB (strOf x) ⟨#[13]⟩ = true → 1 ≤ (strOf x).size := fun h => sufB_le h
  obtain ⟨b, hb⟩ : ∃ b, sufB (strOf x) ⟨#[13]⟩ = b := ⟨_, rfl⟩
  obtain ⟨s, hs'⟩ : ∃ s, strOf x = s := ⟨_, rfl⟩
  rw [hb] at h2 h3 hsf hlen
  rw [hs'] at h2 h3 hsf hlen hs ⊢
  obtain ⟨r, hr⟩ : ∃ r, strOf (trimC x) = r := ⟨_, rfl⟩
  rw [hr] at h2 h3 ⊢
  unfold maxLen at hs
  clear h1 hb hs' hr hx
  cases b
  · have E := Lib.hid (h3 rfl)
    clear h2 h3 hlen
    go_enter Tryd.func46, Tryd.ntmps46
    go_wp2_with fail
    refine hsf.mono ?_
    rintro e w' ⟨rfl, rfl⟩
    go_wp2
    go_ret
    exact ⟨ret_str E.out, rfl⟩
  · have E := Lib.hid (h2 rfl)
    have hl := hlen rfl
    clear h2 h3 hlen
    go_enter Tryd.func46, Tryd.ntmps46
    go_wp2_with fail
    refine hsf.mono ?_
    rintro e w' ⟨rfl, rfl⟩
    go_wp2
    go_ret
    exact ⟨ret_str E.out, rfl⟩
theorem trimSuf_any (x : List UInt8) (hx : x.length ≤ maxLen) (w : World) :
    Calls Tryd.prog 17 #[.string (strOf x), .string ⟨#[13]⟩] w fun e w' => e = .returned (.string (strOf (trimC x))) ∧ w = w' := by
  go_enter Tryd.func17, Tryd.ntmps17
  go_wp2_with fail
  refine (slTrimSuf_any x hx _).mono ?_
  rintro e w' ⟨rfl, rfl⟩
  go_wp2
  go_ret
  exact ⟨rfl, rfl⟩

/-! ### A set of bytes -/
/-- Block b holds the set of the bytes cs. -/
def setV (cs : List UInt8) (i : Nat) : Value := .bool (cs.any fun c => c.toNat == i)
def SetAt (w : World) (b : Nat) (cs : List UInt8) : Prop := w.rowIs b 98 256 (setV cs)
noncomputable def setZero : Option Value → Bool
  | some (.agg ⟨l⟩) => match Im.eat Im.isF 256 l with
    | some [] => true
    | _ => false
  | _ => false
theorem setZero_t : setZero Tryd.t98.zero = true := by kernel_rfl
theorem setZero_spec {z : Option Value} (h : setZero z = true) : ∃ c : Array Value, z = some (.agg c) ∧ c.size = 256 ∧ ∀ i, i < 256 → c[i]? = some (setV [] i) := by
  unfold setZero at h
  split at h
  · rename_i l
    split at h
    · rename_i he
      have e := Im.eat_spec Im.isF (.bool false) (fun v hv => Im.isF_eq hv) 256 l [] he
      rw [List.append_nil] at e
      refine ⟨⟨l⟩, rfl, by show l.length = 256; rw [e, List.length_replicate], fun i hi => ?_⟩
      rw [← Array.getElem?_toList]
      show l[i]? = _
      rw [e, List.getElem?_replicate, if_pos hi]
      rfl
    · cases h
  · cases h
theorem zero_set (c : Array Value) (hz : Tryd.t98.zero = some (.agg c)) (w : World) : (zeroValue 98).run Tryd.prog w = .ok (.agg c) w := by
  simp only [zeroValue, Sem.run_bind, Tryd.typeInfo98, Result.andThen_ok, hz, Sem.run_pure]
theorem SetAt.add {w : World} {b : Nat} {cs : List UInt8} (h : SetAt w b cs) (c : UInt8) : SetAt (w.setCell ⟨b, c.toNat, none⟩ (.bool true)) b (cs ++ [c]) :=
  World.rowIs.congr (World.rowIs.set h c.toNat _) fun j hj => by
    unfold setV
    rw [List.any_append]
    by_cases e : j = c.toNat
    · subst e; rw [if_pos rfl]; simp
    · rw [if_neg e]
      have : ([c].any fun c => c.toNat == j) = false := by simp; omega
      rw [this, Bool.or_false]
set_option maxRecDepth 100000 in
theorem info_set : (Tryd.prog.info? 98).map (·.size) = some 256 := by
  have h : Tryd.prog.info? 98 = some Tryd.t98 := Tryd.type98
  rw [h]; rfl

theorem any_nat (cs : List UInt8) (c : UInt8) : (cs.any fun d => d.toNat == c.toNat) = cs.contains c := by
  rw [Bool.eq_iff_iff, List.any_eq_true, List.contains_iff_mem]
  constructor
  · rintro ⟨d, hd, h⟩
    have : d = c := UInt8.toNat_inj.1 (by simpa using h)
    rwa [← this]
  · intro h
    exact ⟨c, h, by simp⟩
set_option maxHeartbeats 1000000 in
theorem contains_any (b : Nat) (cs : List UInt8) (c : UInt8) (w : World) (h : SetAt w b cs) :
    Calls Tryd.prog 83 #[.pointer (some ⟨b, 0, none⟩), .int .u8 (c.toNat : Int)] w fun e w' => e = .returned (.bool (cs.contains c)) ∧ w = w' := by
  have hc := World.rowIs.cell h (show c.toNat < 256 from c.toNat_lt)
  have e : setV cs c.toNat = .bool (cs.contains c) := by
    unfold setV
    rw [any_nat]
  rw [e] at hc
  have h256 := c.toNat_lt
  obtain ⟨n, hn⟩ : ∃ n, c.toNat = n := ⟨_, rfl⟩
  rw [hn] at hc h256 ⊢
  obtain ⟨r, hr⟩ : ∃ r, cs.contains c = r := ⟨_, rfl⟩
  rw [hr] at hc ⊢
  clear h e hn hr
  go_enter Tryd.func83, Tryd.ntmps83
  go_wp2
  go_ret
  exact ⟨rfl, rfl⟩
end Go.Proofs.YtmeegpdjhcilkaaDoor
