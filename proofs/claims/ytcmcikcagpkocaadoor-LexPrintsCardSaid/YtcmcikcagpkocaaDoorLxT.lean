/-
  The walks over strings.makeASCIISet, trimLeftASCII and strings.TrimLeft at the set of a space and a tab.
-/
import Derived.Test.YtcmcikcagpkocaaDoorLxA
import Derived.Test.YtcmcikcagpkocaaDoorNumG
import Derived.Laws.ResultCell
import Derived.Laws.Tables
import Derived.Laws.Rows
import Derived.Deep.OwnRows
import Derived.Deep.WholeRow
namespace Go.Proofs.YtcmcikcagpkocaaDoor.Lt
open Go.RowKit
set_option linter.unusedVariables false
structure Keep (b : Nat) (w w' : World) : Prop where
  os : w'.os = w.os
  tape : w'.tape = w.tape
  output : w'.output = w.output
  size : w.heap.size ≤ w'.heap.size
  block : ∀ k, k < w.heap.size → k ≠ b → w'.heap[k]? = w.heap[k]?
theorem Keep.below {b B : Nat} {w w' : World} (h : Keep b w w') (hB : B ≤ b) (hs : B ≤ w.heap.size) : Below B w w' := ⟨h.os, h.tape, h.output, h.size, fun i hi => h.block i (by omega) (by omega)⟩
theorem wpList_load_var {ops : Array Oper} {rest : List Oper} {o : Oper} {a : Act} {w : World} {Q : Exit → Act → World → Prop} (hgd : o.guard = none) (ty : TypeId) (x : Operand) (ho : o.op = .load ty x) (ad : Addr) (hx : a.eval x = .pointer (some ad)) (v : Value)
    (hl : (loadVar ty ad).run Tryd.prog w = .ok v w) (h : wpList Tryd.prog ops Q rest (a.put o.dst v) w) : wpList Tryd.prog ops Q (o :: rest) a w :=
  wpList_plain hgd fun K hK => by
    unfold Oper.wp execOp
    simp only [ho, hx, Instr.loadAt, Instr.sureAddr, Sem.run_bind, Sem.run_pure, Result.andThen_ok, hl]
    exact hK _ _ h
theorem wpList_store_var {ops : Array Oper} {rest : List Oper} {o : Oper} {a : Act} {w w' : World} {Q : Exit → Act → World → Prop} (hgd : o.guard = none) (ty : TypeId) (x y : Operand) (ho : o.op = .store ty x y) (ad : Addr) (hx : a.eval x = .pointer (some ad)) (v : Value) (hy : a.eval y = v)
    (hs : (storeVar ty ad v).run Tryd.prog w = .ok () w') (h : wpList Tryd.prog ops Q rest (a.put o.dst undef) w') : wpList Tryd.prog ops Q (o :: rest) a w :=
  wpList_plain hgd fun K hK => by
    unfold Oper.wp execOp
    simp only [ho, hx, hy, Instr.storeAt, Instr.sureAddr, Sem.run_bind, Sem.run_pure, Result.andThen_ok, hs]
    exact hK _ _ h
/-- The list behind its first n members, if they all have the property. -/
noncomputable def eat (p : Value → Bool) (n : Nat) : List Value → Option (List Value) :=
  Nat.rec (motive := fun _ => List Value → Option (List Value)) (fun l => some l) (fun _ ih l => match l with | [] => none | v :: t => match p v with | true => ih t | false => none) n
theorem eat_spec (p : Value → Bool) (x : Value) (hp : ∀ v, p v = true → v = x) : ∀ (n : Nat) (l r : List Value), eat p n l = some r → l = List.replicate n x ++ r := by
  intro n
  induction n with
  | zero =>
    intro l r h
    have h' : some l = some r := h
    cases h'
    rfl
  | succ n ih =>
    intro l r h
    cases l with
    | nil => simp [eat] at h
    | cons v t =>
      have h' : (match p v with | true => eat p n t | false => none) = some r := h
      cases hv : p v with
      | false => rw [hv] at h'; cases h'
      | true =>
        rw [hv] at h'
        rw [hp v hv, ih t r h']
        rfl
def isF : Value → Bool | .bool false => true | _ => false
theorem isF_eq {v : Value} (h : isF v = true) : v = .bool false := by
  unfold isF at h; split at h <;> simp_all
/-- Block b holds the set of the bytes cs. -/
def setV (cs : List UInt8) (i : Nat) : Value := .bool (cs.any fun c => c.toNat == i)
def SetAt (w : World) (b : Nat) (cs : List UInt8) : Prop := w.rowIs b 111 256 (setV cs)
noncomputable def setZero : Option Value → Bool
  | some (.agg ⟨l⟩) => match eat isF 256 l with
    | some [] => true
    | _ => false
  | _ => false
theorem setZero_t : setZero Tryd.t111.zero = true := by kernel_rfl
theorem setZero_spec {z : Option Value} (h : setZero z = true) : ∃ c : Array Value, z = some (.agg c) ∧ c.size = 256 ∧ ∀ i, i < 256 → c[i]? = some (setV [] i) := by
  unfold setZero at h
  split at h
  · rename_i l
    split at h
    · rename_i he
      have e := eat_spec isF (.bool false) (fun v hv => isF_eq hv) 256 l [] he
      rw [List.append_nil] at e
      refine ⟨⟨l⟩, rfl, by show l.length = 256; rw [e, List.length_replicate], fun i hi => ?_⟩
      rw [← Array.getElem?_toList]
      show l[i]? = _
      rw [e, List.getElem?_replicate, if_pos hi]
      rfl
    · cases h
  · cases h
theorem zero_set (c : Array Value) (hz : Tryd.t111.zero = some (.agg c)) (w : World) : (zeroValue 111).run Tryd.prog w = .ok (.agg c) w := by
  simp only [zeroValue, Sem.run_bind, Tryd.typeInfo111, Result.andThen_ok, hz, Sem.run_pure]
theorem SetAt.add {w : World} {b : Nat} {cs : List UInt8} (h : SetAt w b cs) (c : UInt8) : SetAt (w.setCell ⟨b, c.toNat, none⟩ (.bool true)) b (cs ++ [c]) :=
  World.rowIs.congr (World.rowIs.set h c.toNat _) fun j hj => by
    unfold setV
    rw [List.any_append]
    by_cases e : j = c.toNat
    · subst e; rw [if_pos rfl]; simp
    · rw [if_neg e]
      have : ([c].any fun c => c.toNat == j) = false := by simp; omega
      rw [this, Bool.or_false]
set_option maxRecDepth 100000 in
theorem info_set : (Tryd.prog.info? 111).map (·.size) = some 256 := by
  have h : Tryd.prog.info? 111 = some Tryd.t111 := Tryd.type111
  rw [h]; rfl
theorem any_nat (cs : List UInt8) (c : UInt8) : (cs.any fun d => d.toNat == c.toNat) = cs.contains c := by
  rw [Bool.eq_iff_iff, List.any_eq_true, List.contains_iff_mem]
  constructor
  · rintro ⟨d, hd, h⟩
    have : d = c := UInt8.toNat_inj.1 (by simpa using h)
    rwa [← this]
  · intro h
    exact ⟨c, h, by simp⟩
set_option maxHeartbeats 1000000 in
theorem contains_any (b : Nat) (cs : List UInt8) (c : UInt8) (w : World) (h : SetAt w b cs) :
    Calls Tryd.prog 102 #[.pointer (some ⟨b, 0, none⟩), .int .u8 (c.toNat : Int)] w fun e w' => e = .returned (.bool (cs.contains c)) ∧ w = w' := by
  have hc := World.rowIs.cell h (show c.toNat < 256 from c.toNat_lt)
  have e : setV cs c.toNat = .bool (cs.contains c) := by
    unfold setV
    rw [any_nat]
  rw [e] at hc
  have h256 := c.toNat_lt
  obtain ⟨n, hn⟩ : ∃ n, c.toNat = n := ⟨_, rfl⟩
  rw [hn] at hc h256 ⊢
  obtain ⟨r, hr⟩ : ∃ r, cs.contains c = r := ⟨_, rfl⟩
  rw [hr] at hc ⊢
  clear h e hn hr
  go_enter Tryd.func102, Tryd.ntmps102
  go_wp2
  go_ret
  exact ⟨rfl, rfl⟩
def RetSet (w : World) (cs : List UInt8) (e : Ending) (w' : World) : Prop :=
  ∃ c : Array Value, e = .returned (.tuple #[.agg c, .bool true]) ∧ c.size = 256 ∧ (∀ i, i < 256 → c[i]? = some (setV cs i)) ∧ Below w.heap.size w w'
theorem load_set {w : World} {b : Nat} {cs : List UInt8} (h : SetAt w b cs) :
    ∃ c : Array Value, (loadVar 111 ⟨b, 0, none⟩).run Tryd.prog w = .ok (.agg c) w ∧ c.size = 256 ∧ ∀ i, i < 256 → c[i]? = some (setV cs i) := by
  obtain ⟨c, hb, hs, hc⟩ := h
  exact ⟨c, run_loadVar_row w b 111 111 c (0, 0) _ hb Tryd.underlying111 rfl (by rw [hs]; exact info_set), hs, hc⟩
theorem store_set {w : World} {b : Nat} {cs ds : List UInt8} (h : SetAt w b cs) (c : Array Value) (hs : c.size = 256) (hc : ∀ i, i < 256 → c[i]? = some (setV ds i)) :
    ∃ w', (storeVar 111 ⟨b, 0, none⟩ (.agg c)).run Tryd.prog w = .ok () w' ∧ SetAt w' b ds ∧ Keep b w w' := by
  obtain ⟨c0, hb, hs0, _⟩ := h
  have h1 : c.all (·.oneCell') = true := by
    rw [Array.all_eq_true]
    intro i hi
    have hi' : i < 256 := by omega
    have := hc i hi'
    rw [Array.getElem?_eq_getElem hi] at this
    rw [Option.some.inj this]
    rfl
  refine ⟨_, run_storeVar_row w b 111 111 c0 c hb (by rw [hs]; exact info_set) (by rw [hs0, hs]) h1, ⟨c, setRow_heap w b c0 c _ _ hb, hs, hc⟩, ⟨rfl, rfl, rfl, by simp, fun i hi hn => setRow_other w b i _ (by omega)⟩⟩
theorem SetAt.frozen {w : World} {b : Nat} {cs : List UInt8} (h : SetAt w b cs) (i : Nat) : w.frozen? ⟨b, i, none⟩ = false := by
  obtain ⟨c, hb, _⟩ := h
  exact Lib.frozen_of_heap hb i
theorem SetAt.below {w w' : World} {b : Nat} {cs : List UInt8} (h : SetAt w b cs) (k : Below w.heap.size w w') : SetAt w' b cs := World.rowIs.of_block h (k.block b (World.rowIs.lt h))
theorem set_new (w : World) (c : Array Value) (hs : c.size = 256) (cs : List UInt8) (hc : ∀ i, i < 256 → c[i]? = some (setV cs i)) : SetAt (w.alloc (.cells c 111)) w.heap.size cs := by
  have h := World.rowIs_alloc w c 111 (setV cs) (fun i hi => hc i (by omega))
  rw [hs] at h
  exact h
set_option maxRecDepth 100000 in
set_option maxHeartbeats 4000000 in
theorem makeSet_any (cs : List UInt8) (hl : cs.length ≤ 100) (ha : ∀ c ∈ cs, c.toNat < 128) (w : World) :
    Calls Tryd.prog 95 #[.string (sOf cs)] w (RetSet w cs) := by
  obtain ⟨c, hz, hs, hc⟩ := setZero_spec setZero_t
  have hb := zero_set c hz
  obtain ⟨s, hs', hsz, hat⟩ : ∃ s, sOf cs = s ∧ s.size = cs.length ∧ ∀ i (h : i < cs.length) (h' : i < s.size), s[i] = cs[i] := ⟨_, rfl, sOf_size cs, fun i h h' => by
    have h1 : (sOf cs).data[i]'h' = cs[i] := by simp only [sOf, List.getElem_toArray]; rfl
    exact h1⟩
  have N0 := Lib.hid (set_new w c hs [] hc)
  have B0 : Hid (Below w.heap.size w (w.alloc (.cells c 111))) := (Below.refl _ _).alloc (Nat.le_refl _) _
  have HA := Lib.hid ha
  have HAT := Lib.hid hat
  rw [hs']
  have HL := Lib.hid hl
  have hsl : s.size ≤ 100 := by omega
  have SZ := Lib.hid hsz
  clear hz hs hc ha hs' hat hl hsz
  go_enter Tryd.func95, Tryd.ntmps95
  go_wp2
  obtain ⟨w0, hw0⟩ : ∃ w0, w.alloc (.cells c 111) = w0 := ⟨_, rfl⟩
  rw [hw0] at N0 B0 ⊢
  clear hw0
  go_loopw [4] (fun iv wr => ∃ k : Nat, k ≤ s.size ∧ iv = .int .i64 k ∧ Hid (SetAt wr w.heap.size (cs.take k)) ∧ Hid (Below w.heap.size w wr)) (fun iv _ => s.size - (intOf iv).toNat)
  case atStart => exact ⟨0, Nat.zero_le _, rfl, N0.out, B0.out⟩
  case round =>
    clear N0 B0
    obtain ⟨k, hk, rfl, N, B⟩ := hrel
    by_cases hlt : k < s.size
    · have hkc : k < cs.length := by rw [← SZ.out]; exact hlt
      have hx : s[k] = cs[k] := HAT.out k hkc hlt
      have h128 : (s[k]).toNat < 128 := by rw [hx]; exact HA.out _ (List.getElem_mem hkc)
      have N2 : Hid (SetAt (wr.setCell ⟨w.heap.size, (s[k]).toNat, none⟩ (.bool true)) w.heap.size (cs.take (k + 1))) := by
        show SetAt _ _ _
        rw [List.take_succ_eq_append_getElem hkc, ← hx]
        exact N.out.add _
      have B2 : Hid (Below w.heap.size w (wr.setCell ⟨w.heap.size, (s[k]).toNat, none⟩ (.bool true))) := B.out.setCell (p := ⟨w.heap.size, (s[k]).toNat, none⟩) (Nat.le_refl _) _
      have c0 := World.rowIs.cell N.out (show (s[k]).toNat < 256 by omega)
      have f0 := N.out.frozen (s[k]).toNat
      unfold setV at c0
      obtain ⟨y, hy⟩ : ∃ y, (s[k]).toNat = y := ⟨_, rfl⟩
      obtain ⟨q, hq⟩ : ∃ q, ((cs.take k).any fun c => c.toNat == (s[k]).toNat) = q := ⟨_, rfl⟩
      rw [hq] at c0
      have hyi : ((s[k]).toNat : Int) = (y : Int) := by rw [hy]
      rw [hy] at c0 f0 h128 N2 B2
      clear hx hq hkc
      go_wp2
      go_roundw
      case rel => exact ⟨k + 1, hlt, by go_num, N2.out, B2.out⟩
      case measure => simp [intOf]; omega
    · have hk2 : cs.take k = cs := List.take_of_length_le (by have := SZ.out; omega)
      have N1 := N.out
      rw [hk2] at N1
      obtain ⟨d, hl, hs, hc⟩ := load_set N1
      obtain ⟨w2, hst, hN2, hK⟩ := store_set N1 d hs hc
      obtain ⟨d2, hl2, hs2, hc2⟩ := load_set hN2
      have F : Hid (RetSet w cs (.returned (.tuple #[.agg d2, .bool true])) w2) := ⟨d2, rfl, hs2, hc2, B.out.trans (hK.below (Nat.le_refl _) B.out.size)⟩
      clear hk2 N1 hs hc hs2 hc2 hN2 hK N B
      go_wp2_with (first | (refine wpList_load_var rfl 111 (.tmp 2) rfl _ rfl _ hl ?_) | (refine wpList_store_var rfl 111 (.tmp 2) (.tmp 20) rfl _ rfl _ rfl hst ?_))
      refine bodyPost_ret (v := .tuple #[.agg d2, .bool true]) ?_ ?_ F.out
      rotate_left
      · rfl
      refine (results_cell_tmp rfl _ _ _).trans ?_
      show (((loadVar 111 ⟨w.heap.size, 0, none⟩).run Tryd.prog w2).andThen fun v w₂ => Result.ok (Value.tuple #[v, .bool true]) w₂) = _
      rw [hl2]
      rfl
/-- Without the bytes of a set in front; without those at the end. -/
def trimLS (cs : List UInt8) (s : ByteArray) : ByteArray := ⟨(s.data.toList.dropWhile (cs.contains ·)).toArray⟩
theorem trimLS_same (cs : List UInt8) (t : ByteArray) (h : 0 < t.size) (e : cs.contains t[0] = true) : trimLS cs (t.extract 1 t.size) = trimLS cs t := by
  apply bytes_ext
  unfold trimLS
  simp only [list_cons t h, List.dropWhile_cons, e, if_true]
theorem trimLS_stop (cs : List UInt8) (t : ByteArray) (h : 0 < t.size) (e : cs.contains t[0] = false) : trimLS cs t = t := by
  apply bytes_ext
  unfold trimLS
  show List.dropWhile (cs.contains ·) t.data.toList = _
  rw [list_cons t h, List.dropWhile_cons]
  simp only [e, Bool.false_eq_true, if_false]
theorem bytes_nil {t : ByteArray} (h : ¬ 0 < t.size) : t.data.toList = [] := by
  have h3 : t.data.toList.length = t.size := by simp
  exact List.eq_nil_of_length_eq_zero (by omega)
theorem trimLS_nil (cs : List UInt8) (t : ByteArray) (h : ¬ 0 < t.size) : trimLS cs t = t := by
  apply bytes_ext
  unfold trimLS
  simp [bytes_nil h]
set_option maxHeartbeats 1000000 in
theorem trimLeftSet_any (b : Nat) (cs : List UInt8) (s : ByteArray) (hs : s.size ≤ maxLen) (w : World) (hS : SetAt w b cs) :
    Calls Tryd.prog 96 #[.string s, .pointer (some ⟨b, 0, none⟩)] w fun e w' => e = .returned (.string (trimLS cs s)) ∧ w = w' := by
  unfold maxLen at hs
  have SA := Lib.hid hS
  clear hS
  go_enter Tryd.func96, Tryd.ntmps96
  go_wp2
  go_loop [0] (fun v => ∃ t : ByteArray, v = .string t ∧ t.size ≤ 2 ^ 63 - 1 ∧ Hid (trimLS cs t = trimLS cs s)) (fun v => strLen v)
  case atStart => exact ⟨s, rfl, hs, rfl⟩
  case round =>
    obtain ⟨t, rfl, ht, T⟩ := hrel
    by_cases h : 0 < t.size
    · have hne : ((t.size : Int) == 0) = false := by rw [beq_eq_false_iff_ne]; omega
      have hca := contains_any b cs t[0] w SA.out
      cases e : cs.contains t[0]
      · have N : Hid (t = trimLS cs s) := (trimLS_stop cs t h e).symm.trans T.out
        rw [e] at hca
        clear e
        go_wp2_with fail
        refine hca.mono ?_
        rintro e w' ⟨rfl, rfl⟩
        go_wp2
        go_ret
        exact ⟨ret_str N.out, rfl⟩
      · have N : Hid (trimLS cs (t.extract 1 t.size) = trimLS cs s) := (trimLS_same cs t h e).trans T.out
        rw [e] at hca
        clear e
        go_wp2_with fail
        refine hca.mono ?_
        rintro e w' ⟨rfl, rfl⟩
        go_wp2
        go_round
        case rel => exact ⟨_, rfl, Nat.le_trans (extract_le t 1 t.size) ht, N⟩
        case measure => simp [strLen]; omega
    · have N : Hid (t = trimLS cs s) := (trimLS_nil cs t h).symm.trans T.out
      go_wp2
      go_ret
      exact ⟨ret_str N.out, rfl⟩
set_option maxRecDepth 100000 in
set_option maxHeartbeats 1000000 in
theorem trimL_any (s : ByteArray) (hs : s.size ≤ maxLen) (w : World) :
    Calls Tryd.prog 71 #[.string s, .string ⟨#[32, 9]⟩] w fun e w' => e = .returned (.string (trimLS [32, 9] s)) ∧ Below w.heap.size w w' := by
  have hmk := Lib.hid (makeSet_any [32, 9] (by decide) (by decide) w)
  cases he : s.toList.isEmpty
  case true =>
    have E : Hid (s = trimLS [32, 9] s) := by
      refine (trimLS_nil [32, 9] s ?_).symm
      rw [ByteArray.toList_eq] at he
      have h3 : s.data.toList.length = s.size := by simp
      have h2 : s.data.toList = [] := by simpa using he
      rw [h2] at h3
      simp at h3
      omega
    clear hmk
    go_enter Tryd.func71, Tryd.ntmps71
    go_wp2
    go_ret
    exact ⟨ret_str E.out, Below.refl _ _⟩
  case false =>
    obtain ⟨z, hz, hzs, hzc⟩ := setZero_spec setZero_t
    have hb := zero_set z hz
    have HS := Lib.hid hs
    clear hz
    go_enter Tryd.func71, Tryd.ntmps71
    go_wp2_with fail
    refine hmk.out.mono ?_
    rintro e w1 ⟨c, rfl, hcs, hcc, hb1⟩
    have S0 := set_new w1 z hzs [] hzc
    have B1 : Below w.heap.size w (w1.alloc (.cells z 111)) := hb1.alloc hb1.size _
    obtain ⟨w2, hst, S2, K2⟩ := store_set S0 c hcs hcc
    have B2 : Hid (Below w.heap.size w w2) := B1.trans (K2.below hb1.size B1.size)
    have S3 := Lib.hid S2
    clear hcs hcc hb1 S0 B1 S2 K2 hzs hzc hmk
    go_wp2_with (first | (refine wpList_store_var rfl 111 (.tmp 5) (.tmp 29) rfl _ rfl _ rfl hst ?_) | fail)
    refine (trimLeftSet_any _ [32, 9] s HS.out _ S3.out).mono ?_
    rintro e w3 ⟨rfl, rfl⟩
    go_wp2
    go_ret
    exact ⟨rfl, B2.out⟩
theorem trimLS_list (s : ByteArray) : (trimLS [32, 9] s).data.toList = s.data.toList.drop (skN s.data.toList) := by
  unfold trimLS
  show s.data.toList.dropWhile _ = _
  unfold skN
  have e : (fun c : UInt8 => ([32, 9] : List UInt8).contains c) = blkU := by
    funext c
    unfold blkU
    rw [Bool.eq_iff_iff]
    simp
  rw [e]
  generalize s.data.toList = l
  induction l with
  | nil => rfl
  | cons a l ih =>
    rw [List.dropWhile_cons, List.takeWhile_cons]
    split
    · simpa using ih
    · rfl
end Go.Proofs.YtcmcikcagpkocaaDoor.Lt
