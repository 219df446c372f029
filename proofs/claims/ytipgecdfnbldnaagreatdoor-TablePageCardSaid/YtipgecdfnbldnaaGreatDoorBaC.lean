/-
  OpC, OpD, OpE, OpF, OpG, OpH, InC: texts joined to one.
-/
import Derived.Test.YtipgecdfnbldnaaGreatDoorBaB
import Derived.Laws.Tables
import Derived.Deep.WholeRow
import Derived.Deep.RegionHeld3
import Derived.Deep.DrawnRows
import Derived.Test.YtipgecdfnbldnaaGreatDoorBaA
set_option linter.all false
set_option maxRecDepth 100000
set_option maxHeartbeats 4000000
/-
  The walk over operand.kinds.
-/
namespace Go.Proofs.YtipgecdfnbldnaaGreatDoor
open Go.RowKit
def kindsA : Array Value := #[.nilFunc, .int .i64 0, .int .i64 0, .nilFunc,
  .func (.func 111) #[] #[], .int .i64 0, .int .i64 0, .func (.func 112) #[] #[],
  .func (.func 113) #[] #[], .int .i64 0, .int .i64 0, .func (.func 112) #[] #[],
  .func (.func 114) #[] #[], .int .i64 0, .int .i64 0, .func (.func 112) #[] #[],
  .func (.func 115) #[] #[], .int .i64 0, .int .i64 0, .func (.func 116) #[] #[],
  .func (.func 117) #[] #[], .int .i64 (-128), .int .i64 127, .func (.func 118) #[] #[],
  .func (.func 119) #[] #[], .int .i64 (-32768), .int .i64 65535, .func (.func 120) #[] #[],
  .func (.func 119) #[] #[], .int .i64 0, .int .i64 65535, .func (.func 121) #[] #[],
  .func (.func 122) #[] #[], .int .i64 0, .int .i64 0, .func (.func 112) #[] #[],
  .func (.func 123) #[] #[], .int .i64 0, .int .i64 0, .func (.func 112) #[] #[],
  .func (.func 119) #[] #[], .int .i64 (-128), .int .i64 127, .func (.func 124) #[] #[]]
theorem wpList_build {P : Program} {ops : Array Oper} {Q : Exit → Act → World → Prop} {o : Oper} {l : List Oper} {a : Act} {w : World} (t : TypeId) (parts : Array (Nat × Operand)) (ho : o.op = .build t parts) (hg : o.guard = none) (cells : Array Value)
    (hc : P.built t (parts.map fun (i, x) => (i, a.eval x)).toList = some cells) (h : wpList P ops Q l (a.put o.dst (.agg cells)) w) : wpList P ops Q (o :: l) a w := by
  simp only [wpList]
  rw [if_pos (by simp [Region.wanted, hg])]
  left
  exact wp_build t parts ho (by rw [hc]; rfl) (by rw [hc]; exact h)
theorem kindsA_size : kindsA.size = 44 := rfl
theorem kinds_any (w : World) :
    Calls Tryz.prog 96 #[] w fun e w' => e = .returned (.agg kindsA) ∧ w.alloc (.cells kindsA 135) = w' := by
  have hst : ∀ c : Array Value, c.size = 44 → (storeCells ⟨w.heap.size, 0, none⟩ kindsA.toList 0).run Tryz.prog (w.alloc (.cells c 135)) = .ok () (w.alloc (.cells kindsA 135)) := fun c hc =>
    run_storeCells_new w 135 c kindsA (by kernel_rfl) (by rw [hc, kindsA_size]) (by kernel_rfl)
  have hld : (loadVar 135 ⟨w.heap.size, 0, none⟩).run Tryz.prog (w.alloc (.cells kindsA 135)) = .ok (.agg kindsA) (w.alloc (.cells kindsA 135)) :=
    run_loadVar_new w 135 kindsA 11 113 (by kernel_rfl) (by kernel_rfl)
  have hks := kindsA_size
  go_enter Tryz.func96, Tryz.ntmps96
  go_wp2_with (with_reducible refine wpList_build (o := ⟨some 11, _, _, _, _, _⟩) _ _ rfl rfl kindsA (by kernel_rfl) ?_)
  refine bodyPost_ret (v := .agg kindsA) ?_ rfl ⟨rfl, rfl⟩
  simp [results, Tryz.results96, asAddr, hld]
end Go.Proofs.YtipgecdfnbldnaaGreatDoor
/-
  The walk over operand.find.
-/
namespace Go.Proofs.YtipgecdfnbldnaaGreatDoor
open Go.RowKit
theorem bcell {W w1 : World} (hb : Below W.heap.size W w1) : (∀ b o, b < W.heap.size → w1.cell? ⟨b, o, none⟩ = W.cell? ⟨b, o, none⟩) ∧ (∀ b o, b < W.heap.size → w1.frozen? ⟨b, o, none⟩ = W.frozen? ⟨b, o, none⟩) :=
  ⟨fun b o h => hb.cell (p := ⟨b, o, none⟩) h, fun b o h => hb.frozen (p := ⟨b, o, none⟩) h⟩
attribute [local go_sem ↓] Go.wp_at_zero Go.wp_at_succ
theorem find_kind (k : Nat) (fn ff : FuncId) (lo hi r n : Int) (s : ByteArray) (h0 : 1 ≤ k) (h1 : k ≤ 10)
    (hi1 : ∀ w, (Instr.index 135 (.agg kindsA) (.int .i64 (k : Int))).run Tryz.prog w = .ok (.agg #[.func (.func fn) #[] #[], .int .i64 lo, .int .i64 hi, .func (.func ff) #[] #[]]) w)
    (he : ∀ args w, (callFunc fn args).run Tryz.prog w = .ok (.enter fn args) w)
    (hn : ∀ w, Calls Tryz.prog fn #[.int .i64 r] w fun e w' => e = .returned (.tuple #[.string s, .bool true]) ∧ Below w.heap.size w w')
    (hl : lo ≤ n) (hh : n ≤ hi) (w : World) :
    Calls Tryz.prog 74 #[.agg #[.int .i64 (k : Int), .int .i64 r, .int .i64 n]] w fun e w' =>
      e = .returned (.tuple #[.agg #[.func (.func fn) #[] #[], .int .i64 lo, .int .i64 hi, .func (.func ff) #[] #[]], .string s, .bool true]) ∧ Below w.heap.size w w' := by
  have HF := fits1_yes 1 10 (k : Int) (by omega) (by omega)
  have HG := Lib.hid (fits1_yes lo hi n hl hh)
  have HN := Lib.hid hn
  clear hn hl hh
  go_enter Tryz.func74, Tryz.ntmps74
  go_wp2_with fail
  refine (fit1_any 1 10 (k : Int) _ true HF _ (by simp [go_sem])).mono ?_
  rintro e w' ⟨rfl, rfl⟩
  clear HF
  go_wp2
  go_region_held3 (fun w' => w'.cell? ⟨w.heap.size, 0, none⟩ = some (.int .i64 (k : Int))) (simp [go_sem]) ((go_at_call 96; refine (kinds_any _).mono ?_; rintro e w' ⟨rfl, rfl⟩))
  all_goals
    go_wp2_with fail
    refine (HN.out _).mono ?_
    rintro e w5 ⟨rfl, hb5⟩
    obtain ⟨hc5, hf5⟩ := bcell hb5
    have hz5 := hb5.size
    simp at hz5
    have z4 : w.heap.size + 1 + 1 + 1 + 1 < w5.heap.size := by omega
    have z3 : w.heap.size + 1 + 1 + 1 < w5.heap.size := by omega
    have z1 : w.heap.size + 1 < w5.heap.size := by omega
    have z0 : w.heap.size < w5.heap.size := by omega
    clear hz5
    have N : Hid (Below w.heap.size w w5) := by
      refine Below.trans ?_ (hb5.mono (by simp; omega))
      repeat (first | exact Below.refl _ _ | refine Below.drew ?_ | refine Below.alloc ?_ (by simp <;> omega) _)
    clear hb5 hi1 he
    go_wp2_with fail
    refine (fit1_any lo hi n _ true HG.out _ (by simp [go_sem])).mono ?_
    rintro e w6 ⟨rfl, rfl⟩
    go_wp2
    refine bodyPost_ret (v := .tuple #[.agg #[.func (.func fn) #[] #[], .int .i64 lo, .int .i64 hi, .func (.func ff) #[] #[]], .string s, .bool true]) (by simp [results, Tryz.results74, go_sem, hc5, hf5, z0, z1, z3, z4]) rfl ⟨rfl, ?_⟩
    exact ((((N.out.setCell (by simp) _).setCell (by simp) _).setCell (by simp) _).setCell (by simp) _).alloc (by simp; omega) _
theorem find_nameless (k : Nat) (fn ff : FuncId) (lo hi r n : Int) (s : ByteArray) (h0 : 1 ≤ k) (h1 : k ≤ 10)
    (hi1 : ∀ w, (Instr.index 135 (.agg kindsA) (.int .i64 (k : Int))).run Tryz.prog w = .ok (.agg #[.func (.func fn) #[] #[], .int .i64 lo, .int .i64 hi, .func (.func ff) #[] #[]]) w)
    (he : ∀ args w, (callFunc fn args).run Tryz.prog w = .ok (.enter fn args) w)
    (hn : ∀ w, Calls Tryz.prog fn #[.int .i64 r] w fun e w' => e = .returned (.tuple #[.string s, .bool false]) ∧ Below w.heap.size w w')
    (w : World) :
    Calls Tryz.prog 74 #[.agg #[.int .i64 (k : Int), .int .i64 r, .int .i64 n]] w fun e w' =>
      e = .returned (.tuple #[.agg #[.nilFunc, .int .i64 0, .int .i64 0, .nilFunc], .string ⟨#[]⟩, .bool false]) ∧ Below w.heap.size w w' := by
  have HF := fits1_yes 1 10 (k : Int) (by omega) (by omega)
  have HN := Lib.hid hn
  clear hn
  go_enter Tryz.func74, Tryz.ntmps74
  go_wp2_with fail
  refine (fit1_any 1 10 (k : Int) _ true HF _ (by simp [go_sem])).mono ?_
  rintro e w' ⟨rfl, rfl⟩
  clear HF
  go_wp2
  go_region_held3 (fun w' => w'.cell? ⟨w.heap.size, 0, none⟩ = some (.int .i64 (k : Int))) (simp [go_sem]) ((go_at_call 96; refine (kinds_any _).mono ?_; rintro e w' ⟨rfl, rfl⟩))
  all_goals
    go_wp2_with fail
    refine (HN.out _).mono ?_
    rintro e w5 ⟨rfl, hb5⟩
    obtain ⟨hc5, hf5⟩ := bcell hb5
    have hz5 := hb5.size
    simp at hz5
    have z4 : w.heap.size + 1 + 1 + 1 + 1 < w5.heap.size := by omega
    have z3 : w.heap.size + 1 + 1 + 1 < w5.heap.size := by omega
    have z1 : w.heap.size + 1 < w5.heap.size := by omega
    have z0 : w.heap.size < w5.heap.size := by omega
    clear hz5
    have N : Hid (Below w.heap.size w w5) := by
      refine Below.trans ?_ (hb5.mono (by simp; omega))
      repeat (first | exact Below.refl _ _ | refine Below.drew ?_ | refine Below.alloc ?_ (by simp <;> omega) _)
    clear hb5 hi1 he
    go_wp2
    refine bodyPost_ret (v := .tuple #[.agg #[.nilFunc, .int .i64 0, .int .i64 0, .nilFunc], .string ⟨#[]⟩, .bool false]) (by simp [results, Tryz.results74, go_sem, hc5, hf5, z0, z1, z3, z4]) rfl ⟨rfl, ?_⟩
    exact (((N.out.setCell (by simp) _).setCell (by simp) _).setCell (by simp) _).setCell (by simp) _
theorem find_wide (k : Nat) (fn ff : FuncId) (lo hi r n : Int) (s : ByteArray) (h0 : 1 ≤ k) (h1 : k ≤ 10)
    (hi1 : ∀ w, (Instr.index 135 (.agg kindsA) (.int .i64 (k : Int))).run Tryz.prog w = .ok (.agg #[.func (.func fn) #[] #[], .int .i64 lo, .int .i64 hi, .func (.func ff) #[] #[]]) w)
    (he : ∀ args w, (callFunc fn args).run Tryz.prog w = .ok (.enter fn args) w)
    (hn : ∀ w, Calls Tryz.prog fn #[.int .i64 r] w fun e w' => e = .returned (.tuple #[.string s, .bool true]) ∧ Below w.heap.size w w')
    (hl : n < lo ∨ hi < n) (w : World) :
    Calls Tryz.prog 74 #[.agg #[.int .i64 (k : Int), .int .i64 r, .int .i64 n]] w fun e w' =>
      e = .returned (.tuple #[.agg #[.nilFunc, .int .i64 0, .int .i64 0, .nilFunc], .string ⟨#[]⟩, .bool false]) ∧ Below w.heap.size w w' := by
  have HF := fits1_yes 1 10 (k : Int) (by omega) (by omega)
  have HG := Lib.hid (fits1_no lo hi n hl)
  have HN := Lib.hid hn
  clear hn hl
  go_enter Tryz.func74, Tryz.ntmps74
  go_wp2_with fail
  refine (fit1_any 1 10 (k : Int) _ true HF _ (by simp [go_sem])).mono ?_
  rintro e w' ⟨rfl, rfl⟩
  clear HF
  go_wp2
  go_region_held3 (fun w' => w'.cell? ⟨w.heap.size, 0, none⟩ = some (.int .i64 (k : Int))) (simp [go_sem]) ((go_at_call 96; refine (kinds_any _).mono ?_; rintro e w' ⟨rfl, rfl⟩))
  all_goals
    go_wp2_with fail
    refine (HN.out _).mono ?_
    rintro e w5 ⟨rfl, hb5⟩
    obtain ⟨hc5, hf5⟩ := bcell hb5
    have hz5 := hb5.size
    simp at hz5
    have z4 : w.heap.size + 1 + 1 + 1 + 1 < w5.heap.size := by omega
    have z3 : w.heap.size + 1 + 1 + 1 < w5.heap.size := by omega
    have z1 : w.heap.size + 1 < w5.heap.size := by omega
    have z0 : w.heap.size < w5.heap.size := by omega
    clear hz5
    have N : Hid (Below w.heap.size w w5) := by
      refine Below.trans ?_ (hb5.mono (by simp; omega))
      repeat (first | exact Below.refl _ _ | refine Below.drew ?_ | refine Below.alloc ?_ (by simp <;> omega) _)
    clear hb5 hi1 he
    go_wp2_with fail
    refine (fit1_any lo hi n _ false HG.out _ (by simp [go_sem])).mono ?_
    rintro e w6 ⟨rfl, rfl⟩
    go_wp2
    refine bodyPost_ret (v := .tuple #[.agg #[.nilFunc, .int .i64 0, .int .i64 0, .nilFunc], .string ⟨#[]⟩, .bool false]) (by simp [results, Tryz.results74, go_sem, hc5, hf5, z0, z1, z3, z4]) rfl ⟨rfl, ?_⟩
    exact ((((N.out.setCell (by simp) _).setCell (by simp) _).setCell (by simp) _).setCell (by simp) _).alloc (by simp; omega) _
theorem find_out (k r n : Int) (h : k < 1 ∨ 10 < k) (w : World) :
    Calls Tryz.prog 74 #[.agg #[.int .i64 k, .int .i64 r, .int .i64 n]] w fun e w' =>
      e = .returned (.tuple #[.agg #[.nilFunc, .int .i64 0, .int .i64 0, .nilFunc], .string ⟨#[]⟩, .bool false]) ∧ Below w.heap.size w w' := by
  have HF := fits1_no 1 10 k h
  clear h
  go_enter Tryz.func74, Tryz.ntmps74
  go_wp2_with fail
  refine (fit1_any 1 10 k _ false HF _ (by simp [go_sem])).mono ?_
  rintro e w' ⟨rfl, rfl⟩
  clear HF
  go_wp2
  refine bodyPost_ret (v := .tuple #[.agg #[.nilFunc, .int .i64 0, .int .i64 0, .nilFunc], .string ⟨#[]⟩, .bool false]) (by simp [results, Tryz.results74, go_sem]) rfl ⟨rfl, ?_⟩
  repeat (first | exact Below.refl _ _ | refine Below.setCell ?_ (by simp) _ | refine Below.alloc ?_ (by simp <;> omega) _)
end Go.Proofs.YtipgecdfnbldnaaGreatDoor
/-
  Walks over the functions that write the forms of operands.
-/
namespace Go.Proofs.YtipgecdfnbldnaaGreatDoor
open Go.RowKit
def offS (n : Int) : ByteArray := if n < 0 then ⟨#[45]⟩ ++ textS (-n) else ⟨#[43]⟩ ++ textS n
def brS (s : ByteArray) : ByteArray := ⟨#[40]⟩ ++ s ++ ⟨#[41]⟩
def formS (k : Nat) (s : ByteArray) (n : Int) : ByteArray := match k with
  | 4 => brS s
  | 5 => brS (s ++ offS n)
  | 6 => if n < 0 then offS n else textS n
  | 7 => brS (textS n)
  | 10 => ⟨#[36]⟩ ++ offS (n + 2)
  | _ => s
theorem textS_le (n : Int) : (textS n).size ≤ 6 := by
  have h := digS_le n
  have h1 : (digS n).data.toList.length = (digS n).size := by simp
  unfold textS
  split
  · show (#[] : Array UInt8).size ≤ 6; simp
  · split
    · show (#[_] : Array UInt8).size ≤ 6; simp
    · split
      · show ((digS n).data.toList ++ [72]).toArray.size ≤ 6; rw [List.size_toArray, List.length_append, h1]; simp; omega
      · show (48 :: (digS n).data.toList ++ [72]).toArray.size ≤ 6; rw [List.size_toArray, List.length_append, List.length_cons, h1]; simp; omega
theorem offS_le (n : Int) : (offS n).size ≤ 7 := by
  unfold offS
  split
  · have := textS_le (-n); rw [ByteArray.size_append]; show 1 + _ ≤ 7; omega
  · have := textS_le n; rw [ByteArray.size_append]; show 1 + _ ≤ 7; omega
theorem brackets_any (s : ByteArray) (hs : s.size ≤ 100) (w : World) :
    Calls Tryz.prog 136 #[.string s] w fun e w' => e = .returned (.string (brS s)) ∧ w = w' := by
  go_enter Tryz.func136, Tryz.ntmps136
  go_wp2
  go_ret
  exact ⟨rfl, rfl⟩
theorem offset_any (n : Int) (h0 : -100000 ≤ n) (h1 : n ≤ 100000) (w : World) :
    Calls Tryz.prog 137 #[.int .i64 n] w fun e w' => e = .returned (.string (offS n)) ∧ Below w.heap.size w w' := by
  by_cases h : n < 0
  · have T := Lib.hid (show ⟨#[45]⟩ ++ textS (-n) = offS n by unfold offS; rw [if_pos h])
    go_enter Tryz.func137, Tryz.ntmps137
    go_wp2_with fail
    refine (text_any _ _).mono ?_
    rintro e w' ⟨rfl, hb⟩
    have N := Lib.hid hb
    have zt := textS_le n
    have zn := textS_le (-n)
    clear hb
    go_wp2
    go_ret
    exact ⟨ret_str T.out, N.out⟩
  · have T := Lib.hid (show ⟨#[43]⟩ ++ textS n = offS n by unfold offS; rw [if_neg h])
    go_enter Tryz.func137, Tryz.ntmps137
    go_wp2_with fail
    refine (text_any _ _).mono ?_
    rintro e w' ⟨rfl, hb⟩
    have N := Lib.hid hb
    have zt := textS_le n
    have zn := textS_le (-n)
    clear hb
    go_wp2
    go_ret
    exact ⟨ret_str T.out, N.out⟩
theorem plain_any (s : ByteArray) (n : Int) (w : World) :
    Calls Tryz.prog 112 #[.string s, .int .i64 n] w fun e w' => e = .returned (.string s) ∧ Below w.heap.size w w' := by
  go_enter Tryz.func112, Tryz.ntmps112
  go_wp2
  go_ret
  exact ⟨rfl, Below.refl _ _⟩
theorem pointer_any (s : ByteArray) (n : Int) (hs : s.size ≤ 50) (w : World) :
    Calls Tryz.prog 116 #[.string s, .int .i64 n] w fun e w' => e = .returned (.string (brS s)) ∧ Below w.heap.size w w' := by
  go_enter Tryz.func116, Tryz.ntmps116
  go_wp2_with fail
  refine (brackets_any _ (by first | (rw [ByteArray.size_append]; omega) | omega) _).mono ?_
  rintro e w' ⟨rfl, rfl⟩
  go_wp2
  go_ret
  exact ⟨rfl, Below.refl _ _⟩
theorem indexed_any (s : ByteArray) (n : Int) (hs : s.size ≤ 50) (h0 : -100000 ≤ n) (h1 : n ≤ 100000) (w : World) :
    Calls Tryz.prog 118 #[.string s, .int .i64 n] w fun e w' => e = .returned (.string (brS (s ++ offS n))) ∧ Below w.heap.size w w' := by
  go_enter Tryz.func118, Tryz.ntmps118
  go_wp2_with fail
  refine (offset_any _ h0 h1 _).mono ?_
  rintro e w' ⟨rfl, hb⟩
  have N := Lib.hid hb
  have zt := textS_le n
  have zo := offS_le n
  have zp := offS_le (n + 2)
  clear hb
  go_wp2_with fail
  refine (brackets_any _ (by first | (rw [ByteArray.size_append]; omega) | omega) _).mono ?_
  rintro e w' ⟨rfl, rfl⟩
  go_wp2
  go_ret
  exact ⟨rfl, N.out⟩
theorem immediate_any (s : ByteArray) (n : Int) (h0 : -100000 ≤ n) (h1 : n ≤ 100000) (w : World) :
    Calls Tryz.prog 120 #[.string s, .int .i64 n] w fun e w' => e = .returned (.string (formS 6 s n)) ∧ Below w.heap.size w w' := by
  by_cases h : n < 0
  · have T := Lib.hid (show offS n = formS 6 s n by show _ = if n < 0 then offS n else textS n; rw [if_pos h])
    go_enter Tryz.func120, Tryz.ntmps120
    go_wp2_with fail
    refine (offset_any _ h0 h1 _).mono ?_
    rintro e w' ⟨rfl, hb⟩
    have N := Lib.hid hb
    have zt := textS_le n
    have zn := textS_le (-n)
    clear hb
    go_wp2
    go_ret
    exact ⟨ret_str T.out, N.out⟩
  · have T := Lib.hid (show textS n = formS 6 s n by show _ = if n < 0 then offS n else textS n; rw [if_neg h])
    go_enter Tryz.func120, Tryz.ntmps120
    go_wp2_with fail
    refine (text_any _ _).mono ?_
    rintro e w' ⟨rfl, hb⟩
    have N := Lib.hid hb
    have zt := textS_le n
    have zn := textS_le (-n)
    clear hb
    go_wp2
    go_ret
    exact ⟨ret_str T.out, N.out⟩
theorem memory_any (s : ByteArray) (n : Int) (w : World) :
    Calls Tryz.prog 121 #[.string s, .int .i64 n] w fun e w' => e = .returned (.string (brS (textS n))) ∧ Below w.heap.size w w' := by
  go_enter Tryz.func121, Tryz.ntmps121
  go_wp2_with fail
  refine (text_any _ _).mono ?_
  rintro e w' ⟨rfl, hb⟩
  have N := Lib.hid hb
  have zt := textS_le n
  have zo := offS_le n
  have zp := offS_le (n + 2)
  clear hb
  go_wp2_with fail
  refine (brackets_any _ (by first | (rw [ByteArray.size_append]; omega) | omega) _).mono ?_
  rintro e w' ⟨rfl, rfl⟩
  go_wp2
  go_ret
  exact ⟨rfl, N.out⟩
theorem relative_any (s : ByteArray) (n : Int) (h0 : -1000 ≤ n) (h1 : n ≤ 1000) (w : World) :
    Calls Tryz.prog 124 #[.string s, .int .i64 n] w fun e w' => e = .returned (.string (⟨#[36]⟩ ++ offS (n + 2))) ∧ Below w.heap.size w w' := by
  go_enter Tryz.func124, Tryz.ntmps124
  go_wp2_with fail
  refine (offset_any (n + 2) (by omega) (by omega) _).mono ?_
  rintro e w' ⟨rfl, hb⟩
  have N := Lib.hid hb
  have zt := textS_le n
  have zo := offS_le n
  have zp := offS_le (n + 2)
  clear hb
  go_wp2
  go_ret
  exact ⟨rfl, N.out⟩
end Go.Proofs.YtipgecdfnbldnaaGreatDoor
/-
  What operand.find returns, for every operand; the walks over operand.Valid and operand.Text.
-/
namespace Go.Proofs.YtipgecdfnbldnaaGreatDoor
open Go.RowKit
def loK : Nat → Int
  | 5 => -128
  | 6 => -32768
  | 10 => -128
  | _ => 0
def hiK : Nat → Int
  | 5 => 127
  | 6 => 65535
  | 7 => 65535
  | 10 => 127
  | _ => 0
def regB (k : Nat) (r : Int) : Bool := match k with
  | 6 => r == 0
  | 7 => r == 0
  | 10 => r == 0
  | k => neB (nmS k r)
def vldB (k r n : Int) : Bool := decide (1 ≤ k) && decide (k ≤ 10) && regB k.toNat r && (decide (loK k.toNat ≤ n) && decide (n ≤ hiK k.toNat))
def txtS (k r n : Int) : ByteArray := if vldB k r n then formS k.toNat (nmS k.toNat r) n else ⟨#[]⟩
theorem nmL_le : ∀ k : Fin 11, ∀ s ∈ nmL k.val, s.size ≤ 3 := by decide +kernel
theorem nmS_le' (k : Fin 11) (r : Int) : (nmS k.val r).size ≤ 50 := by
  rcases atS_mem (nmL k.val) r with h | h
  · unfold nmS; rw [h]; decide
  · have := nmL_le k _ h; unfold nmS; omega
theorem nmS_le (k : Fin 11) (r : Int) : (nmS k.val r).size ≤ 50 := nmS_le' k r
def FindYes (k r n : Int) : Prop :=
  ∃ (fn ff : FuncId) (lo hi : Int) (s : ByteArray),
    (∀ w, Calls Tryz.prog 74 #[.agg #[.int .i64 k, .int .i64 r, .int .i64 n]] w fun e w' =>
      e = .returned (.tuple #[.agg #[.func (.func fn) #[] #[], .int .i64 lo, .int .i64 hi, .func (.func ff) #[] #[]], .string s, .bool true]) ∧ Below w.heap.size w w') ∧
    (∀ args w, (callFunc ff args).run Tryz.prog w = .ok (.enter ff args) w) ∧
    ∀ w, Calls Tryz.prog ff #[.string s, .int .i64 n] w fun e w' => e = .returned (.string (txtS k r n)) ∧ Below w.heap.size w w'
def FindNo (k r n : Int) : Prop :=
  ∀ w, Calls Tryz.prog 74 #[.agg #[.int .i64 k, .int .i64 r, .int .i64 n]] w fun e w' =>
      e = .returned (.tuple #[.agg #[.nilFunc, .int .i64 0, .int .i64 0, .nilFunc], .string ⟨#[]⟩, .bool false]) ∧ Below w.heap.size w w'
theorem find_of (k : Nat) (fn ff : FuncId) (r n : Int) (h0 : 1 ≤ k) (h1 : k ≤ 10) (s : ByteArray)
    (hi1 : ∀ w, (Instr.index 135 (.agg kindsA) (.int .i64 (k : Int))).run Tryz.prog w = .ok (.agg #[.func (.func fn) #[] #[], .int .i64 (loK k), .int .i64 (hiK k), .func (.func ff) #[] #[]]) w)
    (he : ∀ args w, (callFunc fn args).run Tryz.prog w = .ok (.enter fn args) w)
    (hn : ∀ w, Calls Tryz.prog fn #[.int .i64 r] w fun e w' => e = .returned (.tuple #[.string s, .bool (regB k r)]) ∧ Below w.heap.size w w')
    (hf : ∀ args w, (callFunc ff args).run Tryz.prog w = .ok (.enter ff args) w)
    (hg : loK k ≤ n → n ≤ hiK k → ∀ w, Calls Tryz.prog ff #[.string s, .int .i64 n] w fun e w' => e = .returned (.string (formS k (nmS k r) n)) ∧ Below w.heap.size w w') :
    (vldB k r n = true → FindYes k r n) ∧ (vldB k r n = false → FindNo k r n) := by
  have hk : ((k : Int)).toNat = k := by omega
  have e1 : decide ((1 : Int) ≤ (k : Int)) = true := decide_eq_true (by omega)
  have e2 : decide ((k : Int) ≤ 10) = true := decide_eq_true (by omega)
  have hv : vldB k r n = (regB k r && (decide (loK k ≤ n) && decide (n ≤ hiK k))) := by
    unfold vldB; rw [hk, e1, e2]; simp
  rw [hv]
  constructor
  · intro h
    simp only [Bool.and_eq_true, decide_eq_true_eq] at h
    obtain ⟨a, b, c⟩ := h
    rw [a] at hn
    refine ⟨fn, ff, loK k, hiK k, s, fun w => find_kind k fn ff _ _ r n s h0 h1 hi1 he hn b c w, hf, fun w => ?_⟩
    have ht : txtS k r n = formS k (nmS k r) n := by
      unfold txtS; rw [if_pos (by rw [hv, a, decide_eq_true b, decide_eq_true c]; rfl), hk]
    rw [ht]
    exact hg b c w
  · intro h w
    by_cases a : regB k r = true
    · rw [a] at h hn
      have : n < loK k ∨ hiK k < n := by
        simp only [Bool.true_and, Bool.and_eq_false_iff, decide_eq_false_iff_not] at h
        omega
      exact find_wide k fn ff _ _ r n s h0 h1 hi1 he hn this w
    · have a' : regB k r = false := by simpa using a
      rw [a'] at hn
      exact find_nameless k fn ff _ _ r n s h0 h1 hi1 he hn w
theorem below_of_same {P : Program} {f : FuncId} {args : Array Value} {v : Value} {w : World} (h : Calls P f args w fun e w' => e = .returned v ∧ w = w') : Calls P f args w fun e w' => e = .returned v ∧ Below w.heap.size w w' :=
  h.mono fun e w' ⟨h1, h2⟩ => ⟨h1, by rw [← h2]; exact Below.refl _ _⟩
theorem find_1 (r n : Int) : (vldB 1 r n = true → FindYes 1 r n) ∧ (vldB 1 r n = false → FindNo 1 r n) :=
  find_of 1 111 112 r n (by omega) (by omega) (nmS 1 r) (fun _ => by kernel_rfl) (fun _ _ => by kernel_rfl) (fun w => name8_any r w) (fun _ _ => by kernel_rfl) (fun _ _ w => plain_any _ n w)
theorem find_2 (r n : Int) : (vldB 2 r n = true → FindYes 2 r n) ∧ (vldB 2 r n = false → FindNo 2 r n) :=
  find_of 2 113 112 r n (by omega) (by omega) (nmS 2 r) (fun _ => by kernel_rfl) (fun _ _ => by kernel_rfl) (fun w => nameHalf_any r w) (fun _ _ => by kernel_rfl) (fun _ _ w => plain_any _ n w)
theorem find_3 (r n : Int) : (vldB 3 r n = true → FindYes 3 r n) ∧ (vldB 3 r n = false → FindNo 3 r n) :=
  find_of 3 114 112 r n (by omega) (by omega) (nmS 3 r) (fun _ => by kernel_rfl) (fun _ _ => by kernel_rfl) (fun w => name16_any r w) (fun _ _ => by kernel_rfl) (fun _ _ w => plain_any _ n w)
theorem find_4 (r n : Int) : (vldB 4 r n = true → FindYes 4 r n) ∧ (vldB 4 r n = false → FindNo 4 r n) :=
  find_of 4 115 116 r n (by omega) (by omega) (nmS 4 r) (fun _ => by kernel_rfl) (fun _ _ => by kernel_rfl) (fun w => namePointer_any r w) (fun _ _ => by kernel_rfl) (fun _ _ w => pointer_any _ n (nmS_le 4 r) w)
theorem find_5 (r n : Int) : (vldB 5 r n = true → FindYes 5 r n) ∧ (vldB 5 r n = false → FindNo 5 r n) :=
  find_of 5 117 118 r n (by omega) (by omega) (nmS 5 r) (fun _ => by kernel_rfl) (fun _ _ => by kernel_rfl) (fun w => nameIndex_any r w) (fun _ _ => by kernel_rfl) (fun a b w => indexed_any _ n (nmS_le 5 r) (by simp only [loK] at a; omega) (by simp only [hiK] at b; omega) w)
theorem find_6 (r n : Int) : (vldB 6 r n = true → FindYes 6 r n) ∧ (vldB 6 r n = false → FindNo 6 r n) :=
  find_of 6 119 120 r n (by omega) (by omega) ⟨#[]⟩ (fun _ => by kernel_rfl) (fun _ _ => by kernel_rfl) (fun w => below_of_same (noName_any r w)) (fun _ _ => by kernel_rfl) (fun a b w => immediate_any _ n (by simp only [loK] at a; omega) (by simp only [hiK] at b; omega) w)
theorem find_7 (r n : Int) : (vldB 7 r n = true → FindYes 7 r n) ∧ (vldB 7 r n = false → FindNo 7 r n) :=
  find_of 7 119 121 r n (by omega) (by omega) ⟨#[]⟩ (fun _ => by kernel_rfl) (fun _ _ => by kernel_rfl) (fun w => below_of_same (noName_any r w)) (fun _ _ => by kernel_rfl) (fun a b w => memory_any _ n w)
theorem find_8 (r n : Int) : (vldB 8 r n = true → FindYes 8 r n) ∧ (vldB 8 r n = false → FindNo 8 r n) :=
  find_of 8 122 112 r n (by omega) (by omega) (nmS 8 r) (fun _ => by kernel_rfl) (fun _ _ => by kernel_rfl) (fun w => nameCondition_any r w) (fun _ _ => by kernel_rfl) (fun _ _ w => plain_any _ n w)
theorem find_9 (r n : Int) : (vldB 9 r n = true → FindYes 9 r n) ∧ (vldB 9 r n = false → FindNo 9 r n) :=
  find_of 9 123 112 r n (by omega) (by omega) (nmS 9 r) (fun _ => by kernel_rfl) (fun _ _ => by kernel_rfl) (fun w => nameControl_any r w) (fun _ _ => by kernel_rfl) (fun _ _ w => plain_any _ n w)
theorem find_10 (r n : Int) : (vldB 10 r n = true → FindYes 10 r n) ∧ (vldB 10 r n = false → FindNo 10 r n) :=
  find_of 10 119 124 r n (by omega) (by omega) ⟨#[]⟩ (fun _ => by kernel_rfl) (fun _ _ => by kernel_rfl) (fun w => below_of_same (noName_any r w)) (fun _ _ => by kernel_rfl) (fun a b w => relative_any _ n (by simp only [loK] at a; omega) (by simp only [hiK] at b; omega) w)
theorem find_any (k r n : Int) : (vldB k r n = true → FindYes k r n) ∧ (vldB k r n = false → FindNo k r n) := by
  by_cases h : 1 ≤ k ∧ k ≤ 10
  · have hc : k = 1 ∨ k = 2 ∨ k = 3 ∨ k = 4 ∨ k = 5 ∨ k = 6 ∨ k = 7 ∨ k = 8 ∨ k = 9 ∨ k = 10 := by omega
    rcases hc with rfl | rfl | rfl | rfl | rfl | rfl | rfl | rfl | rfl | rfl
    · exact find_1 r n
    · exact find_2 r n
    · exact find_3 r n
    · exact find_4 r n
    · exact find_5 r n
    · exact find_6 r n
    · exact find_7 r n
    · exact find_8 r n
    · exact find_9 r n
    · exact find_10 r n
  · have hv : vldB k r n = false := by
      unfold vldB
      by_cases h1 : 1 ≤ k
      · rw [decide_eq_false (show ¬ k ≤ 10 by omega)]; simp
      · rw [decide_eq_false h1]; simp
    rw [hv]
    exact ⟨(fun h => Bool.noConfusion h), fun _ w => find_out k r n (by omega) w⟩
theorem valid_any (k r n : Int) (w : World) :
    Calls Tryz.prog 45 #[.agg #[.int .i64 k, .int .i64 r, .int .i64 n]] w fun e w' => e = .returned (.bool (vldB k r n)) ∧ Below w.heap.size w w' := by
  obtain ⟨hy, hn⟩ := find_any k r n
  cases hv : vldB k r n
  · have H := Lib.hid (hn hv)
    clear hy hn hv
    go_enter Tryz.func45, Tryz.ntmps45
    go_wp2_with fail
    refine (H.out _).mono ?_
    rintro e w1 ⟨rfl, hb⟩
    have N : Hid (Below w.heap.size w w1) := ((Below.refl _ _).alloc (Nat.le_refl _) _).trans (hb.mono (by simp))
    have hz := N.out.size
    clear hb
    go_wp2
    go_ret
    exact ⟨rfl, N.out.alloc hz _⟩
  · obtain ⟨fn, ff, lo, hi, s, h1, -, -⟩ := hy hv
    have H := Lib.hid h1
    clear hy hn hv h1
    go_enter Tryz.func45, Tryz.ntmps45
    go_wp2_with fail
    refine (H.out _).mono ?_
    rintro e w1 ⟨rfl, hb⟩
    have N : Hid (Below w.heap.size w w1) := ((Below.refl _ _).alloc (Nat.le_refl _) _).trans (hb.mono (by simp))
    have hz := N.out.size
    clear hb
    go_wp2
    go_ret
    exact ⟨rfl, N.out.alloc hz _⟩
theorem txt_no (k r n : Int) (h : vldB k r n = false) : txtS k r n = ⟨#[]⟩ := by unfold txtS; rw [h]; rfl
theorem otext_any (k r n : Int) (w : World) :
    Calls Tryz.prog 90 #[.agg #[.int .i64 k, .int .i64 r, .int .i64 n]] w fun e w' => e = .returned (.string (txtS k r n)) ∧ Below w.heap.size w w' := by
  obtain ⟨hy, hn⟩ := find_any k r n
  cases hv : vldB k r n
  · have H := Lib.hid (hn hv)
    have T := Lib.hid (txt_no k r n hv)
    clear hy hn hv
    go_enter Tryz.func90, Tryz.ntmps90
    go_wp2_with fail
    refine (H.out _).mono ?_
    rintro e w1 ⟨rfl, hb⟩
    have N : Hid (Below w.heap.size w w1) := ((Below.refl _ _).alloc (Nat.le_refl _) _).trans (hb.mono (by simp))
    have hz := N.out.size
    clear hb
    go_wp2
    go_ret
    exact ⟨ret_str T.out.symm, N.out.alloc hz _⟩
  · obtain ⟨fn, ff, lo, hi, s, h1, hf, h2⟩ := hy hv
    have H := Lib.hid h1
    have T := Lib.hid h2
    clear hy hn hv h1 h2
    go_enter Tryz.func90, Tryz.ntmps90
    go_wp2_with fail
    refine (H.out _).mono ?_
    rintro e w1 ⟨rfl, hb⟩
    obtain ⟨hc1, -⟩ := bcell hb
    have N : Hid (Below w.heap.size w w1) := ((Below.refl _ _).alloc (Nat.le_refl _) _).trans (hb.mono (by simp))
    have hz := N.out.size
    have hz1 : w.heap.size < w1.heap.size := by have := hb.size; simp at this; omega
    clear hb
    go_wp2_with fail
    refine (T.out _).mono ?_
    rintro e w2 ⟨rfl, hb2⟩
    have M : Hid (Below w.heap.size w w2) := (N.out.alloc hz _).trans (hb2.mono (by simp; omega))
    clear hb2
    go_wp2
    go_ret
    exact ⟨rfl, M.out⟩
end Go.Proofs.YtipgecdfnbldnaaGreatDoor
/-
  Walks over the document's own answers (package breadboardref06): regs, name, Valid.
-/
namespace Go.Proofs.YtipgecdfnbldnaaGreatDoor
open Go.RowKit
end Go.Proofs.YtipgecdfnbldnaaGreatDoor
/-
  Walks over the document's own answers (package breadboardref06): Valid.
-/
namespace Go.Proofs.YtipgecdfnbldnaaGreatDoor
open Go.RowKit
end Go.Proofs.YtipgecdfnbldnaaGreatDoor
/-
  The walks over Check and the document's own Check: the code of the first mistake.
-/
namespace Go.Proofs.YtipgecdfnbldnaaGreatDoor
open Go.RowKit
def vT (t : Tr) : Bool := vldB t.1 t.2.1 t.2.2
def codeI (s : ByteArray) (L : List Tr) : Int := if knB s = false then 12 else if 3 < L.length then 11 else if L.all vT then 0 else 2
theorem code_12 (s : ByteArray) (L : List Tr) (h : knB s = false) : (12 : Int) = codeI s L := by unfold codeI; rw [if_pos h]
theorem code_11 (s : ByteArray) (L : List Tr) (h : knB s = true) (h3 : 3 < L.length) : (11 : Int) = codeI s L := by unfold codeI; rw [if_neg (by simp [h]), if_pos h3]
theorem code_0 (s : ByteArray) (L : List Tr) (h : knB s = true) (h3 : ¬ 3 < L.length) (hv : ∀ k, k < L.length → ∀ (a : k < L.length), vT L[k] = true) : (0 : Int) = codeI s L := by
  unfold codeI
  rw [if_neg (by simp [h]), if_neg h3, if_pos]
  refine List.all_eq_true.2 fun x hx => ?_
  obtain ⟨k, hk, rfl⟩ := List.getElem_of_mem hx
  exact hv k hk hk
theorem code_2 (s : ByteArray) (L : List Tr) (h : knB s = true) (h3 : ¬ 3 < L.length) (k : Nat) (hk : k < L.length) (hv : vT L[k] = false) : (2 : Int) = codeI s L := by
  unfold codeI
  rw [if_neg (by simp [h]), if_neg h3, if_neg]
  intro hq
  have := List.all_eq_true.1 hq _ (List.getElem_mem hk)
  rw [hv] at this
  cases this
attribute [local irreducible] Go.Mixed.wpMix
theorem check_all (s : ByteArray) (A : Option Addr) (cap : Nat) (L : List Tr) (hs : s.size ≤ maxLen) (hL : L.length ≤ maxLen) (w : World) (H : OpsP w A L) :
    Calls Tryz.prog 15 #[.agg #[.string s, .slice A L.length cap]] w fun e w' => e = .returned (.int .i64 (codeI s L)) ∧ Below w.heap.size w w' := by
  unfold maxLen at hL
  have X := Lib.hid H
  have C12 := Lib.hid (code_12 s L)
  have C11 := Lib.hid (code_11 s L)
  have C0 := Lib.hid (code_0 s L)
  have C2 := Lib.hid (code_2 s L)
  obtain ⟨n, hn⟩ : ∃ n, L.length = n := ⟨_, rfl⟩
  have HN := Lib.hid hn
  obtain ⟨kb, hkb⟩ : ∃ kb, knB s = kb := ⟨_, rfl⟩
  have HK := Lib.hid hkb
  rw [hn] at hL ⊢
  have T0 := Lib.hid (Bx.new w s A n cap 25)
  have B0 : Hid (Below w.heap.size w (w.alloc (.cells #[.string s, .slice A n cap] 25))) := (Below.refl _ _).alloc (Nat.le_refl _) _
  clear H hn hkb
  go_enter Tryz.func15, Tryz.ntmps15
  go_wp2
  refine Mixed.wp_region_mixed (fun w' => Bx w' w.heap.size s A n cap) 3 [(1, true), (2, true), (0, false)] (by kernel_rfl) (by kernel_rfl) T0.out ?_
  refine Mixed.wpMix_pure rfl (by kernel_rfl) (.pointer (some ⟨w.heap.size, 0, none⟩)) (fun w h => by obtain ⟨h1, h2⟩ := h; go_simp; try rfl) ?_
  refine Mixed.wpMix_pure rfl (by kernel_rfl) (.string s) (fun w h => by obtain ⟨h1, h2⟩ := h; go_simp; try rfl) ?_
  refine Mixed.wpMix_loudG rfl (by kernel_rfl) ?_
  go_wp2_with fail
  refine (mnemonics_any _).mono ?_
  rintro e w1 ⟨mb, rfl, hM, h1⟩
  have T1 : Hid (Bx w1 w.heap.size s A n cap) := T0.out.all (((below_drewN _ _ 1)).trans h1)
  have B1 : Hid (Below w.heap.size w w1) := (B0.out.trans (below_drewN _ _ 1)).trans (h1.mono (by simp))
  have LK := look_mn hM s hs
  rw [HK.out] at LK
  have xx := T1.out
  clear hM h1 T0 B0
  go_wp2
  refine ⟨xx, ?_⟩
  simp only [Mixed.wpMix, List.drop_succ_cons, List.drop_zero]
  clear xx
  cases kb with
  | false =>
    have E := Lib.hid (C12.out HK.out)
    go_wp2
    go_ret
    exact ⟨ret_int E.out, B1.out⟩
  | true =>
    have xx := T1.out
    obtain ⟨x0, x1⟩ := xx
    by_cases h3 : 3 < n
    · have E := Lib.hid (C11.out HK.out (by rw [HN.out]; exact h3))
      have h3' : (3 : Int) < (n : Int) := by omega
      go_wp2
      go_ret
      exact ⟨ret_int E.out, B1.out⟩
    · have H3 : Hid (¬ 3 < L.length) := by rw [HN.out]; exact h3
      have h3' : ¬ (3 : Int) < (n : Int) := by omega
      go_wp2
      clear h3' h3
      go_loopw [17] (fun i wr => ∃ j : Nat, j ≤ n ∧ i = .int .i64 j ∧ Hid (∀ k, k < j → ∀ (a : k < L.length), vT L[k] = true) ∧ Hid (Below w.heap.size w wr)) (fun i _ => n - (intOf i).toNat)
      case atStart => exact ⟨0, Nat.zero_le _, rfl, fun k h => by omega, B1.out⟩
      case round =>
        obtain ⟨j, hj, rfl, R, B⟩ := hrel
        by_cases hlt : j < n
        · have hj1 : j < L.length := by have := HN.out; omega
          obtain ⟨b1, o1, hA1, -, p0, p1, p2⟩ := (X.out.below B.out).at_ hj1
          subst hA1
          have HV : Hid (vT L[j] = vldB L[j].1 L[j].2.1 L[j].2.2) := rfl
          have R2 : Hid (vT L[j] = true → ∀ k, k < j + 1 → ∀ (a : k < L.length), vT L[k] = true) := fun q k hk a => by
            by_cases e : k = j
            · subst e; exact q
            · exact R.out k (by omega) a
          have N2 : Hid (vT L[j] = false → 2 = codeI s L) := fun q => C2.out HK.out H3.out j hj1 q
          obtain ⟨vb, hvb⟩ : ∃ vb, vT L[j] = vb := ⟨_, rfl⟩
          rw [hvb] at HV R2 N2
          obtain ⟨⟨y0, y1, y2⟩, hy⟩ : ∃ y, L[j] = y := ⟨_, rfl⟩
          rw [hy] at p0 p1 p2 HV
          simp only at p0 p1 p2 HV
          have VV := Lib.hid (valid_any y0 y1 y2)
          rw [← HV.out] at VV
          have hal : Below wr.heap.size wr (wr.alloc (.cells #[.int .i64 y0, .int .i64 y1, .int .i64 y2] 69)) := (Below.refl _ _).alloc (Nat.le_refl _) _
          have BA := Lib.hid (B.out.trans (hal.mono B.out.size))
          clear hy hvb hj1 R HV hal B
          go_wp2_with fail
          refine (VV.out _).mono ?_
          rintro e w2 ⟨rfl, hb⟩
          have B2 := Lib.hid (BA.out.trans (hb.mono BA.out.size))
          clear hb BA
          cases vb with
          | true =>
            go_wp2
            go_roundw
            case rel => exact ⟨j + 1, by omega, by go_num, R2.out trivial, B2.out⟩
            case measure => simp [intOf]; omega
          | false =>
            go_wp2
            go_ret
            exact ⟨ret_int (N2.out trivial), B2.out⟩
        · have hjn : j = n := by omega
          have E : Hid (0 = codeI s L) := C0.out HK.out H3.out fun k hk a => R.out k (by have := HN.out; omega) a
          clear R
          go_wp2
          go_ret
          exact ⟨ret_int E.out, B.out⟩
theorem check_any (s : ByteArray) (A : Option Addr) (cap : Nat) (L : List Tr) (hs : s.size ≤ maxLen) (hL : L.length ≤ 1000) (w : World) (H : OpsP w A L) :
    Calls Tryz.prog 15 #[.agg #[.string s, .slice A L.length cap]] w fun e w' => e = .returned (.int .i64 (codeI s L)) ∧ Below w.heap.size w w' := check_all s A cap L hs (by unfold maxLen; omega) w H
end Go.Proofs.YtipgecdfnbldnaaGreatDoor
