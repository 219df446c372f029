/-
  The walks over breadboardref03.bytes and Print: for every record, the line that record.Print returns.
-/
import Derived.Test.YtbnehcnimbkakaaRecL
import Derived.Test.YtbnehcnimbkakaaRecM
namespace Go.Proofs.Ytbnehcnimbkakaa
open Go.RowKit
set_option linter.unusedVariables false

/-- A row of bytes that has just been made, and appending bytes from anywhere. -/
theorem made_append (w0 w : World) (n : Nat) (hn : w.heap.size = n) (h0 : w0.heap.size ≤ n) (hb0 : Below w0.heap.size w0 w) (hs : List UInt8) (cs : Array Value) (hcs : cs = (hs.map u8V).toArray) {P : Nat → Prop} {A : Option Addr} {xs : List UInt8} (hx : BytesP P w A xs) (m cap : Nat) (hm : m = hs.length) (hlen : hs.length + xs.length ≤ 70368744177664) (ty : TypeId) :
    ∃ v' w', (Builtin.append_ #[22, 22] ty #[.slice (some ⟨n, 0, none⟩) m m, .slice A xs.length cap]).run Try.prog (w.alloc (.cells cs 5)) = .ok v' w' ∧ OwnB w0 w' v' (hs ++ xs) := by
  subst hn hcs hm
  obtain ⟨i0, hi, hz0, hz1, hz2⟩ := info_parts info_u8
  have hb : Below w.heap.size w (w.alloc (.cells (hs.map u8V).toArray 5)) := (Below.refl _ _).alloc (Nat.le_refl _) _
  have hown : (w.alloc (.cells (hs.map u8V).toArray 5)).ownsRow w0.heap.size 5 1 (.slice (some ⟨w.heap.size, 0, none⟩) hs.length hs.length) hs.length (hs.map u8V) :=
    ⟨by simp, .inr ⟨w.heap.size, hs.length, _, rfl, h0, heap_alloc_new w _, Nat.le_refl _, by unfold maxLen; omega, by simp, by simp only [Nat.mul_one]; exact List.take_of_length_le (by simp)⟩⟩
  obtain ⟨v', w', k1, k2, k3⟩ := run_append_src (w.alloc (.cells (hs.map u8V).toArray 5)) w0.heap.size 22 ty 5 i0 _ 1 1 Try.underlying22 hi hz0 hz1 hz2 rfl (by decide) _ _ _ hown A xs.length cap (xs.map u8V)
      (by simp) (hx.below hb).news (fun u hu => by obtain ⟨x, _, rfl⟩ := List.mem_map.1 hu; rfl) (by unfold maxLen; omega) (by omega) (by simp; omega)
  refine ⟨v', w', k1, ?_, (hb0.alloc h0 _).grown k3 (by simp; omega) fun k hk => (hown.lt k hk).1⟩
  rw [List.length_append, List.map_append]
  exact k2

/-- What breadboardref03.bytes returns. -/
def RetOwn (w : World) (xs : List UInt8) (e : Ending) (w' : World) : Prop := ∃ v, e = .returned v ∧ OwnB w w' v xs
set_option maxHeartbeats 1000000 in
theorem rrecb_any (P : Nat → Prop) (T a : Int) (A : Option Addr) (cap : Nat) (D : List UInt8) (h : rightB T a D.length = true) (w : World) (hX : BytesP P w A D) :
    Calls Try.prog 34 #[.agg #[.int .i64 T, .int .i64 a, .slice A D.length cap]] w (RetOwn w (recB T a D)) := by
  have hrr : 0 ≤ T ∧ T ≤ 255 ∧ 0 ≤ a ∧ a ≤ 65535 ∧ D.length ≤ 255 := by unfold rightB at h; exact of_decide_eq_true h
  obtain ⟨r1, r2, r3, r4, r5⟩ := hrr
  have hal : Below w.heap.size w (w.alloc (.cells #[.int .i64 T, .int .i64 a, .slice A D.length cap] 24)) := (Below.refl _ _).alloc (Nat.le_refl _) _
  have hcs : (#[.int .u8 (D.length : Int), .int .u8 (a / 256), .int .u8 (a % 256), .int .u8 T] : Array Value) = ((hdrB T a D.length).map u8V).toArray := by
    unfold hdrB u8V
    simp only [List.map_cons, List.map_nil, lowU_nat]
    rw [show ((D.length : Int)) % 256 = D.length by omega, show (a / 256) % 256 = a / 256 by omega, show T % 256 = T by omega]
  obtain ⟨v', w', k1, k2⟩ := made_append w (w.alloc (.cells #[.int .i64 T, .int .i64 a, .slice A D.length cap] 24)) (w.heap.size + 1) (by simp) (by omega) hal (hdrB T a D.length) _ hcs (hX.below hal) 4 cap rfl (by simp [hdrB]; omega) 22
  have K := Lib.hid k1
  have K2 := Lib.hid k2
  have w1 := IntKind.wrap_u8 (D.length : Int)
  have w2 := IntKind.wrap_u8 (a / 256)
  have w3 := IntKind.wrap_u8 (a % 256)
  have w4 := IntKind.wrap_u8 T
  rw [show ((D.length : Int)) % 256 = D.length by omega] at w1
  rw [show (a / 256) % 256 = a / 256 by omega] at w2
  rw [show (a % 256) % 256 = a % 256 by omega] at w3
  rw [show T % 256 = T by omega] at w4
  clear k1 k2 hcs hal hX h
  go_enter Try.func34, Try.ntmps34
  go_wp2_with (at_builtin; refine wpList_run_append K.out rfl _ _ rfl rfl rfl rfl ?_)
  go_ret
  exact ⟨_, rfl, K2.out⟩

theorem strOf_app (xs : List UInt8) (t : ByteArray) : strOf xs ++ t = strOf (xs ++ t.data.toList) := by
  apply bytes_ext
  rw [append_data]
  unfold strOf
  simp
theorem strOf_size (xs : List UInt8) : (strOf xs).size = xs.length := by
  show xs.toArray.size = _
  simp
set_option maxHeartbeats 2000000 in
theorem rprint_any (P : Nat → Prop) (T a : Int) (A : Option Addr) (cap : Nat) (D : List UInt8) (hl : D.length ≤ maxLen) (w : World) (hX : BytesP P w A D) :
    Calls Try.prog 11 #[.agg #[.int .i64 T, .int .i64 a, .slice A D.length cap]] w fun e w' => e = .returned (.tuple #[.string (printS T a D), .bool (rightB T a D.length)]) ∧ Below w.heap.size w w' := by
  have hR := fun w => rright_any T a A D.length cap hl w
  cases hr : rightB T a D.length
  · have N : Hid (printS T a D = ⟨#[]⟩) := by show _ = _; unfold printS; rw [hr]; rfl
    simp only [hr] at hR
    clear hr hX
    go_enter Try.func11, Try.ntmps11
    go_wp2_with fail
    refine (hR _).mono ?_
    rintro e w1 ⟨rfl, hB1⟩
    have B1 := Lib.hid hB1
    clear hB1 hR
    go_wp2
    go_ret2
    rw [N.out]
    exact ⟨rfl, ((Below.refl _ _).alloc (Nat.le_refl _) _).trans (B1.out.mono (by simp))⟩
  · have N : Hid (printS T a D = strOf (printL T a D)) := by show _ = _; unfold printS; rw [hr]; rfl
    have hrr := hr
    simp only [hr] at hR
    have h5 : D.length ≤ 255 := by unfold rightB at hr; exact (of_decide_eq_true hr).2.2.2.2
    have hal : Below w.heap.size w (w.alloc (.cells #[.int .i64 T, .int .i64 a, .slice A D.length cap] 24)) := (Below.refl _ _).alloc (Nat.le_refl _) _
    have htr := Tri.new w _ rfl (.int .i64 T) (.int .i64 a) (.slice A D.length cap) 24
    have XX := Lib.hid (hX.below hal)
    have TT := Lib.hid htr
    have AL := Lib.hid hal
    have H5 := Lib.hid h5
    have RR := Lib.hid hrr
    clear hr hX hal hrr h5 htr
    go_enter Try.func11, Try.ntmps11
    go_wp2_with fail
    refine (hR _).mono ?_
    rintro e w1 ⟨rfl, hB1⟩
    have hX1 := XX.out.below hB1
    have hT1 := TT.out.kept (P := fun _ => True) (KeptP.of_all hB1) trivial
    have hB0 : Below w.heap.size w w1 := AL.out.trans (hB1.mono (by simp))
    have hbb := rrecb_any _ T a A cap D RR.out w1 hX1
    have B0 := Lib.hid hB0
    obtain ⟨-, q0, q1, q2, -⟩ := hT1
    clear hB1 hX1 hB0 hR XX TT AL
    go_wp2_with fail
    refine hbb.mono ?_
    rintro e w2 ⟨v2, rfl, hO2⟩
    have hlb : (recB T a D).length = D.length + 4 := by unfold recB hdrB; simp
    obtain ⟨rb, hrb⟩ : ∃ rb, recB T a D = rb := ⟨_, rfl⟩
    have RB := Lib.hid hrb
    rw [hrb] at hO2 hlb
    obtain ⟨A2, cap2, e2, hc2, -, hX2, hBl2⟩ := ownB_endC hO2
    injection e2 with e2
    subst e2
    have hsum := rsum_any _ A2 cap2 rb (by rw [hlb]; unfold maxLen; have := H5.out; omega) w2 hX2.toP
    have hlen3 : rb.length < 140737488355328 := by have := H5.out; omega
    have O2 := Lib.hid hO2
    have L2 := Lib.hid hlen3
    have LB := Lib.hid hlb
    have BL2 := Lib.hid hBl2
    clear hbb q0 q1 q2 hrb hO2 hc2 hX2 hBl2 hlb hlen3
    go_wp2_with fail
    refine hsum.mono ?_
    rintro e w' ⟨rfl, rfl⟩
    clear hsum
    have Y := Lib.hid (chk_u rb).symm
    go_wp2_with (at_builtin; refine wpList_app1 O2.out rfl _ _ rfl rfl rfl (chkI rb) (lowU (chkI rb)) Y.out L2.out ?_; intro v3 w3 hown3)
    obtain ⟨bs, hbs⟩ : ∃ bs, rb ++ [lowU (chkI rb)] = bs := ⟨_, rfl⟩
    have BS := Lib.hid hbs
    rw [hbs] at hown3
    have hlbs : bs.length ≤ 260 := by rw [← hbs, List.length_append, LB.out]; have := H5.out; simp; omega
    obtain ⟨A3, cap3, e3, hc3, -, hX3, hBl3⟩ := ownB_endC hown3
    injection e3 with e3
    subst e3
    have X3 := Lib.hid hX3
    have B3 := Lib.hid (B0.out.trans (hBl3.mono B0.out.size))
    clear hbs hown3 hc3 hX3 hBl3
    go_wp2
    go_loop [5, 6] (fun s i => ∃ (k : Nat) (t : ByteArray), k ≤ bs.length ∧ i = .int .i64 k ∧ s = .string t ∧ t.size ≤ 1000 ∧ Hid (t = strOf (58 :: hexL (bs.take k)))) (fun _ i => bs.length - (intOf i).toNat)
    case atStart => exact ⟨0, ⟨#[58]⟩, Nat.zero_le _, rfl, rfl, by decide, rfl⟩
    case round =>
      obtain ⟨k, t, hk, rfl, rfl, ht, HT⟩ := hrel
      by_cases hlt : k < bs.length
      · obtain ⟨g, off, hA, g0⟩ := X3.out.at_ hlt
        subst hA
        have M := Lib.hid (hexL_take bs k hlt)
        obtain ⟨x, hxk⟩ : ∃ x : Int, (bs[k].toNat : Int) = x := ⟨_, rfl⟩
        have x0 : 0 ≤ x := by omega
        have x1 : x < 256 := by have := bs[k].toNat_lt; omega
        rw [hxk] at g0 M
        have N2 : Hid (t ++ hexS x 2 = strOf (58 :: hexL (bs.take (k + 1)))) := by
          show _ = _
          rw [HT.out, strOf_app, M.out]
          rfl
        have hsz : (strOf (58 :: hexL (bs.take (k + 1)))).size ≤ 1000 := by
          rw [strOf_size, List.length_cons, hexL_length, List.length_take]; omega
        have hlt' : (k : Int) < (bs.length : Int) := by omega
        have hcat : ¬ 9223372036854775807 < t.size + (hexS x 2).size := by rw [hexS_size]; omega
        clear hxk
        go_wp2_with fail
        refine (rhex_any x 2 (by omega) _).mono ?_
        rintro e w' ⟨rfl, rfl⟩
        go_wp2
        go_round
        case rel => exact ⟨k + 1, _, by omega, by go_num, rfl, by rw [N2.out]; exact hsz, N2⟩
        case measure => simp [intOf]; omega
      · have hlt' : decide ((k : Int) < (bs.length : Int)) = false := decide_eq_false (by omega)
        have E : Hid (t = strOf (printL T a D)) := by
          show _ = _
          rw [HT.out, List.take_of_length_le (by omega), ← BS.out, ← RB.out]
          rfl
        go_wp2
        go_ret2
        rw [N.out, E.out]
        exact ⟨rfl, B3.out⟩
end Go.Proofs.Ytbnehcnimbkakaa
