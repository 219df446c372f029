/-
  WrD, WrE, WrF, EnQ, DgQ, Shp, TbX.
-/
import Derived.Test.YtclhaejdjogfbaaGreatDoorHBJ
import Derived.Test.YtclhaejdjogfbaaGreatDoorHAQ
import Derived.WalkSmall
import Derived.Deep.DeepCutAuto
import Derived.Test.YtclhaejdjogfbaaGreatDoorHAA
import Derived.Laws.RangeString
import Derived.Laws.RangeAny
import Derived.Test.YtclhaejdjogfbaaGreatDoorHAP
import Derived.Test.YtclhaejdjogfbaaGreatDoorHAS
import Derived.Test.YtclhaejdjogfbaaGreatDoorWCnU
import Derived.Handed
import Derived.Shelf.Vars
import Derived.Test.YtclhaejdjogfbaaGreatDoorHAC
import Derived.Test.YtclhaejdjogfbaaGreatDoorHAI
import Derived.ProofKit
import Derived.OpenShut
set_option linter.all false
set_option maxRecDepth 100000
set_option maxHeartbeats 4000000
namespace Go.Proofs.YtclhaejdjogfbaaGreatDoor
open Go.RowKit Go.Shelf
attribute [local go_sem] Oper.semAt_some
attribute [local irreducible] Go.Mixed.wpMix
def base0 (page : Int) (d : Int) : Str := preS page ++ if 5 ≤ page then [byteI d] else []
theorem byteI_u8 (c : UInt8) : byteI (c.toNat : Int) = c := by
  have h := byteI_nat (c.toNat : Int)
  have := c.toNat_lt
  refine UInt8.toNat_inj.1 ?_
  omega
theorem enc_base (page : Int) (op : UInt8) (ex : Str) (d n : Int) : encB page (op.toNat : Int) ex d n = base0 page d ++ [op] ++ (behS page ex).flatMap (letB d n) := by
  unfold encB base0 behS
  rw [byteI_u8]
  by_cases h : 5 ≤ page
  · simp [if_pos h]
  · simp [if_neg h]
theorem pre_len (page : Int) : (preS page).length ≤ 2 := by
  unfold preS
  repeat' split
  all_goals simp
structure WrL (w wr : World) (B b it g : Nat) (h : Wri) (s2 base : Str) (d n : Int) (j : Nat) : Prop where
  le : j ≤ s2.length
  iter : wr.heap[it]? = some (.stringIter (sB s2) j)
  wrt : WrAt wr B b h (base ++ (s2.take j).flatMap (letB d n))
  pt : PtAt wr g b
  bel : Below B w wr
structure WrF (B b it g : Nat) (s2 base : Str) : Prop where
  hB : B ≤ b
  hit : b < it
  hg : b < g
  hgi : g < it
  lb : base.length ≤ 10
  ls : s2.length ≤ 2
theorem flat_le (s2 : Str) (d n : Int) (j : Nat) (h : s2.length ≤ 2) : ((s2.take j).flatMap (letB d n)).length ≤ 4 := by
  have hle : ∀ t : Str, (t.flatMap (letB d n)).length ≤ 2 * t.length := fun t => by
    induction t with
    | nil => simp
    | cons c t ih =>
      rw [List.flatMap_cons, List.length_append, List.length_cons]
      have : (letB d n c).length ≤ 2 := by unfold letB; split <;> (try split) <;> simp
      omega
  have := hle (s2.take j)
  have h2 := hle (s2.take j)
  rw [List.length_take] at h2
  omega
theorem WrL.len {w wr : World} {B b it g : Nat} {h : Wri} {s2 base : Str} {d n : Int} {j : Nat} (H : WrL w wr B b it g h s2 base d n j) (F : WrF B b it g s2 base) : (base ++ (s2.take j).flatMap (letB d n)).length ≤ 1000 := by
  have := flat_le s2 d n j F.ls
  have := F.lb
  rw [List.length_append]
  omega
theorem WrL.next {w wr : World} {B b it g : Nat} {h : Wri} {s2 base : Str} {d n : Int} {j : Nat} (H : WrL w wr B b it g h s2 base d n j) (F : WrF B b it g s2 base) :
    WrAt (wr.iterAt it (sB s2) (j + 1)) B b h (base ++ (s2.take j).flatMap (letB d n)) ∧ PtAt (wr.iterAt it (sB s2) (j + 1)) g b ∧ Below B w (wr.iterAt it (sB s2) (j + 1)) ∧ (wr.iterAt it (sB s2) (j + 1)).heap[it]? = some (.stringIter (sB s2) (j + 1)) := by
  have h1 := F.hB
  have h2 := F.hit
  have h3 := F.hgi
  refine ⟨?_, ?_, Lib.below_iterAt H.bel (by omega) _ _, Lib.iterAt_heap _ _ _ _ _ H.iter⟩
  · obtain ⟨A, c, k, o⟩ := H.wrt
    refine ⟨A, c, (Lib.iterAt_other _ _ _ _ _ (by omega)).trans k, o.1, ?_⟩
    rcases o.2 with e | ⟨g', cap, cur, e1, e2, e3, e4⟩
    · exact .inl e
    · refine .inr ⟨g', cap, cur, e1, e2, (Lib.iterAt_other _ _ _ _ _ (fun e => ?_)).trans e3, e4⟩
      subst e
      have := H.iter
      rw [e3] at this
      simp at this
  · obtain ⟨es, clock, hb, r⟩ := H.pt
    exact ⟨es, clock, (Lib.iterAt_other _ _ _ _ _ (by omega)).trans hb, r⟩
theorem WrL.put {w wr w' : World} {B b it g : Nat} {h : Wri} {s2 base : Str} {d n : Int} {j : Nat} (H : WrL w wr B b it g h s2 base d n j) (F : WrF B b it g s2 base) (hj : j < s2.length)
    (X : WrAt w' B b h (base ++ (s2.take j).flatMap (letB d n) ++ letB d n s2[j])) (hb : Below B (wr.iterAt it (sB s2) (j + 1)) w') (K : WKp b (wr.iterAt it (sB s2) (j + 1)) w') : WrL w w' B b it g h s2 base d n (j + 1) := by
  obtain ⟨n1, n2, n3, n4⟩ := H.next F
  have h2 := F.hit
  have h3 := F.hgi
  have h4 := F.hg
  refine ⟨hj, ?_, ?_, n2.kept (by omega) K, n3.trans hb⟩
  · exact (K.same it (Array.getElem?_eq_some_iff.1 n4).1 (by omega) (fun cur e => by rw [n4] at e; cases e)).trans n4
  · have e : base ++ (s2.take (j + 1)).flatMap (letB d n) = base ++ (s2.take j).flatMap (letB d n) ++ letB d n s2[j] := by
      rw [List.take_succ_eq_append_getElem hj, List.flatMap_append, List.append_assoc]
      simp
    rw [e]
    exact X
theorem wr_start {w w0 : World} {B b g : Nat} {h : Wri} {s2 base : Str} {d n : Int} (X : WrAt w0 B b h base) (P : PtAt w0 g b) (hb : Below B w w0) (hB : B ≤ w0.heap.size) : WrL w (w0.iter (sB s2) 0) B b w0.heap.size g h s2 base d n 0 := by
  have hal : Below w0.heap.size w0 (w0.iter (sB s2) 0) := upA w0 _
  refine ⟨Nat.zero_le _, World.iter_heap _ _ _, ?_, P.below hal, hb.trans (hal.mono hB)⟩
  have := X.below hal
  simpa using this
theorem wwrite_any (B b : Nat) (page : Int) (op : UInt8) (m : Str) (v : Value) (ex : Str) (al : Bool) (d n : Int) (hpg : page ≤ 6) (hhi : 5 ≤ page → ex = [100]) (hlen : (behS page ex).length ≤ 2) (hlet : ∀ k (hk : k < (behS page ex).length), (behS page ex)[k] = 100 ∨ (behS page ex)[k] = 101 ∨ (behS page ex)[k] = 110 ∨ (behS page ex)[k] = 119) (w : World) (H : WrAt w B b ⟨page, (op.toNat : Int), m, v, ex, al, d, n⟩ []) (hB : B ≤ b) :
    Calls Tryz.prog 68 #[.pointer (some ⟨b, 0, none⟩)] w fun e w' => e = .returned (.tuple #[]) ∧ WrAt w' B b ⟨page, (op.toNat : Int), m, v, ex, al, d, n⟩ (encB page (op.toNat : Int) ex d n) ∧ Below B w w' := by
  obtain ⟨h, hh⟩ : ∃ h : Wri, (⟨page, (op.toNat : Int), m, v, ex, al, d, n⟩ : Wri) = h := ⟨_, rfl⟩
  have hp0 : h.page = page := by rw [← hh]
  have hp1 : h.op = (op.toNat : Int) := by rw [← hh]
  have hp4 : h.ex = ex := by rw [← hh]
  have hp6 : h.d = d := by rw [← hh]
  have hp7 : h.n = n := by rw [← hh]
  rw [hh] at H ⊢
  have WC : Hid (∀ (w : World) (u : Value), w.heap[b]? = some (.cells (h.cells u) 125 (0, 0)) → w.cell? ⟨b, 0, none⟩ = some (.int .i64 page) ∧ w.cell? ⟨b, 1, none⟩ = some (.int .u8 (op.toNat : Int)) ∧ w.cell? ⟨b, 4, none⟩ = some (.string (sB ex)) ∧ w.cell? ⟨b, 8, none⟩ = some u ∧ w.frozen? ⟨b, 8, none⟩ = false) := fun w u k => by
    obtain ⟨k0, k1, k2, k3, k4, k5, k6⟩ := wr_cells k
    rw [hp0] at k0
    rw [hp1] at k1
    rw [hp4] at k2
    exact ⟨k0, k1, k2, k5, k6⟩
  have WD : Hid (∀ xs, xs.length ≤ 1000 → ∀ w, WrAt w B b h xs → Calls Tryz.prog 102 #[.pointer (some ⟨b, 0, none⟩)] w (RetPut w B b h (xs ++ [byteI d]))) := fun xs hx w H => by rw [← hp6]; exact wdisp_any B b h xs hx w H hB
  have WB : Hid (∀ xs, xs.length ≤ 1000 → ∀ w, WrAt w B b h xs → Calls Tryz.prog 134 #[.pointer (some ⟨b, 0, none⟩)] w (RetPut w B b h (xs ++ [byteI n]))) := fun xs hx w H => by rw [← hp7]; exact wbyte_any B b h xs hx w H hB
  have WW : Hid (∀ xs, xs.length ≤ 1000 → ∀ w, WrAt w B b h xs → Calls Tryz.prog 135 #[.pointer (some ⟨b, 0, none⟩)] w (RetPut w B b h (xs ++ [byteI n, byteI (n / 256)]))) := fun xs hx w H => by rw [← hp7]; exact wword_any B b h xs hx w H hB
  have EB := Lib.hid (enc_base page op ex d n)
  obtain ⟨s2, hs2⟩ : ∃ z, behS page ex = z := ⟨_, rfl⟩
  rw [hs2] at EB hlen hlet
  have HL := Lib.hid hlet
  have HS2 := Lib.hid hs2
  have HHI := Lib.hid hhi
  clear hlet hs2 hhi
  obtain ⟨bs, hbs⟩ : ∃ z, encB page (op.toNat : Int) ex d n = z := ⟨_, rfl⟩
  rw [hbs] at EB ⊢
  have hbw := H.lt
  obtain ⟨A, c, k, o⟩ := H
  obtain ⟨pre, hpre⟩ : ∃ z, preS page = z := ⟨_, rfl⟩
  have hpl := pre_len page
  rw [hpre] at hpl
  have PR := Lib.hid (fun w => prefixes_any page w)
  rw [hpre] at PR
  have HPRE := Lib.hid hpre
  have K := Lib.hid k
  have O := Lib.hid o
  simp only [List.length_nil] at K O
  clear k o hpre hh hp0 hp1 hp4 hp6 hp7 hbs
  go_enter Tryz.func68, Tryz.ntmps68
  go_upto_region 0 with fail
  obtain ⟨w1, hw1⟩ : ∃ z, w.drew = z := ⟨_, rfl⟩
  have hd : Below w.heap.size w w1 := by rw [← hw1]; exact below_drewN w _ 1
  have K1 : Hid (w1.heap[b]? = some (.cells (h.cells (.slice A 0 c)) 125 (0, 0))) := (hd.block b hbw).trans K.out
  have O1 := Lib.hid (O.out.below hd)
  have B1 := Lib.hid hd
  clear hd K O
  refine Mixed.wp_region_mixed (fun w' => w'.heap[b]? = some (.cells (h.cells (.slice A 0 c)) 125 (0, 0))) 12 [(0, true), (1, true), (2, true), (3, true), (4, true), (5, true), (6, true), (7, true), (8, true), (9, true), (10, false), (11, false)] (by kernel_rfl) (by kernel_rfl) (by rw [hw1]; exact K1.out) ?_
  rw [hw1]
  clear hw1
  refine Mixed.wpMix_pure rfl (by kernel_rfl) (.pointer (some ⟨b, 0, none⟩)) (fun w h => by clear h; go_simp; try rfl) ?_
  refine Mixed.wpMix_pure rfl (by kernel_rfl) (.pointer (some ⟨b, 0, none⟩)) (fun w h => by clear h; go_simp; try rfl) ?_
  refine Mixed.wpMix_pure rfl (by kernel_rfl) (.pointer (some ⟨b, 0, none⟩)) (fun w h => by clear h; go_simp; try rfl) ?_
  refine Mixed.wpMix_pure rfl (by kernel_rfl) (.pointer (some ⟨b, 8, none⟩)) (fun w h => by clear h; go_simp; try rfl) ?_
  refine Mixed.wpMix_pure rfl (by kernel_rfl) (.slice A 0 c) (fun w h => by obtain ⟨h0, h1, h2, h5, h6⟩ := WC.out w _ h; clear h; go_simp; try rfl) ?_
  refine Mixed.wpMix_pure rfl (by kernel_rfl) (.pointer (some ⟨b, 0, none⟩)) (fun w h => by clear h; go_simp; try rfl) ?_
  refine Mixed.wpMix_pure rfl (by kernel_rfl) (.pointer (some ⟨b, 0, none⟩)) (fun w h => by clear h; go_simp; try rfl) ?_
  refine Mixed.wpMix_pure rfl (by kernel_rfl) (.pointer (some ⟨b, 0, none⟩)) (fun w h => by clear h; go_simp; try rfl) ?_
  refine Mixed.wpMix_pure rfl (by kernel_rfl) (.pointer (some ⟨b, 0, none⟩)) (fun w h => by clear h; go_simp; try rfl) ?_
  refine Mixed.wpMix_pure rfl (by kernel_rfl) (.int .i64 page) (fun w h => by obtain ⟨h0, h1, h2, h5, h6⟩ := WC.out w _ h; clear h; go_simp; try rfl) ?_
  refine Mixed.wpMix_loud rfl ?_
  have L1 := PR.out w1
  clear PR
  go_wp2_with fail
  refine L1.mono ?_
  rintro e w2 ⟨v2, rfl, hO2, hb⟩
  have hbw1 : b < w1.heap.size := (Array.getElem?_eq_some_iff.1 K1.out).1
  have K2 : Hid (w2.heap[b]? = some (.cells (h.cells (.slice A 0 c)) 125 (0, 0))) := (hb.block b hbw1).trans K1.out
  have O2 := Lib.hid (O1.out.below hb)
  have B2 : Hid (Below w.heap.size w w2) := B1.out.trans (hb.mono B1.out.size)
  obtain ⟨A2, c2, rfl, hP⟩ := hO2.bytes
  obtain ⟨lp, hlp⟩ : ∃ z, pre.length = z := ⟨_, rfl⟩
  rw [hlp] at hpl ⊢
  have HLP := Lib.hid hlp
  have P2 := Lib.hid hP
  clear K1 O1 B1 L1 hP hb hbw1 hO2 hlp
  go_wp2
  refine ⟨K2.out, ?_⟩
  refine Mixed.wpMix_loud rfl ?_
  have Z2 : Hid (B ≤ w2.heap.size) := by have := B2.out.size; show _ ≤ _; omega
  refine wpList_appBsG (xs := []) (ys := pre) O2.out P2.out Z2.out (by have := HLP.out; simp; omega) rfl _ _ rfl rfl rfl lp HLP.out rfl lp (by simp) ?_
  intro A3 c3 w3 h1 h2 h3
  have K3 : Hid (w3.heap[b]? = some (.cells (h.cells (.slice A 0 c)) 125 (0, 0))) := (h3.block b (by have := B2.out.size; omega) (fun e => by
    obtain ⟨cur, hc⟩ := own_u8 O2.out e.symm
    rw [K2.out] at hc
    simp at hc)).trans K2.out
  have O3 := Lib.hid h1
  have B3 : Hid (Below B w w3) := (B2.out.mono (by omega)).trans h2
  clear h1 h2 h3 O2 P2 B2 Z2 K2
  go_wp2
  refine ⟨K3.out, ?_⟩
  simp only [Mixed.wpMix]
  obtain ⟨e0, e1, e2, e5, e6⟩ := WC.out _ _ K3.out
  have F : Hid (WrAt (w3.setCell ⟨b, 8, none⟩ (.slice A3 lp c3)) B b h pre ∧ Below B w (w3.setCell ⟨b, 8, none⟩ (.slice A3 lp c3))) := by
    have o3 := O3.out
    rw [← HLP.out, List.nil_append] at o3
    rw [← HLP.out]
    exact ⟨wr_store K3.out o3, B3.out.setCell (by simpa using hB) _⟩
  clear e0 e1 e2 K3 O3 B3
  go_upto_region 1 with fail
  obtain ⟨w4, hw4⟩ : ∃ z, w3.setCell ⟨b, 8, none⟩ (.slice A3 lp c3) = z := ⟨_, rfl⟩
  rw [hw4] at F ⊢
  obtain ⟨X4, B4⟩ := F.out
  have X4 := Lib.hid X4
  have B4 := Lib.hid B4
  clear hw4 F e5 e6
  obtain ⟨A4, c4, k4, -⟩ := X4.out
  obtain ⟨e0, e1, e2, e5, e6⟩ := WC.out _ _ k4
  clear k4 e5 e6 e1
  have hlp3 : pre.length ≤ 2 := by rw [HLP.out]; exact hpl
  by_cases h5 : 5 ≤ page
  case' pos =>
    obtain rfl := HHI.out h5
    have e2' : w4.cell? ⟨b, 4, none⟩ = some (.string ⟨#[100]⟩) := e2
    have S2 : Hid (s2 = []) := by show s2 = []; rw [← HS2.out]; unfold behS; rw [if_pos h5]
    have HBS : Hid (bs = (pre ++ [byteI d]) ++ [op] ++ s2.flatMap (letB d n)) := by show bs = _; rw [EB.out]; unfold base0; rw [if_pos h5, HPRE.out]
    have C1 := WD.out pre (by omega) w4 X4.out
    have t5 : ((page == 5) = true) ∨ ((page == 5) = false ∧ (page == 6) = true) := by
      rcases (by omega : page = 5 ∨ page = 6) with rfl | rfl
      · exact .inl rfl
      · exact .inr ⟨rfl, rfl⟩
    obtain ⟨bas, hbas⟩ : ∃ z, pre ++ [byteI d] = z := ⟨_, rfl⟩
    rw [hbas] at HBS C1
    have hbl : bas.length ≤ 4 := by rw [← hbas, List.length_append]; simp; omega
    clear e2 X4 hbas EB HHI HS2 h5
    rcases t5 with t5 | ⟨t5, t6⟩
  case' neg =>
    have S2 : Hid (s2 = ex) := by show s2 = ex; rw [← HS2.out]; unfold behS; rw [if_neg h5]
    obtain rfl : s2 = ex := S2.out
    have t5 : (page == 5) = false := beq_eq_false_iff_ne.2 (by omega)
    have t6 : (page == 6) = false := beq_eq_false_iff_ne.2 (by omega)
    have HBS : Hid (bs = pre ++ [op] ++ s2.flatMap (letB d n)) := by show bs = _; rw [EB.out]; unfold base0; rw [if_neg h5, HPRE.out, List.append_nil]
    obtain ⟨bas, hbas⟩ : ∃ z, pre = z := ⟨_, rfl⟩
    rw [hbas] at HBS X4
    have hbl : bas.length ≤ 4 := by rw [← hbas]; omega
    clear S2 hbas EB HHI HS2 h5
    go_upto_region 7 with fail
    have X7 := X4
    have B7 := B4
    obtain ⟨w7, hw7⟩ : ∃ z, w4 = z := ⟨_, rfl⟩
    rw [hw7] at X7 B7 ⊢
    clear X4 B4 hw7
  case' pos.inl =>
    go_wp2_with fail
    refine C1.mono ?_
    rintro e w5 ⟨rfl, hX, hb, -⟩
    have X7 := Lib.hid hX
    have B7 := Lib.hid (B4.out.trans hb)
    clear hX hb C1
    go_wp2_with fail
    refine (trimD_any w5).mono ?_
    rintro e w7 ⟨rfl, hw⟩
    subst hw
    go_upto_region 7 with fail
    rw [show (⟨#[]⟩ : ByteArray) = sB s2 from by rw [S2.out]; rfl]
  case' pos.inr =>
    go_wp2_with fail
    refine C1.mono ?_
    rintro e w5 ⟨rfl, hX, hb, -⟩
    have X7 := Lib.hid hX
    have B7 := Lib.hid (B4.out.trans hb)
    clear hX hb C1
    go_wp2_with fail
    refine (trimD_any w5).mono ?_
    rintro e w7 ⟨rfl, hw⟩
    subst hw
    go_upto_region 7 with fail
    rw [show (⟨#[]⟩ : ByteArray) = sB s2 from by rw [S2.out]; rfl]
  all_goals
    clear e0
    have hX7 := X7.out
    obtain ⟨A7, c7, k7, o7⟩ := hX7
    obtain ⟨lb, hlb⟩ : ∃ z, bas.length = z := ⟨_, rfl⟩
    rw [hlb] at k7 o7 hbl
    have HLB := Lib.hid hlb
    have hbw7 : b < w7.heap.size := X7.out.lt
    have K := Lib.hid k7
    have O := Lib.hid o7
    clear k7 o7 hlb X7
    obtain ⟨w8, hw8⟩ : ∃ z, w7.drew = z := ⟨_, rfl⟩
    have hd : Below w7.heap.size w7 w8 := by rw [← hw8]; exact below_drewN w7 _ 1
    have K1 : Hid (w8.heap[b]? = some (.cells (h.cells (.slice A7 lb c7)) 125 (0, 0))) := (hd.block b hbw7).trans K.out
    have O1 := Lib.hid (O.out.below hd)
    have B1 : Hid (Below B w w8) := B7.out.trans (hd.mono (by omega))
    have hal := upA w8 (.cells #[.int .u8 (op.toNat : Int)] 5)
    have P9 := Lib.hid (bytes_new1 w8 op)
    have K9 : Hid ((w8.alloc (.cells #[.int .u8 (op.toNat : Int)] 5)).heap[b]? = some (.cells (h.cells (.slice A7 lb c7)) 125 (0, 0))) := (hal.block b (by have := hd.size; omega)).trans K1.out
    have O9 := Lib.hid (O1.out.below hal)
    have B9 : Hid (Below B w (w8.alloc (.cells #[.int .u8 (op.toNat : Int)] 5))) := B1.out.trans (hal.mono (by have := hd.size; omega))
    have Z9 : Hid (B ≤ (w8.alloc (.cells #[.int .u8 (op.toNat : Int)] 5)).heap.size) := by have := hd.size; have := hal.size; show _ ≤ _; omega
    have hb9 : b < (w8.alloc (.cells #[.int .u8 (op.toNat : Int)] 5)).heap.size := by have := hd.size; have := hal.size; omega
    clear hd hal K O B7 O1 B1
    refine Mixed.wp_region_mixed (fun w' => w'.heap[b]? = some (.cells (h.cells (.slice A7 lb c7)) 125 (0, 0))) 12 [(0, true), (1, true), (2, true), (3, true), (4, true), (5, true), (6, true), (7, true), (8, true), (9, true), (10, false), (11, false)] (by kernel_rfl) (by kernel_rfl) (by rw [hw8]; exact K1.out) ?_
    rw [hw8]
    clear hw8
    refine Mixed.wpMix_pure rfl (by kernel_rfl) (.pointer (some ⟨b, 0, none⟩)) (fun w h => by clear h; go_simp; try rfl) ?_
    refine Mixed.wpMix_pure rfl (by kernel_rfl) (.pointer (some ⟨b, 0, none⟩)) (fun w h => by clear h; go_simp; try rfl) ?_
    refine Mixed.wpMix_pure rfl (by kernel_rfl) (.pointer (some ⟨b, 0, none⟩)) (fun w h => by clear h; go_simp; try rfl) ?_
    refine Mixed.wpMix_pure rfl (by kernel_rfl) (.pointer (some ⟨b, 8, none⟩)) (fun w h => by clear h; go_simp; try rfl) ?_
    refine Mixed.wpMix_pure rfl (by kernel_rfl) (.slice A7 lb c7) (fun w h => by obtain ⟨h0, h1, h2, h5, h6⟩ := WC.out w _ h; clear h; go_simp; try rfl) ?_
    refine Mixed.wpMix_pure rfl (by kernel_rfl) (.pointer (some ⟨b, 0, none⟩)) (fun w h => by clear h; go_simp; try rfl) ?_
    refine Mixed.wpMix_pure rfl (by kernel_rfl) (.pointer (some ⟨b, 0, none⟩)) (fun w h => by clear h; go_simp; try rfl) ?_
    refine Mixed.wpMix_pure rfl (by kernel_rfl) (.pointer (some ⟨b, 0, none⟩)) (fun w h => by clear h; go_simp; try rfl) ?_
    refine Mixed.wpMix_pure rfl (by kernel_rfl) (.pointer (some ⟨b, 1, none⟩)) (fun w h => by clear h; go_simp; try rfl) ?_
    refine Mixed.wpMix_pure rfl (by kernel_rfl) (.int .u8 (op.toNat : Int)) (fun w h => by obtain ⟨h0, h1, h2, h5, h6⟩ := WC.out w _ h; clear h; go_simp; try rfl) ?_
    refine Mixed.wpMix_loud rfl ?_
    go_wp2
    refine ⟨K9.out, ?_⟩
    refine Mixed.wpMix_loud rfl ?_
    refine wpList_appBsG (ys := [op]) O9.out P9.out Z9.out (by rw [HLB.out]; simp; omega) rfl _ _ rfl rfl rfl 1 rfl rfl (lb + 1) (by rw [HLB.out]) ?_
    intro A3' c3' w10 h1 h2 h3
    have K10 : Hid (w10.heap[b]? = some (.cells (h.cells (.slice A7 lb c7)) 125 (0, 0))) := (h3.block b hb9 (fun e => by
      obtain ⟨cur, hc⟩ := own_u8 O9.out e.symm
      rw [K9.out] at hc
      simp at hc)).trans K9.out
    have O10 := Lib.hid h1
    have B10 : Hid (Below B w w10) := B9.out.trans h2
    clear h1 h2 h3 O9 P9 B9 Z9 K9 hb9
    go_wp2
    refine ⟨K10.out, ?_⟩
    simp only [Mixed.wpMix]
    obtain ⟨e0, e1, e2, e5, e6⟩ := WC.out _ _ K10.out
    have F : Hid (WrAt (w10.setCell ⟨b, 8, none⟩ (.slice A3' (lb + 1) c3')) B b h (bas ++ [op]) ∧ Below B w (w10.setCell ⟨b, 8, none⟩ (.slice A3' (lb + 1) c3'))) := by
      have hln : (bas ++ [op]).length = lb + 1 := by rw [List.length_append, HLB.out]; rfl
      have o3 := O10.out
      rw [← hln] at o3 ⊢
      exact ⟨wr_store K10.out o3, B10.out.setCell (by simpa using hB) _⟩
    clear e0 e1 e2 K10 O10 B10
    go_upto_region 8 with fail
    obtain ⟨w11, hw11⟩ : ∃ z, w10.setCell ⟨b, 8, none⟩ (.slice A3' (lb + 1) c3') = z := ⟨_, rfl⟩
    rw [hw11] at F ⊢
    obtain ⟨X11, B11⟩ := F.out
    have hb11 := X11.lt
    have X11 := Lib.hid X11
    have B11 := Lib.hid B11
    clear hw11 F e5 e6
    go_wp2_with fail
    refine (wparts_any b w11).mono ?_
    rintro e w12 ⟨g, rfl, hpt, hg, hb⟩
    have LS := Lib.hid (wr_start (s2 := s2) (d := d) (n := n) (X11.out.below hb) hpt (B11.out.trans (hb.mono (by omega))) (by have := hb.size; omega))
    have FF : Hid (WrF B b w12.heap.size g s2 (bas ++ [op])) := ⟨hB, by have := hb.size; omega, by omega, hpt.lt, by rw [List.length_append, HLB.out]; simp; omega, hlen⟩
    obtain ⟨it, hit⟩ : ∃ z, w12.heap.size = z := ⟨_, rfl⟩
    rw [hit] at LS FF
    have HIT := Lib.hid hit
    clear hpt hb X11 B11 hg
    go_upto_region 9 with fail
    go_wp2
    go_loopw [] (fun wr => ∃ j, Hid (WrL w wr B b it g h s2 (bas ++ [op]) d n j)) (fun wr => s2.length - wr.iterPos it)
    case atStart => exact ⟨0, LS.out⟩
    case round =>
      obtain ⟨j, L⟩ := hrel
      have hlj := L.out.le
      have hpos : wr.iterPos it = j := iterPos_of L.out.iter
      by_cases hlt : j < s2.length
      · obtain ⟨n1, n2, n3, n4⟩ := L.out.next FF.out
        have hxl := L.out.len FF.out
        have PU := fun w' X hb K => L.out.put (w' := w') FF.out hlt X hb K
        have hl4 := HL.out j hlt
        have hnx := fun c hc h => next_at L.out.iter hlt c hc h
        obtain ⟨xs, hxs⟩ : ∃ z, (bas ++ [op]) ++ (s2.take j).flatMap (letB d n) = z := ⟨_, rfl⟩
        rw [hxs] at n1 hxl PU
        obtain ⟨cc, hcc⟩ : ∃ z, s2[j] = z := ⟨_, rfl⟩
        rw [hcc] at hl4 PU hnx
        obtain ⟨wn, hwn⟩ : ∃ z, wr.iterAt it (sB s2) (j + 1) = z := ⟨_, rfl⟩
        rw [hwn] at n1 n2 n3 n4 PU hnx
        have PU := Lib.hid PU
        have N1 := Lib.hid n1
        have CD := WD.out xs hxl wn n1
        have CB := WB.out xs hxl wn n1
        have CW := WW.out xs hxl wn n1
        clear n1 n3 n4 hxs hcc hwn
        rcases hl4 with rfl | rfl | rfl | rfl
        · have hn := hnx 100 rfl (by decide)
          have hk := look_100 n2
          unfold methV at hk
          have C := Lib.hid CD
          clear hnx n2 CD CB CW
          go_wp2_with fail
          refine C.out.mono ?_
          rintro e w2 ⟨rfl, hX, hb, hK⟩
          have L2 := Lib.hid (PU.out w2 hX hb hK)
          clear hX hb hK C hk hn PU
          go_wp2
          go_roundw
          case rel => exact ⟨j + 1, L2.out⟩
          case measure => rw [iterPos_of L2.out.iter, hpos]; omega
        · have hn := hnx 101 rfl (by decide)
          have hk := look_101 n2
          unfold methV at hk
          have C := Lib.hid CB
          clear hnx n2 CD CB CW
          go_wp2_with fail
          refine C.out.mono ?_
          rintro e w2 ⟨rfl, hX, hb, hK⟩
          have L2 := Lib.hid (PU.out w2 hX hb hK)
          clear hX hb hK C hk hn PU
          go_wp2
          go_roundw
          case rel => exact ⟨j + 1, L2.out⟩
          case measure => rw [iterPos_of L2.out.iter, hpos]; omega
        · have hn := hnx 110 rfl (by decide)
          have hk := look_110 n2
          unfold methV at hk
          have C := Lib.hid CB
          clear hnx n2 CD CB CW
          go_wp2_with fail
          refine C.out.mono ?_
          rintro e w2 ⟨rfl, hX, hb, hK⟩
          have L2 := Lib.hid (PU.out w2 hX hb hK)
          clear hX hb hK C hk hn PU
          go_wp2
          go_roundw
          case rel => exact ⟨j + 1, L2.out⟩
          case measure => rw [iterPos_of L2.out.iter, hpos]; omega
        · have hn := hnx 119 rfl (by decide)
          have hk := look_119 n2
          unfold methV at hk
          have C := Lib.hid CW
          clear hnx n2 CD CB CW
          go_wp2_with fail
          refine C.out.mono ?_
          rintro e w2 ⟨rfl, hX, hb, hK⟩
          have L2 := Lib.hid (PU.out w2 hX hb hK)
          clear hX hb hK C hk hn PU
          go_wp2
          go_roundw
          case rel => exact ⟨j + 1, L2.out⟩
          case measure => rw [iterPos_of L2.out.iter, hpos]; omega
      · have hj : j = s2.length := by omega
        subst hj
        have hnx := fun ty => Lib.run_next_end_at (P := Tryz.prog) wr it (sB s2) s2.length ty L.out.iter (by rw [sB_size]; omega)
        have R : Hid (WrAt wr B b h bs ∧ Below B w wr) := by
          have h1 := L.out.wrt
          rw [List.take_length] at h1
          exact ⟨by rw [HBS.out]; exact h1, L.out.bel⟩
        clear L
        go_wp2
        refine bodyPost_end (v := .tuple #[]) ?_ rfl ⟨rfl, R.out⟩
        simp [results, Tryz.results68, go_sem]
end Go.Proofs.YtclhaejdjogfbaaGreatDoor
namespace Go.Proofs.YtclhaejdjogfbaaGreatDoor
open Go.RowKit Go.Shelf
attribute [local go_sem] Oper.semAt_some
structure LetOk (page : Int) (ex : Str) : Prop where
  pg : page ≤ 6
  hi : 5 ≤ page → ex = [100]
  le : (behS page ex).length ≤ 2
  letters : ∀ k (hk : k < (behS page ex).length), (behS page ex)[k] = 100 ∨ (behS page ex)[k] = 101 ∨ (behS page ex)[k] = 110 ∨ (behS page ex)[k] = 119
theorem wbytes_any (page : Int) (op : UInt8) (m : Str) (hm : m.length ≤ 1000) (A : Option Addr) (cap l : Nat) (L : List Tr) (hl : L.length = l) (hL : l ≤ 1000) (ex : Str) (hx : ex.length ≤ 1000) (al : Bool) (hX : LetOk page ex) (d q : Int) (w : World) (H : OpsP w A L) :
    Calls Tryz.prog 39 #[enV page (op.toNat : Int) m (.slice A l cap) ex al, .int .i64 d, .int .i64 q] w (RetBy w ((fillV ex L d q).map fun _ => encB page (op.toNat : Int) ex d q)) := by
  have fi := fun w' h => fill_any page (op.toNat : Int) m hm A cap l L hl hL ex hx al d q w' h
  have WR := fun B b w' H hB => wwrite_any B b page op m (.slice A l cap) ex al d q hX.pg hX.hi hX.le hX.letters w' H hB
  obtain ⟨bs, hbs⟩ : ∃ z, encB page (op.toNat : Int) ex d q = z := ⟨_, rfl⟩
  obtain ⟨fo, hfo⟩ : ∃ z, fillV ex L d q = z := ⟨_, rfl⟩
  obtain ⟨ro, hro⟩ : ∃ z, (fo.map fun _ => bs) = z := ⟨_, rfl⟩
  rw [hfo] at fi
  rw [hbs] at WR
  rw [hbs, hfo, hro]
  have HRO := Lib.hid hro
  have WR := Lib.hid WR
  obtain ⟨n, hn⟩ : ∃ z, w.heap.size = z := ⟨_, rfl⟩
  obtain ⟨b0, w0, hb0, hw0, S0, y0, z0⟩ := Fr.box (Fr.start w n hn) #[.int .i64 page, .int .u8 (op.toNat : Int), .string (sB m), .slice A l cap, .string (sB ex), .bool al] 47
  rw [hn] at hb0
  subst hb0
  have FI := Lib.hid (fi w0 (H.below y0))
  have HN := Lib.hid hn
  obtain ⟨e0, e1, e2, e3, e4, e5⟩ := Fr.cells6 S0.out.1
  unfold enV at FI ⊢
  clear H y0 fi hl hbs hfo hro
  go_enter Tryz.func39, Tryz.ntmps39
  go_wp2_with fail
  refine FI.out.mono ?_
  rintro e w1 hr
  cases fo with
  | none =>
    obtain ⟨rfl, hb⟩ := hr
    have S1 := Fr.up S0 hb
    have F := fun o => Lib.hid (show RetBy w ro (.returned (.tuple #[.slice none 0 0, .bool false])) (w1.alloc o) from by rw [← HRO.out]; exact ⟨rfl, by rw [HN.out]; exact S1.out.2.1.1.alloc S1.out.2.1.2 o⟩)
    clear hb FI e0 e1 e2 e3 e4 e5 hw0 z0 S0
    go_wp2
    go_ret2
    exact (F _).out
  | some C =>
    obtain ⟨v, rfl, hO, hb⟩ := hr
    have S1 := Fr.up S0 hb
    obtain ⟨Ac, cc, rfl, -, -⟩ := hO.ops
    obtain ⟨lc, hlc⟩ : ∃ z, C.length = z := ⟨_, rfl⟩
    rw [hlc]
    have hro : some bs = ro := HRO.out
    subst hro
    clear hb FI e0 e1 e2 e3 e4 e5 hw0 z0 S0 hO hlc HRO
    go_upto_region 2 with fail
    obtain ⟨b1, w2, hb1, hw2, S2, y2, z2⟩ := Fr.box S1 #[.string (upB (sB m)), .slice Ac lc cc] 24
    rw [hw2]
    have hnb : n ≤ b1 := by have := S1.out.2.1.2; omega
    clear hw2 S1 y2
    obtain ⟨e0, e1, e2, e3, e4, e5⟩ := Fr.cells6 S2.out.2.1
    go_upto_region 5 with fail
    obtain ⟨w3, hw3⟩ : ∃ z, w2.alloc (.cells #[.int .i64 page, .int .u8 (op.toNat : Int), .string (sB m), .slice A l cap, .string (sB ex), .bool al, .int .i64 d, .int .i64 q, .slice none 0 0] 125) = z := ⟨_, rfl⟩
    have y3 : Below w2.heap.size w2 w3 := by rw [← hw3]; exact up_alloc _ _
    have X3 : Hid (WrAt w3 (b1 + 1) (b1 + 1) ⟨page, (op.toNat : Int), m, .slice A l cap, ex, al, d, q⟩ []) := by
      refine ⟨none, 0, ?_, townB_nil _ _⟩
      rw [← hw3, ← z2]
      exact World.alloc_heap_new w2 _
    have B3 := Fr.up S2 y3
    rw [hw3]
    clear hw3 e0 e1 e2 e3 e4 e5
    have W3 := WR.out (b1 + 1) (b1 + 1) w3 X3.out (Nat.le_refl _)
    clear WR S2
    go_wp2_with fail
    refine W3.mono ?_
    rintro e w4 ⟨rfl, hX, hb⟩
    have BF : Hid (Below n w w4) := by
      have h1 := B3.out.2.2.1
      exact h1.1.trans (hb.mono (by omega))
    obtain ⟨A4, c4, k4, o4⟩ := hX
    obtain ⟨lb, hlb⟩ : ∃ z, bs.length = z := ⟨_, rfl⟩
    rw [hlb] at k4 o4
    have O4 : Hid (TOwnB w4 n (.slice A4 lb c4) bs) := o4.lift (by omega)
    have HLB := Lib.hid hlb
    obtain ⟨k0, k1, k2, k5, k6, k7, k8⟩ := wr_cells k4
    clear hb k4 o4 W3 hlb B3 X3 y3 k0 k1 k2 k5 k6
    go_wp2
    go_ret2
    exact ⟨A4, c4, by rw [HLB.out]; rfl, by rw [HLB.out, HN.out]; exact O4.out, by rw [HN.out]; exact BF.out⟩
end Go.Proofs.YtclhaejdjogfbaaGreatDoor
namespace Go.Proofs.YtclhaejdjogfbaaGreatDoor
open Go.RowKit Go.Shelf
attribute [local go_sem] Oper.semAt_some
theorem beh_let {g : Int} {i : Nat} {ex : Str} (h : ExP g i ex) : (behS g ex).length ≤ 2 ∧ ∀ k (hk : k < (behS g ex).length), (behS g ex)[k] = 100 ∨ (behS g ex)[k] = 101 ∨ (behS g ex)[k] = 110 ∨ (behS g ex)[k] = 119 := by
  have e : behS g ex = [] ∨ behS g ex = ex := by unfold behS; split; exact .inl rfl; exact .inr rfl
  generalize behS g ex = b at e
  rcases e with rfl | rfl
  · exact ⟨by simp, fun k hk => by simp at hk⟩
  · rcases h.lst with rfl | rfl | rfl | rfl | rfl | rfl
    · exact ⟨by simp, fun k hk => by simp at hk⟩
    all_goals refine ⟨by simp, fun k hk => ?_⟩
    · obtain rfl : k = 0 := by simp at hk; omega
      exact .inl rfl
    · obtain rfl : k = 0 := by simp at hk; omega
      exact .inr (.inl rfl)
    · obtain rfl : k = 0 := by simp at hk; omega
      exact .inr (.inr (.inl rfl))
    · obtain rfl : k = 0 := by simp at hk; omega
      exact .inr (.inr (.inr rfl))
    · have : k = 0 ∨ k = 1 := by simp at hk; omega
      rcases this with rfl | rfl
      · exact .inl rfl
      · exact .inr (.inr (.inl rfl))
theorem InTab.lets {k : Ke} (h : InTab k) : LetOk k.1 k.2.2.2.2.1 := by
  obtain ⟨n, hn, -, hr⟩ := h
  have hx := exP_of hn hr
  obtain ⟨h1, h2⟩ := beh_let hx
  exact ⟨hx.pg.2, hx.hi, h1, h2⟩
def RetWv (w : World) (bs : Str) (e : Ending) (w' : World) : Prop := ∃ A cap, e = .returned (.slice A bs.length cap) ∧ TOwnB w' w.heap.size (.slice A bs.length cap) bs ∧ Below w.heap.size w w'
theorem wval_any (k : Ke) (hk : InTab k) (A : Option Addr) (cap l : Nat) (hl : k.2.2.2.1.length = l) (s : ByteArray) (Ai : Option Addr) (capi li : Nat) (I : List Tr) (hli : I.length = li) (hLi : li ≤ 900)
    (hh : hasV k.2.2.1 k.2.2.2.1 k.2.2.2.2.1 s (canL (opc s) I) = true) (w : World) (H : OpsP w A k.2.2.2.1) (HF : OpsP w Ai I) :
    Calls Tryz.prog 19 #[enV k.1 k.2.1 k.2.2.1 (.slice A l cap) k.2.2.2.2.1 k.2.2.2.2.2, .agg #[.string s, .slice Ai li capi]] w
      (RetWv w (encB k.1 k.2.1 k.2.2.2.2.1 (valV k.2.2.1 k.2.2.2.1 k.2.2.2.2.1 s (canL (opc s) I)).1 (valV k.2.2.1 k.2.2.2.1 k.2.2.2.2.1 s (canL (opc s) I)).2)) := by
  have ok := hk.ok
  have hx := hk.lets
  obtain ⟨i, hi, hop, -⟩ := hk
  obtain ⟨g, o, m, L, ex, al⟩ := k
  simp only at *
  subst hop
  have h0 := ok.m
  have h1 := ok.ex
  have h2 := ok.len
  have h3 := ok.up
  simp only at h0 h1 h2 h3
  have vl := fun w' p1 p2 => svalues_any g (i : Int) m (by omega) h3 A cap l L hl (by omega) ex (by omega) al s Ai capi li I hli hLi w' p1 p2
  have hfl := has_fill2 hh
  obtain ⟨C, hC⟩ : ∃ z, canL (opc s) I = z := ⟨_, rfl⟩
  rw [hC] at hfl vl ⊢
  obtain ⟨d, hd⟩ : ∃ z, (valV m L ex s C).1 = z := ⟨_, rfl⟩
  obtain ⟨q, hq⟩ : ∃ z, (valV m L ex s C).2 = z := ⟨_, rfl⟩
  rw [hd, hq] at hfl vl ⊢
  obtain ⟨op, hop⟩ : ∃ op : UInt8, (op.toNat : Int) = (i : Int) := ⟨UInt8.ofNat i, by rw [UInt8.toNat_ofNat_of_lt' (show i < 256 from hi)]⟩
  rw [← hop] at vl ⊢
  have by_ := fun w' p => wbytes_any g op m (by omega) A cap l L hl (by omega) ex (by omega) al hx d q w' p
  rw [hfl, Option.map_some] at by_
  unfold RetBy at by_
  simp only at by_
  obtain ⟨bs, hbs⟩ : ∃ z, encB g (op.toNat : Int) ex d q = z := ⟨_, rfl⟩
  rw [hbs] at by_ ⊢
  unfold enV at vl by_ ⊢
  have BY := Lib.hid by_
  have VL := Lib.hid vl
  obtain ⟨n, hn⟩ : ∃ z, w.heap.size = z := ⟨_, rfl⟩
  have HN := Lib.hid hn
  have S := Fr.add (Fr.add (Fr.start w n hn) (opsF Ai I) HF) (opsF A L) H
  obtain ⟨b0, w0, hb0, hw0, S0, y0, z0⟩ := Fr.box S #[.int .i64 g, .int .u8 (op.toNat : Int), .string (sB m), .slice A l cap, .string (sB ex), .bool al] 47
  rw [hn] at hb0
  subst hb0
  obtain ⟨b1, w1, hb1, hw1, S1, y1, z1⟩ := Fr.box S0 #[.string s, .slice Ai li capi] 24
  obtain ⟨k0, k1⟩ := Fr.cells2 S1.out.1
  obtain ⟨e0, e1, e2, e3, e4, e5⟩ := Fr.cells6 S1.out.2.1
  have V1 := VL.out w1 S1.out.2.2.1 S1.out.2.2.2.1
  rw [z0] at hb1
  subst hb1
  clear H HF S S0 y0 y1 ok hx hop hC hd hq hfl hbs h0 h1 h2 h3 hh hi hl hli vl by_ VL
  go_enter Tryz.func19, Tryz.ntmps19
  go_wp2_with fail
  refine V1.mono ?_
  rintro e w3 ⟨rfl, hb⟩
  have S3 := Fr.up S1 hb
  clear hb V1 S1 k0 k1 e0 e1 e2 e3 e4 e5 hw0 hw1 z0 z1
  obtain ⟨e0, e1, e2, e3, e4, e5⟩ := Fr.cells6 S3.out.2.1
  go_wp2_with fail
  refine (BY.out w3 S3.out.2.2.1).mono ?_
  rintro e w4 ⟨A4, c4, rfl, hO, hb⟩
  have S4 := Fr.up S3 hb
  have O4 := Lib.hid (hO.lift S3.out.2.2.2.2.1.2)
  clear hb hO BY S3 e0 e1 e2 e3 e4 e5
  go_wp2
  go_ret
  exact ⟨A4, c4, rfl, by rw [HN.out]; exact O4.out, by rw [HN.out]; exact S4.out.2.2.2.2.1.1⟩
theorem find_tab {op : Str} {C : List Tr} {k : Ke} (h : findK op C = some k) : InTab k ∧ hasK op C k = true ∧ k.2.2.1 = op := by
  unfold findK at h
  have h1 := List.find?_some h
  have h2 := List.mem_of_find?_eq_some h
  unfold candN at h2
  have h3 := cand_in (List.mem_filter.1 h2).1
  exact ⟨h3.1, h1, h3.2.1⟩
theorem wencode_any (s : ByteArray) (hs : s.size ≤ 1000) (Ai : Option Addr) (capi li : Nat) (I : List Tr) (hli : I.length = li) (hLi : li ≤ 900) (w : World) (hM : MaxAt w) (HF : OpsP w Ai I) :
    Calls Tryz.prog 6 #[.agg #[.string s, .slice Ai li capi]] w (RetEnc w s I) := by
  obtain ⟨n, hn⟩ : ∃ z, w.heap.size = z := ⟨_, rfl⟩
  have HN := Lib.hid hn
  obtain ⟨b0, w0, hb0, hw0, S0, y0, z0⟩ := Fr.box (Fr.add (Fr.start w n hn) (opsF Ai I) HF) #[.string s, .slice Ai li capi] 24
  rw [hn] at hb0
  subst hb0
  have fi := sfind2_any s hs Ai capi li I hli hLi w0 (hM.below y0) S0.out.2.1
  have HFI : Hid (encI s I = (findK (sT s) (canL (opc s) I)).map fun k => encB k.1 k.2.1 k.2.2.2.2.1 (valV k.2.2.1 k.2.2.2.1 k.2.2.2.2.1 s (canL (opc s) I)).1 (valV k.2.2.1 k.2.2.2.1 k.2.2.2.2.1 s (canL (opc s) I)).2) := rfl
  have HT := fun k h => find_tab (op := sT s) (C := canL (opc s) I) (k := k) h
  obtain ⟨fo, hfo⟩ : ∃ z, findK (sT s) (canL (opc s) I) = z := ⟨_, rfl⟩
  rw [hfo] at fi HFI HT
  obtain ⟨k0, k1⟩ := Fr.cells2 S0.out.1
  clear HF y0 hfo
  go_enter Tryz.func6, Tryz.ntmps6
  go_wp2_with fail
  refine fi.mono ?_
  rintro e w1 hr
  cases fo with
  | some k =>
    obtain ⟨A, cap, rfl, hP, hb⟩ := hr
    obtain ⟨hk, hh, -⟩ := HT k rfl
    have S1 := Fr.up S0 hb
    unfold hasK at hh
    rw [sB_sT] at hh
    obtain ⟨l, hl⟩ : ∃ z, k.2.2.2.1.length = z := ⟨_, rfl⟩
    have WV := fun w' p1 p2 => wval_any k hk A cap l hl s Ai capi li I hli hLi hh w' p1 p2
    obtain ⟨bs, hbs⟩ : ∃ z, encB k.1 k.2.1 k.2.2.2.2.1 (valV k.2.2.1 k.2.2.2.1 k.2.2.2.2.1 s (canL (opc s) I)).1 (valV k.2.2.1 k.2.2.2.1 k.2.2.2.2.1 s (canL (opc s) I)).2 = z := ⟨_, rfl⟩
    have EI : Hid (encI s I = some bs) := by show encI s I = some bs; rw [HFI.out, Option.map_some, hbs]
    have CE : Hid (codeE s I = 0) := by show codeE s I = 0; unfold codeE; rw [EI.out]; rfl
    rw [hbs] at WV
    obtain ⟨g, o, m, L, ex, al⟩ := k
    simp only at hP hl WV
    simp only [enV, hl] at WV ⊢
    have WV := Lib.hid WV
    have PP := Lib.hid hP
    clear hb hP hh hk hl hbs HT HFI fi k0 k1 S0 hw0 z0
    go_upto_region 2 with fail
    obtain ⟨b, w2, hbs, hw2, S2, y2, z2⟩ := Fr.box S1 #[.int .i64 g, .int .u8 o, .string (sB m), .slice A l cap, .string (sB ex), .bool al] 47
    rw [hw2, hbs]
    obtain ⟨e0, e1, e2, e3, e4, e5⟩ := Fr.cells6 S2.out.1
    obtain ⟨k0, k1⟩ := Fr.cells2 S2.out.2.1
    have v1 := WV.out w2 (PP.out.below y2) S2.out.2.2.1
    clear hw2 hbs S1 y2 PP WV
    go_wp2_with fail
    refine v1.mono ?_
    rintro e w3 ⟨A4, c4, rfl, hO, hb⟩
    have S3 := Fr.up S2 hb
    have O3 := Lib.hid (hO.lift S2.out.2.2.2.1.2)
    clear hb v1 S2 hO e0 e1 e2 e3 e4 e5 k0 k1
    go_wp2
    go_ret2
    refine ⟨A4, c4, ?_, ?_, by rw [HN.out]; exact S3.out.2.2.2.1.1⟩
    · rw [EI.out, CE.out]; rfl
    · rw [EI.out, HN.out]; exact O3.out
  | none =>
    obtain ⟨rfl, hb⟩ := hr
    have S1 := Fr.up S0 hb
    have EI : Hid (encI s I = none) := HFI.out
    obtain ⟨c, hc⟩ : ∃ z, codeF (sT s) I (canL (opc (sB (sT s))) I) = z := ⟨_, rfl⟩
    have hc0 : c ≠ 0 := by rw [← hc]; exact codeF_ne _ _ _
    have CE : Hid (codeE s I = c) := by show codeE s I = c; unfold codeE; rw [EI.out, ← hc, sB_sT]; rfl
    rw [hc]
    have e1 : (c == 0) = false := beq_eq_false_iff_ne.2 hc0
    have e2 : (c != 0) = true := bne_iff_ne.2 hc0
    have F := fun o => Lib.hid (show Below n w (w1.alloc o) from S1.out.2.2.1.1.alloc S1.out.2.2.1.2 o)
    simp only [enV]
    clear hb HT HFI fi k0 k1 S0 hw0 z0 hc hc0
    go_wp2
    go_ret2
    refine ⟨none, 0, ?_, ?_, by rw [HN.out]; exact (F _).out⟩
    · rw [EI.out, CE.out]; rfl
    · rw [EI.out]; exact townB_nil _ _
end Go.Proofs.YtclhaejdjogfbaaGreatDoor
namespace Go.Proofs.YtclhaejdjogfbaaGreatDoor
open Go.RowKit Go.Shelf
theorem enc_mem {s : ByteArray} {I : List Tr} {a : Str} (h : encI s I = some a) : a ∈ (allR s (canL (opc s) I)).map (encK s (canL (opc s) I)) := by
  unfold encI at h
  cases hf : findK (sT s) (canL (opc s) I) with
  | none => rw [hf] at h; cases h
  | some k =>
    rw [hf] at h
    simp only [Option.map_some, Option.some.injEq] at h
    have hm : k ∈ candK (sT s) (canL (opc s) I) := (List.mem_filter.1 (List.mem_of_find?_eq_some hf)).1
    have hh := List.find?_some hf
    refine List.mem_map.2 ⟨k, ?_, h⟩
    rw [← all_same]
    exact List.mem_filter.2 ⟨hm, hh⟩
end Go.Proofs.YtclhaejdjogfbaaGreatDoor
namespace Go.Proofs.YtclhaejdjogfbaaGreatDoor
open Go.RowKit Go.Shelf
attribute [local go_sem] Oper.semAt_some
theorem codeD_yes {s : ByteArray} {I : List Tr} {a : Str} (h : encI s I = some a) : codeE s I = 0 := by unfold codeE; rw [h]; rfl
theorem codeD_no {s : ByteArray} {I : List Tr} (h : encI s I = none) : codeE s I ≠ 0 := by
  unfold codeE
  rw [h]
  simp only [Option.isSome_none, Bool.false_eq_true, if_false]
  unfold codeF
  split
  · assumption
  · split <;> decide
theorem encI_len {s : ByteArray} {I : List Tr} {a : Str} (h : encI s I = some a) : 1 ≤ a.length ∧ a.length ≤ 4 := by
  obtain ⟨k, hk, rfl⟩ := List.mem_map.1 (enc_mem h)
  have hl := enc_len (mem_allR hk).1 (valV k.2.2.1 k.2.2.2.1 k.2.2.2.2.1 s (canL (opc s) I)).1 (valV k.2.2.1 k.2.2.2.1 k.2.2.2.2.1 s (canL (opc s) I)).2
  unfold encK
  omega
theorem itP_enc {s : ByteArray} {I : List Tr} {a : Str} (h : encI s I = some a) (r : Str) : itP (a ++ r) = ⟨1, a, sT s, canL (opc s) I, false⟩ := by
  rw [itP_ne, dec_encI h r]
  intro e
  have := (encI_len h).1
  rw [(List.append_eq_nil_iff.1 e).1] at this
  simp at this
theorem isB_enc {s : ByteArray} {I : List Tr} {a : Str} (h : encI s I = some a) : isB a = true ∧ itP a = ⟨1, a, sT s, canL (opc s) I, false⟩ := by
  have h1 := itP_enc h []
  rw [List.append_nil] at h1
  refine ⟨?_, h1⟩
  unfold isB
  rw [h1]
  simp
theorem walkDI (s : ByteArray) (A : Option Addr) (cap : Nat) (L : List Tr) (A2 : Option Addr) (cap2 : Nat) (mo : Str) (w : World) (hs : s.size ≤ maxLen) (hL : L.length ≤ maxLen) (H : OpsP w A L) (H2 : BytesAt w A2 mo) (hM : MaxAt w) :
    Calls Tryz.prog 3 #[.agg #[.string s, .slice A L.length cap], .slice A2 mo.length cap2] w fun e w' => e = .returned (.bool true) ∧ Below w.heap.size w w' := by
  obtain ⟨l, hl⟩ : ∃ l, L.length = l := ⟨_, rfl⟩
  obtain ⟨lm, hlm⟩ : ∃ l, mo.length = l := ⟨_, rfl⟩
  rw [hl, hlm]
  have HLM := Lib.hid hlm
  have AL := Lib.hid (fun w' (h : Below w.heap.size w w') => alive12_any w' (hM.below h))
  have UP : Hid (∀ {wa wb : World}, Below wa.heap.size wa wb → Below w.heap.size w wa → Below w.heap.size w wb) := fun h1 h2 => h2.trans (h1.mono h2.size)
  obtain ⟨y0, w0, hy0, hw0, S0, yy0, z0⟩ := Fr.box (Fr.nil w) #[.string s, .slice A l cap] 24
  have J0 : Hid (w0.heap[y0]? = some (.cells #[.string s, .slice A l cap] 24 (0, 0))) := S0.out.1
  have Y0 := Lib.hid yy0
  obtain ⟨k0, k1⟩ := Fr.cells2 J0.out
  by_cases hbig : 100 < s.size ∨ 20 < l ∨ 300 < lm
  · have A0 := AL.out w0 Y0.out
    have hx : ((s.size : Int) > 100) ∨ (¬ ((s.size : Int) > 100) ∧ ((l : Int) > 20)) ∨ (¬ ((s.size : Int) > 100) ∧ ¬ ((l : Int) > 20) ∧ ((lm : Int) > 300)) := by omega
    clear H H2 hM hl hlm hs hL HLM hbig S0 yy0 J0
    rcases hx with t1 | ⟨t1, t2⟩ | ⟨t1, t2, t3⟩
    · go_enter Tryz.func3, Tryz.ntmps3
      go_wp2_with fail
      refine A0.mono ?_
      rintro e w1 ⟨rfl, hb⟩
      have B1 := Lib.hid (UP.out hb Y0.out)
      clear A0 hb
      go_wp2
      go_ret
      exact ⟨rfl, B1.out⟩
    · go_enter Tryz.func3, Tryz.ntmps3
      go_wp2_with fail
      refine A0.mono ?_
      rintro e w1 ⟨rfl, hb⟩
      have B1 := Lib.hid (UP.out hb Y0.out)
      clear A0 hb
      go_wp2
      go_ret
      exact ⟨rfl, B1.out⟩
    · go_enter Tryz.func3, Tryz.ntmps3
      go_wp2_with fail
      refine A0.mono ?_
      rintro e w1 ⟨rfl, hb⟩
      have B1 := Lib.hid (UP.out hb Y0.out)
      clear A0 hb
      go_wp2
      go_ret
      exact ⟨rfl, B1.out⟩
  have t1 : ¬ ((s.size : Int) > 100) := by omega
  have t2 : ¬ ((l : Int) > 20) := by omega
  have t3 : ¬ ((lm : Int) > 300) := by omega
  have EN := wencode_any s (by omega) A cap l L hl (by omega) w0 (hM.below yy0) (H.below yy0)
  unfold RetEnc at EN
  cases hE : encI s L with
  | none =>
    have hc := codeD_no hE
    rw [hE] at EN
    obtain ⟨cd, hcd⟩ : ∃ z, codeE s L = z := ⟨_, rfl⟩
    rw [hcd] at EN hc
    have tc : (cd != 0) = true := bne_iff_ne.2 hc
    simp only [Option.getD_none, List.length_nil] at EN
    clear H H2 hM hl hlm hs hL HLM hbig S0 yy0 J0 hE hcd hc
    go_enter Tryz.func3, Tryz.ntmps3
    go_wp2_with fail
    refine EN.mono ?_
    rintro e w1 ⟨A1, c1, rfl, -, hb⟩
    have B1 := Lib.hid (UP.out hb Y0.out)
    have A1' := AL.out w1 B1.out
    clear EN hb
    go_wp2_with fail
    refine A1'.mono ?_
    rintro e w2 ⟨rfl, hb⟩
    have B2 := Lib.hid (UP.out hb B1.out)
    clear A1' hb B1
    go_wp2
    go_ret
    exact ⟨rfl, B2.out⟩
  | some a =>
    have hc := codeD_yes hE
    rw [hE, hc] at EN
    obtain ⟨ha1, ha4⟩ := encI_len hE
    have IA := isB_enc hE
    have IM := itP_enc hE mo
    obtain ⟨m, rfl⟩ : ∃ m, s = sB m := ⟨sT s, (sB_sT s).symm⟩
    have hsT : sT (sB m) = m := by unfold sT sB; simp
    rw [hsT] at IA IM
    have hCl : (canL (opc (sB m)) L).length ≤ 30 := by have := canL_len (opc (sB m)) L; omega
    have OF := Lib.hid (fun w' (h : Below w.heap.size w w') => rof_any (sB m) A cap L (by omega) w' (H.below h))
    unfold RetC at OF
    obtain ⟨C, hC⟩ : ∃ C, canL (opc (sB m)) L = C := ⟨_, rfl⟩
    rw [hC] at OF IA IM hCl
    rw [hl] at OF
    simp only [Option.getD_some] at EN
    obtain ⟨la, hla⟩ : ∃ z, a.length = z := ⟨_, rfl⟩
    rw [hla] at EN ha1 ha4
    have HLA := Lib.hid hla
    obtain ⟨hIB, hIT⟩ := IA
    have DI : Hid (∀ Aa ca, la ≤ ca → ca ≤ maxLen → ∀ w', Below w.heap.size w w' → BytesAt w' Aa a → Calls Tryz.prog 9 #[.slice Aa la ca] w' (RetIn w' a)) := fun Aa ca h1 h2 w' h hB => dinst_any a Aa ca la hla h1 h2 (by omega) w' hB (hM.below h)
    have FI : Hid (∀ Aa ca, la + lm ≤ ca → ca ≤ maxLen → ∀ w', Below w.heap.size w w' → BytesAt w' Aa (a ++ mo) → Calls Tryz.prog 7 #[.slice Aa (la + lm) ca] w' (RetIt w' ⟨1, a, m, C, false⟩)) := fun Aa ca h1 h2 w' h hB => by
      have h3 := dfirst_any (a ++ mo) Aa ca (la + lm) (by rw [List.length_append, hla, hlm]) h1 h2 (by omega) w' hB (hM.below h)
      rwa [IM] at h3
    have HM2 : Hid (∀ w', Below w.heap.size w w' → BytesAt w' A2 mo) := fun w' h => H2.below h
    unfold RetIn at DI
    rw [hIB, hIT] at DI
    have tc : ((0 : Int) != 0) = false := rfl
    have CC : Hid (∀ Ac cc w', BqP w' Ac [a, mo] → Calls Tryz.prog 8 #[.slice Ac 2 cc] w' fun e w2 => ∃ A' c', e = .returned (.slice A' (la + lm) c') ∧ TOwnB w2 w'.heap.size (.slice A' (la + lm) c') (a ++ mo) ∧ Below w'.heap.size w' w2) := fun Ac cc w' h => by
      have h3 := concatB_any [a, mo] 2 rfl (by decide) (la + lm) (by simp [hla, hlm]) (by omega) Ac cc w' h
      rwa [show [a, mo].flatten = a ++ mo by simp] at h3
    clear H H2 hM hl hlm hs hL hbig S0 yy0 hE hc hsT hC hIB hIT IM hla
    go_enter Tryz.func3, Tryz.ntmps3
    go_wp2_with fail
    refine EN.mono ?_
    rintro e w1 ⟨A1, c1, rfl, hO, hb⟩
    obtain ⟨g1, hc1, hcm1, rfl⟩ : ∃ g, la ≤ c1 ∧ c1 ≤ maxLen ∧ A1 = some ⟨g, 0, none⟩ := by
      rcases hO.2 with ⟨e, -⟩ | ⟨g, cap', cur, e, -, -, h4, h5, -, -⟩
      · simp only [Value.slice.injEq] at e
        omega
      · simp only [Value.slice.injEq] at e
        obtain ⟨rfl, -, rfl⟩ := e
        rw [HLA.out] at h4
        exact ⟨g, h4, h5, rfl⟩
    have P1 := Lib.hid hO.bytesP
    have W := Y0
    have J0 : Hid (w1.heap[y0]? = some (.cells #[.string (sB m), .slice A l cap] 24 (0, 0))) := (hb.block y0 (Array.getElem?_eq_some_iff.1 J0.out).1).trans J0.out
    have W := Lib.hid (UP.out hb W.out)
    clear EN hb hO Y0 k0 k1
    obtain ⟨g2, w2, hg2, hw2, S2, yy2, z2⟩ := Fr.box (Fr.nil w1) #[.slice (some ⟨g1, 0, none⟩) la c1, .slice A2 lm cap2] 25
    have M1 := Lib.hid (HM2.out w1 W.out)
    have Q2 : BqP w2 (some ⟨g2, 0, none⟩) [a, mo] := by
      obtain ⟨q0, q1⟩ := Fr.cells2 S2.out.1
      refine .inr ⟨g2, 0, rfl, fun k hk => ?_⟩
      have hk2 : k = 0 ∨ k = 1 := by simp at hk; omega
      rcases hk2 with rfl | rfl
      · exact ⟨some ⟨g1, 0, none⟩, c1, by show w2.cell? _ = some (.slice _ a.length c1); rw [HLA.out]; exact q0, P1.out.below yy2⟩
      · exact ⟨A2, cap2, by show w2.cell? _ = some (.slice _ mo.length cap2); rw [HLM.out]; exact q1, M1.out.below yy2⟩
    have C2 := CC.out (some ⟨g2, 0, none⟩) 2 w2 Q2
    have J0 : Hid (w2.heap[y0]? = some (.cells #[.string (sB m), .slice A l cap] 24 (0, 0))) := (yy2.block y0 (Array.getElem?_eq_some_iff.1 J0.out).1).trans J0.out
    have P1 := Lib.hid (P1.out.below yy2)
    have W := Lib.hid (UP.out yy2 W.out)
    clear S2 yy2 Q2 M1 HM2 CC
    go_wp2_with fail
    refine C2.mono ?_
    rintro e w3 ⟨A3, c3, rfl, hO, hb⟩
    obtain ⟨g3, hc3, hcm3, rfl⟩ : ∃ g, la + lm ≤ c3 ∧ c3 ≤ maxLen ∧ A3 = some ⟨g, 0, none⟩ := by
      rcases hO.2 with ⟨e, -⟩ | ⟨g, cap', cur, e, -, -, h4, h5, -, -⟩
      · simp only [Value.slice.injEq] at e
        omega
      · simp only [Value.slice.injEq] at e
        obtain ⟨rfl, -, rfl⟩ := e
        rw [List.length_append, HLA.out, HLM.out] at h4
        exact ⟨g, h4, h5, rfl⟩
    have J0 : Hid (w3.heap[y0]? = some (.cells #[.string (sB m), .slice A l cap] 24 (0, 0))) := (hb.block y0 (Array.getElem?_eq_some_iff.1 J0.out).1).trans J0.out
    have P1 := Lib.hid (P1.out.below hb)
    have W := Lib.hid (UP.out hb W.out)
    have F3 := FI.out (some ⟨g3, 0, none⟩) c3 hc3 hcm3 w3 W.out hO.bytesP
    clear C2 hb hO FI
    go_wp2_with fail
    refine F3.mono ?_
    rintro e w4 ⟨A4, c4, D4, d4, rfl, hO, hT, hb⟩
    simp only at hO hT ⊢
    rw [HLA.out] at hO ⊢
    have BA4 := Lib.hid hO.bytesP
    have OP4 := Lib.hid hT.opsP
    have J0 : Hid (w4.heap[y0]? = some (.cells #[.string (sB m), .slice A l cap] 24 (0, 0))) := (hb.block y0 (Array.getElem?_eq_some_iff.1 J0.out).1).trans J0.out
    have P1 := Lib.hid (P1.out.below hb)
    have W := Lib.hid (UP.out hb W.out)
    clear F3 hb hO hT
    obtain ⟨y5, v5, hy5, hv5, S5, yz5, z5⟩ := Fr.box (Fr.nil w4) #[.int .i64 1, .slice A4 la c4, .string (sB m), .slice D4 C.length d4, .bool false] 31
    have Z5 : ItAt v5 y5 1 (.slice A4 la c4) (sB m) (.slice D4 C.length d4) false := S5.out.1
    obtain ⟨w5, hw5, I5x, i5b, -⟩ := Z5.put4 false
    obtain ⟨-, -, -, -, u5a, u5b⟩ := Z5.cells
    have yy5 : Below w4.heap.size w4 w5 := yz5.trans (i5b.mono (by omega))
    clear S5 Z5 yz5 i5b
    have I5 := Lib.hid I5x
    clear I5x
    have J0 : Hid (w5.heap[y0]? = some (.cells #[.string (sB m), .slice A l cap] 24 (0, 0))) := (yy5.block y0 (Array.getElem?_eq_some_iff.1 J0.out).1).trans J0.out
    have P1 := Lib.hid (P1.out.below yy5)
    have BA4 := Lib.hid (BA4.out.below yy5)
    have OP4 := Lib.hid (OP4.out.below yy5)
    have W := Lib.hid (UP.out yy5 W.out)
    have D5 := DI.out (some ⟨g1, 0, none⟩) c1 hc1 hcm1 w5 W.out P1.out
    clear yy5 DI
    go_wp2_with fail
    refine D5.mono ?_
    rintro e w6 ⟨mQ, CQ, B6, c6, rfl, hT, hb, hY, -⟩
    obtain ⟨rfl, rfl⟩ : m = mQ ∧ C = CQ := by first | exact ⟨(hY rfl).1.symm, (hY rfl).2.symm⟩ | exact ⟨(hY trivial).1.symm, (hY trivial).2.symm⟩
    have OP6 := Lib.hid hT.opsP
    have J0 : Hid (w6.heap[y0]? = some (.cells #[.string (sB m), .slice A l cap] 24 (0, 0))) := (hb.block y0 (Array.getElem?_eq_some_iff.1 J0.out).1).trans J0.out
    have P1 := Lib.hid (P1.out.below hb)
    have BA4 := Lib.hid (BA4.out.below hb)
    have OP4 := Lib.hid (OP4.out.below hb)
    have I5 := Lib.hid (I5.out.all hb)
    have W := Lib.hid (UP.out hb W.out)
    clear D5 hb hT hY
    obtain ⟨y7, w7, hy7, hw7, S7, yy7, z7⟩ := Fr.box (Fr.nil w6) #[.string (sB m), .slice B6 C.length c6] 24
    have K7 : Hid (w7.heap[y7]? = some (.cells #[.string (sB m), .slice B6 C.length c6] 24 (0, 0))) := S7.out.1
    have J0 : Hid (w7.heap[y0]? = some (.cells #[.string (sB m), .slice A l cap] 24 (0, 0))) := (yy7.block y0 (Array.getElem?_eq_some_iff.1 J0.out).1).trans J0.out
    have P1 := Lib.hid (P1.out.below yy7)
    have BA4 := Lib.hid (BA4.out.below yy7)
    have OP4 := Lib.hid (OP4.out.below yy7)
    have I5 := Lib.hid (I5.out.all yy7)
    have OP6 := Lib.hid (OP6.out.below yy7)
    have W := Lib.hid (UP.out yy7 W.out)
    have O7 := OF.out w7 W.out
    obtain ⟨k0, k1⟩ := Fr.cells2 J0.out
    clear S7 yy7 OF
    go_wp2_with fail
    refine O7.mono ?_
    rintro e w8 ⟨v, rfl, hO, hb⟩
    obtain ⟨A8, c8, rfl, hP, -⟩ := hO.ops
    have OP8 := Lib.hid hP
    have P1 := Lib.hid (P1.out.below hb)
    have BA4 := Lib.hid (BA4.out.below hb)
    have OP4 := Lib.hid (OP4.out.below hb)
    have I5 := Lib.hid (I5.out.all hb)
    have OP6 := Lib.hid (OP6.out.below hb)
    have K7 : Hid (w8.heap[y7]? = some (.cells #[.string (sB m), .slice B6 C.length c6] 24 (0, 0))) := (hb.block y7 (Array.getElem?_eq_some_iff.1 K7.out).1).trans K7.out
    have W := Lib.hid (UP.out hb W.out)
    clear O7 hb hO hP J0 k0 k1
    obtain ⟨y9, v9, hy9, hv9, S9, yz9, z9⟩ := Fr.box (Fr.nil w8) #[.int .i64 1, .slice (some ⟨g1, 0, none⟩) la c1, .string (sB m), .slice A8 C.length c8, .bool false] 31
    have Z9 : ItAt v9 y9 1 (.slice (some ⟨g1, 0, none⟩) la c1) (sB m) (.slice A8 C.length c8) false := S9.out.1
    obtain ⟨w9, hw9, I9x, i9b, -⟩ := Z9.put4 false
    obtain ⟨-, -, -, -, u9a, u9b⟩ := Z9.cells
    have yy9 : Below w8.heap.size w8 w9 := yz9.trans (i9b.mono (by omega))
    clear S9 Z9 yz9 i9b
    have I9 := Lib.hid I9x
    clear I9x
    have P1 := Lib.hid (P1.out.below yy9)
    have BA4 := Lib.hid (BA4.out.below yy9)
    have OP4 := Lib.hid (OP4.out.below yy9)
    have I5 := Lib.hid (I5.out.all yy9)
    have OP6 := Lib.hid (OP6.out.below yy9)
    have K7 : Hid (w9.heap[y7]? = some (.cells #[.string (sB m), .slice B6 C.length c6] 24 (0, 0))) := (yy9.block y7 (Array.getElem?_eq_some_iff.1 K7.out).1).trans K7.out
    have OP8 := Lib.hid (OP8.out.below yy9)
    have W := Lib.hid (UP.out yy9 W.out)
    have L9 := AL.out w9 W.out
    clear yy9 AL
    go_wp2_with fail
    refine L9.mono ?_
    rintro e w10 ⟨rfl, hb⟩
    have P1 := Lib.hid (P1.out.below hb)
    have BA4 := Lib.hid (BA4.out.below hb)
    have OP4 := Lib.hid (OP4.out.below hb)
    have I5 := Lib.hid (I5.out.all hb)
    have I9 := Lib.hid (I9.out.all hb)
    have OP6 := Lib.hid (OP6.out.below hb)
    have K7 : Hid (w10.heap[y7]? = some (.cells #[.string (sB m), .slice B6 C.length c6] 24 (0, 0))) := (hb.block y7 (Array.getElem?_eq_some_iff.1 K7.out).1).trans K7.out
    have OP8 := Lib.hid (OP8.out.below hb)
    have W := Lib.hid (UP.out hb W.out)
    have SM := rsame12_any 1 1 a a m m false false A4 (some ⟨g1, 0, none⟩) D4 A8 c4 c1 d4 c8 C C (by omega) (by omega) w10 BA4.out P1.out OP4.out OP8.out
    simp only [decide_true, Bool.and_self, beq_self_eq_true] at SM
    rw [HLA.out] at SM
    obtain ⟨j0, j1, j2, j3, j4, j5⟩ := I5.out.cells
    obtain ⟨i0, i1, i2, i3, i4, i5⟩ := I9.out.cells
    clear L9 hb
    go_wp2_with fail
    refine SM.mono ?_
    rintro e w11 ⟨rfl, hb⟩
    clear j0 j1 j2 j3 j4 j5 i0 i1 i2 i3 i4 i5
    have I9 := Lib.hid (I9.out.all hb)
    have OP6 := Lib.hid (OP6.out.below hb)
    have K7 : Hid (w11.heap[y7]? = some (.cells #[.string (sB m), .slice B6 C.length c6] 24 (0, 0))) := (hb.block y7 (Array.getElem?_eq_some_iff.1 K7.out).1).trans K7.out
    have OP8 := Lib.hid (OP8.out.below hb)
    have W := Lib.hid (UP.out hb W.out)
    have S07 := rsame_any m m B6 A8 c6 c8 C C (by omega) (by omega) w11 OP6.out OP8.out
    simp only [decide_true, Bool.and_self] at S07
    obtain ⟨-, -, i2, i3, -, -⟩ := I9.out.cells
    obtain ⟨q0, q1⟩ := Fr.cells2 K7.out
    clear SM hb
    go_wp2_with fail
    refine S07.mono ?_
    rintro e w12 ⟨rfl, hb⟩
    have W := Lib.hid (UP.out hb W.out)
    clear S07 hb
    go_wp2
    go_ret
    exact ⟨rfl, W.out⟩
end Go.Proofs.YtclhaejdjogfbaaGreatDoor
namespace Go.Proofs.YtclhaejdjogfbaaGreatDoor
open Go.RowKit
variable {H : Type} {enc : TypeId × Value → H}
theorem wrap_shaped {a : Assume} {C : Checked} {os : Os} {f : FuncId} {fn : Func} {s : ChangeSpec} {conds : List PathCond} {apart fresh handsOn again : Bool} {X : World → Array Value → Prop}
    (hX : ∀ (w w' : World) (args : Array Value), w.heap = w'.heap → X w args → X w' args)
    (own : ownKnob C.prog.godebug = none) (started : os.Started) (noInit : C.prog.inits.idxOf? f = none) (hfn : C.prog.funcs[f]? = some fn)
    (witness : ∃ (w : World) (tape : Tape) (i : Input), w.os = os ∧ (w.forCall tape i).Shaped C.prog ∧ i.vars = [] ∧ Input.okWide C.prog (w.forCall tape i) .any w.heap.size f i ∧
      ((s.pre enc C.prog fn conds apart (w.forCall tape i).memory i.args ∧ X (w.forCall tape i).memory i.args) ∧ sizedMet enc C.prog fn (OpenSpec.ofChange s) apart (w.forCall tape i).memory i.args) ∧ a.holds C.prog (lone (Frame.enter C.prog f i.args .normal) [] (w.forCall tape i)))
    (body : ∀ (W : World) (base : Nat) (args : Array Value) (ds gs : List (DataW H)) (before : List MemPlace),
      (∀ (j : Nat) t v, fn.params[j]? = some t → args[j]? = some v → Value.okWide C.prog W .any base t v) →
      DataW.Whole enc C.prog fn.params.toList s.vars apart W args.toList ds gs before → X W args → W.ShapedOpen C.prog →
      Calls C.prog f args W fun e W' => ∃ v, e = .returned v ∧ s.post enc C.prog fn apart fresh handsOn again W args v W') :
    ReturnsInHanded a C os f .any (fun w args => (s.pre enc C.prog fn conds apart w args ∧ X w args) ∧ sizedMet enc C.prog fn (OpenSpec.ofChange s) apart w args) (s.post enc C.prog fn apart fresh handsOn again) := by
  refine returnsInHanded_of_calls own started noInit witness fun w tape i _ hsh _ hok hpre _ => ?_
  obtain ⟨_, _, _, g, hg, _, _, _, _, hval⟩ := hok
  cases Option.some.inj (hg.symm.trans hfn)
  obtain ⟨⟨⟨ds, gs, before, hw, _⟩, hx⟩, _⟩ := hpre
  refine (body _ w.heap.size i.args ds gs before hval (DataW.Whole.of_heap (w' := w.forCall tape i) (by rfl) hw) (hX _ _ _ (by rfl) hx) hsh).mono ?_
  rintro e W' ⟨v, rfl, hp⟩
  exact ChangeSpec.post_blind hp
theorem max_of_shape {W : World} (h : W.ShapedOpen Tryz.prog) : MaxAt W :=
  cell_of_shapedOpen_int (g := 0) (t := 3) (zero := #[.int .i64 0]) h (of_decide_eq_true (by kernel_rfl)) (by kernel_rfl) rfl (by kernel_rfl) (by kernel_rfl) Tryz.underlying3
end Go.Proofs.YtclhaejdjogfbaaGreatDoor
namespace Go.Proofs.YtclhaejdjogfbaaGreatDoor
open Go.ChangeShapes Go.WideShapes Go.RowKit
def bU8 (n : Int) : UInt8 := n.toNat.toUInt8
theorem bU8_nat {n : Int} (h : (Lit.int .u8 n).wf = true) : ((bU8 n).toNat : Int) = n := by
  have h2 : 0 ≤ n ∧ n ≤ 255 := by
    have h3 : IntKind.u8.min ≤ n ∧ n ≤ IntKind.u8.max := by simpa [Lit.wf] using h
    exact h3
  unfold bU8
  rw [UInt8.toNat_ofNat_of_lt' (show n.toNat < 256 by omega)]
  omega
section
variable {H : Type} {enc : TypeId × Value → H} {w : World} {spare : Nat → Bool} {fuel : Nat}
theorem addr_plain {a : Addr} {v : Value} (h : w.cell? (a.add 0) = some v) : ∃ b off, a = ⟨b, off, none⟩ := by
  obtain ⟨b, off, spot⟩ := a
  have hs : spot = none := by simpa [Addr.add] using World.cell?_spot h
  subst hs
  exact ⟨b, off, rfl⟩
theorem open_bytesA {v : Value} {x : DataW H × List MemPlace} (h : DataW.trod enc Tryz.prog w 0 spare true fuel 25 [v] = some x) : ∃ A len cap xs, v = .slice A len cap ∧ len = xs.length ∧ len ≤ maxLen ∧ BytesAt w A xs := by
  rcases open_ints Tryz.underlying25 Tryz.underlying5 (by kernel_rfl) h with ⟨hcs, _⟩ | ⟨a, l, c, zs, hcs, _, hl, hm, hz, _, hcell, hwz⟩
  · simp only [List.cons.injEq, and_true] at hcs
    subst hcs
    exact ⟨none, 0, 0, [], rfl, rfl, Nat.zero_le _, .inl rfl⟩
  · simp only [List.cons.injEq, and_true] at hcs
    subst hcs
    have hlz : l ≤ zs.length := by rw [hz]; split <;> omega
    refine ⟨some a, l, c, (zs.take l).map bU8, rfl, by simp; omega, by omega, ?_⟩
    by_cases h0 : l = 0
    · left; subst h0; simp
    · obtain ⟨b, off, rfl⟩ := addr_plain (hcell 0 (by omega))
      refine .inr ⟨b, off, rfl, fun j hj => ?_⟩
      have hj' : j < l := by simp at hj; omega
      have hjz : j < zs.length := by omega
      have e := hcell j hjz
      have hadd : (⟨b, off, none⟩ : Addr).add j = ⟨b, off + j, none⟩ := by unfold Addr.add; split <;> simp_all
      rw [hadd] at e
      rw [e]
      have hg : zs.getD j 0 = zs[j] := by simp [List.getD, List.getElem?_eq_getElem hjz]
      rw [hg]
      simp only [List.getElem_map, List.getElem_take]
      rw [bU8_nat (hwz _ (List.getElem_mem hjz))]
end
end Go.Proofs.YtclhaejdjogfbaaGreatDoor
