/-
  TableNamed: the walk over the law.
-/
import Derived.Test.YtipgecdfnbldnaaGreatDoorMCoH
import Derived.Test.YtipgecdfnbldnaaGreatDoorTaX
set_option linter.all false
set_option maxRecDepth 100000
set_option maxHeartbeats 4000000
namespace Go.Proofs.YtipgecdfnbldnaaGreatDoor
open Go.RowKit Go.Shelf
attribute [local go_sem] Oper.semAt_some
theorem run_appRow (w : World) (B : Nat) (v : Value) (R : List Ee) (h : w.ownsRow B 30 6 v R.length (cellsX R)) (A : Option Addr) (c : Nat) (R2 : List Ee) (hP : EsP w A R2) (hB : B ≤ w.heap.size) (hs : R.length + R2.length ≤ 100000) :
    ∃ A' c' w', (Builtin.append_ #[44, 44] 44 #[v, .slice A R2.length c]).run Tryz.prog w = .ok (.slice A' (R ++ R2).length c') w' ∧ w'.ownsRow B 30 6 (.slice A' (R ++ R2).length c') (R ++ R2).length (cellsX (R ++ R2)) ∧ Below B w w' := by
  obtain ⟨i0, hi, hz0, hz1, hz2⟩ := info_parts info_enR
  obtain ⟨v', w', k1, k2, k3⟩ := run_append_src w B 44 44 30 i0 _ 6 80 Tryz.underlying44 hi hz0 hz1 hz2 rfl (by decide) v R.length (cellsX R) h A R2.length c (cellsX R2)
    (cellsX_length R2) hP.news (cellsX_one R2) (by unfold maxLen; omega) (by omega) hB
  rw [← cellsX_append, ← List.length_append] at k2
  have k2' := k2
  rcases k2'.2 with ⟨rfl, h0⟩ | ⟨g, cap, cur, rfl, _⟩
  · have e : (R ++ R2).length = 0 := h0
    rw [e] at k2 ⊢
    exact ⟨none, 0, w', k1, k2, (Below.refl B w).grown k3 hB fun k hk => (World.ownsRow.lt h k hk).1⟩
  · exact ⟨_, cap, w', k1, k2, (Below.refl B w).grown k3 hB fun k hk => (World.ownsRow.lt h k hk).1⟩
theorem row_es {w : World} {B : Nat} {A : Option Addr} {c : Nat} {R : List Ee} (h : w.ownsRow B 30 6 (.slice A R.length c) R.length (cellsX R)) (hO : ∀ r ∈ R, OpsP w r.A r.L) : EsP w A R := by
  rcases h.2 with ⟨h1, h0⟩ | ⟨g, cap, cur, h1, _, _, hle, _⟩
  · exact .inl (List.eq_nil_of_length_eq_zero h0)
  · simp only [Value.slice.injEq] at h1
    obtain ⟨rfl, -, -⟩ := h1
    refine .inr ⟨g, 0, rfl, fun k hk => ⟨fun i u hu => ?_, hO _ (List.getElem_mem hk)⟩⟩
    rw [Nat.zero_add]
    have hi : i < 6 := (List.getElem?_eq_some_iff.1 hu).1
    obtain ⟨h1, h2, h3, h4, h5, h6⟩ := cellsX_at R k hk
    have hc : (cellsX R)[k * 6 + i]? = some u := by
      have : i = 0 ∨ i = 1 ∨ i = 2 ∨ i = 3 ∨ i = 4 ∨ i = 5 := by omega
      rcases this with rfl | rfl | rfl | rfl | rfl | rfl
      · exact h1.trans hu
      · exact h2.trans hu
      · exact h3.trans hu
      · exact h4.trans hu
      · exact h5.trans hu
      · exact h6.trans hu
    exact (World.ownsRow.cellAt h _ (by omega)).trans hc
def selE (op : Str) (R : List Ee) (k : Nat) : List Ee := (R.take k).filter fun r => decide (r.m = op)
theorem selE_yes {op : Str} {R : List Ee} {k : Nat} (h : k < R.length) (e : R[k].m = op) : selE op R (k + 1) = selE op R k ++ [R[k]] := by
  unfold selE
  rw [List.take_succ_eq_append_getElem h, List.filter_append, List.filter_cons, List.filter_nil, if_pos (decide_eq_true e)]
theorem selE_no {op : Str} {R : List Ee} {k : Nat} (h : k < R.length) (e : R[k].m ≠ op) : selE op R (k + 1) = selE op R k := by
  unfold selE
  rw [List.take_succ_eq_append_getElem h, List.filter_append, List.filter_cons, List.filter_nil, if_neg (by rw [decide_eq_false e]; decide), List.append_nil]
theorem selE_len (op : Str) (R : List Ee) (k : Nat) : (selE op R k).length ≤ R.length := Nat.le_trans (List.length_filter_le _ _) (by rw [List.length_take]; omega)
theorem selE_mem {op : Str} {R : List Ee} {k : Nat} {r : Ee} (h : r ∈ selE op R k) : r ∈ R := List.mem_of_mem_take (List.mem_filter.1 h).1
theorem selE_keys (op : Str) (R : List Ee) : (selE op R R.length).map Ee.k = (R.map Ee.k).filter fun e => decide (e.2.2.1 = op) := by
  unfold selE
  rw [List.take_length, List.filter_map]
  rfl
theorem entsR_len (page : Int) : ∀ K, (entsR page K).length ≤ K
  | 0 => Nat.le_refl _
  | K + 1 => by
    have ih := entsR_len page K
    unfold entsR
    cases ratT page K with
    | none => exact Nat.le_succ_of_le ih
    | some y => simp; exact ih
def smallR (page : Int) (n : Nat) : Bool := match ratT page n with
  | some x => decide (x.2.1.length ≤ 3)
  | none => true
theorem small_k : ∀ g : Fin 7, ∀ n : Fin 256, smallR (g.val : Int) n.val = true := by decide +kernel
theorem small_all (page : Int) (n : Nat) (hn : n < 256) : smallR page n = true := by
  by_cases hp : 0 ≤ page ∧ page ≤ 6
  · obtain ⟨g, rfl⟩ : ∃ g : Nat, page = (g : Int) := ⟨page.toNat, by omega⟩
    exact small_k ⟨g, by omega⟩ ⟨n, hn⟩
  · unfold smallR
    rw [ratT_no hp]
theorem entsR_small (page : Int) : ∀ K, K ≤ 256 → ∀ y ∈ entsR page K, y.2.2.2.1.length ≤ 3
  | 0, _, y, hy => by cases hy
  | K + 1, hK, y, hy => by
    have ih := entsR_small page K (by omega)
    have hs := small_all page K (by omega)
    unfold smallR at hs
    unfold entsR at hy
    cases hx : ratT page K with
    | none => rw [hx] at hy; exact ih y hy
    | some x =>
      rw [hx] at hy hs
      rcases List.mem_append.1 hy with h | h
      · exact ih y h
      · obtain rfl := List.mem_singleton.1 h
        exact of_decide_eq_true hs
theorem sB_of (s : ByteArray) : ∃ op : Str, s = sB op := ⟨s.data.toList, by unfold sB; rw [Array.toArray_toList]⟩
theorem walkTN (s : ByteArray) (c : Int) (w : World) (hs : s.size ≤ maxLen) (wc : (Lit.int .u8 c).wf = true) (hM : MaxAt w) :
    Calls Tryz.prog 5 #[.string s, .int .u8 c] w fun e w' => e = .returned (.bool true) ∧ Below w.heap.size w w' := by
  obtain ⟨op, rfl⟩ := sB_of s
  obtain ⟨i, hi, rfl⟩ : ∃ n : Nat, n < 256 ∧ c = n := by
    have h : 0 ≤ c ∧ c ≤ 255 := by
      have h3 : IntKind.u8.min ≤ c ∧ c ≤ IntKind.u8.max := by simpa [Lit.wf] using wc
      exact h3
    exact ⟨c.toNat, by omega, by omega⟩
  clear wc
  have hz := sB_size op
  by_cases hlen : 100 < op.length
  · have h1 : (100 : Int) < ((sB op).size : Int) := by rw [hz]; omega
    have ha := alive_any w hM
    clear hlen hz hM hs
    go_enter Tryz.func5, Tryz.ntmps5
    go_wp2_with fail
    refine ha.mono ?_
    rintro e w' ⟨rfl, hb⟩
    have HB := Lib.hid hb
    clear hb ha
    go_wp2
    go_ret
    exact ⟨rfl, HB.out⟩
  · have h1 : ¬ (100 : Int) < ((sB op).size : Int) := by rw [hz]; omega
    obtain ⟨p, hp⟩ : ∃ p : Int, ((i : Int) % 8) = p := ⟨_, rfl⟩
    have hr := fun p => rents_any p w
    have HM := Lib.hid hM
    clear hlen hz hM hs
    go_enter Tryz.func5, Tryz.ntmps5
    go_wp2_with fail
    refine (hr p).mono ?_
    rintro e w3 ⟨A3, c3, R, rfl, hO3, hK3, hb3⟩
    have E3 : Hid (EsP w3 A3 R) := by
      obtain ⟨A', c', hv, hE, -⟩ := hO3.es
      cases hv
      exact hE
    have OP3 : Hid (∀ r ∈ R, OpsP w3 r.A r.L) := fun r hr => by
      obtain ⟨A', c', hv, hE, -⟩ := (hO3.2 r hr).ops
      simp only [Ee.v, Value.slice.injEq] at hv
      rw [hv.1]
      exact hE
    have LN : Hid (∀ r ∈ R, r.L.length ≤ 1000) := fun r hr => by
      obtain ⟨u, hu, rfl⟩ := List.getElem_of_mem hr
      have h1 : R[u].k ∈ R.map Ee.k := List.mem_map_of_mem (List.getElem_mem hu)
      rw [hK3] at h1
      exact Nat.le_trans (entsR_small p 256 (Nat.le_refl _) _ h1) (by decide)
    have hle : R.length ≤ 256 := by
      have h1 : (R.map Ee.k).length = (entsR p 256).length := by rw [hK3]
      rw [List.length_map] at h1
      have := entsR_len p 256
      omega
    have HK3 := Lib.hid hK3
    have B3 := Lib.hid hb3
    have M3 := Lib.hid (HM.out.below hb3)
    obtain ⟨B, hB⟩ : ∃ z, w3.heap.size = z := ⟨_, rfl⟩
    have HB := Lib.hid hB
    obtain ⟨n, hn⟩ : ∃ z, R.length = z := ⟨_, rfl⟩
    have HN := Lib.hid hn
    rw [hn] at hle ⊢
    have I0 : Hid (w3.ownsRow B 30 6 (.slice none 0 0) (selE op R 0).length (cellsX (selE op R 0)) ∧ Below B w3 w3) := ⟨World.ownsRow_nil _ _ _ _, Below.refl _ _⟩
    clear hr hO3 hK3 hb3 hB hn
    go_wp2
    go_loopw [17, 5] (fun i v wr => ∃ (k : Nat) (A' : Option Addr) (c' : Nat), k ≤ n ∧ i = .int .i64 (k : Int) ∧ v = .slice A' (selE op R k).length c' ∧ Hid (wr.ownsRow B 30 6 (.slice A' (selE op R k).length c') (selE op R k).length (cellsX (selE op R k)) ∧ Below B w3 wr)) (fun i _ _ => n - (intOf i).toNat)
    case atStart => exact ⟨0, none, 0, Nat.zero_le _, rfl, rfl, I0.out⟩
    case round =>
      clear I0
      obtain ⟨k, A', c', hk, rfl, rfl, ROW⟩ := hrel
      by_cases hlt : k < n
      · have hk1 : k < R.length := by rw [HN.out]; exact hlt
        have BW : Below w3.heap.size w3 wr := by rw [HB.out]; exact ROW.out.2
        have hat := (E3.out.below BW).at_ hk1
        obtain ⟨r, hr⟩ : ∃ r, R[k] = r := ⟨_, rfl⟩
        have SY := fun e => Lib.hid (selE_yes (op := op) hk1 e)
        have SN := fun e => Lib.hid (selE_no (op := op) hk1 e)
        have SL := selE_len op R k
        rw [hr] at hat
        simp only [hr] at SY SN
        obtain ⟨g, o, m, Ar, cr, L, ex, al⟩ := r
        simp only [Ee.v] at hat SY SN
        obtain ⟨b, off, rfl, hb, e0, e1, e2, e3, e4, e5, eO⟩ := hat
        obtain ⟨ll, hll⟩ : ∃ z, L.length = z := ⟨_, rfl⟩
        obtain ⟨q1, hq1⟩ : ∃ z, wr.heap.size = z := ⟨_, rfl⟩
        obtain ⟨wa, hwa⟩ : ∃ z, wr.alloc (.cells #[.int .i64 g, .int .u8 o, .string (sB m), .slice Ar L.length cr, .string (sB ex), .bool al] 30) = z := ⟨_, rfl⟩
        have ba : Below wr.heap.size wr wa := by rw [← hwa]; exact up_alloc _ _
        have ca : wa.heap[q1]? = some (.cells #[.int .i64 g, .int .u8 o, .string (sB m), .slice Ar L.length cr, .string (sB ex), .bool al] 30 (0, 0)) := by rw [← hwa, ← hq1]; exact World.alloc_heap_new wr _
        have SZ : B ≤ wr.heap.size := by rw [← HB.out]; exact BW.size
        have RA : Hid (wa.ownsRow B 30 6 (.slice A' (selE op R k).length c') (selE op R k).length (cellsX (selE op R k)) ∧ Below B w3 wa) := ⟨by rw [← hwa]; exact World.ownsRow.alloc ROW.out.1 _, ROW.out.2.trans (ba.mono SZ)⟩
        have OA := eO.below ba
        have hbq := sB_eq_dec m op
        have s0 := Lib.cell_of_heap ca 0
        have s1 := Lib.cell_of_heap ca 1
        have s2 := Lib.cell_of_heap ca 2
        have s3 := Lib.cell_of_heap ca 3
        have s4 := Lib.cell_of_heap ca 4
        have s5 := Lib.cell_of_heap ca 5
        have HLT := Lib.hid hlt
        by_cases hm : m = op
        · rw [decide_eq_true hm] at hbq
          have S1 := SY hm
          have SA : B ≤ wa.heap.size := Nat.le_trans SZ ba.size
          have ES := es_oneR wa ⟨g, o, m, Ar, cr, L, ex, al⟩ OA
          obtain ⟨q2, hq2⟩ : ∃ z, wa.heap.size = z := ⟨_, rfl⟩
          obtain ⟨wb, hwb⟩ : ∃ z, wa.alloc (.cells #[.int .i64 g, .int .u8 o, .string (sB m), .slice Ar L.length cr, .string (sB ex), .bool al] 30) = z := ⟨_, rfl⟩
          simp only [Ee.v] at ES
          rw [hwb, hq2] at ES
          have bb : Below wa.heap.size wa wb := by rw [← hwb]; exact up_alloc _ _
          have RB : wb.ownsRow B 30 6 (.slice A' (selE op R k).length c') (selE op R k).length (cellsX (selE op R k)) := by rw [← hwb]; exact World.ownsRow.alloc RA.out.1 _
          obtain ⟨A7, c7, w7, k1, k2, k3⟩ := run_appRow wb B _ _ RB (some ⟨q2, 0, none⟩) 1 [(⟨g, o, m, Ar, cr, L, ex, al⟩ : Ee)] ES (Nat.le_trans SA bb.size) (by simp; have := HN.out; omega)
          rw [← S1.out] at k1 k2
          have K1 := Lib.hid k1
          have K2 : Hid (w7.ownsRow B 30 6 (.slice A7 (selE op R (k + 1)).length c7) (selE op R (k + 1)).length (cellsX (selE op R (k + 1))) ∧ Below B w3 w7) := ⟨k2, (RA.out.2.trans (bb.mono SA)).trans k3⟩
          obtain ⟨l1, hl1⟩ : ∃ z, (selE op R k).length = z := ⟨_, rfl⟩
          obtain ⟨l2, hl2⟩ : ∃ z, (selE op R (k + 1)).length = z := ⟨_, rfl⟩
          rw [hl1, hl2] at K1
          rw [hl1]
          have HL2 := Lib.hid hl2
          rw [hll] at e3 s3 hwa hwb
          clear ROW RA BW SY SN S1 SA SL SZ ES eO OA ca ba bb RB k1 k2 k3 hl1 hl2 hll hm hk hk1 hr hb hlt
          go_wp2_with (at_builtin; refine wpList_run_append K1.out rfl _ _ rfl rfl rfl rfl ?_)
          go_roundw
          case rel => exact ⟨k + 1, A7, c7, HLT.out, by go_num, by rw [HL2.out], K2.out⟩
          case measure => have := HLT.out; simp [intOf]; omega
        · rw [decide_eq_false hm] at hbq
          have S1 := SN hm
          rw [← S1.out] at RA ⊢
          obtain ⟨l1, hl1⟩ : ∃ z, (selE op R (k + 1)).length = z := ⟨_, rfl⟩
          have HL1 := Lib.hid hl1
          rw [hl1]
          rw [hll] at e3 s3 hwa
          clear ROW BW SY SN S1 SL SZ eO OA ca ba hl1 hll hm hk hk1 hr hb hlt
          go_wp2
          go_roundw
          case rel => exact ⟨k + 1, A', c', HLT.out, by go_num, by rw [HL1.out], RA.out⟩
          case measure => have := HLT.out; simp [intOf]; omega
      · obtain rfl : k = n := by omega
        have BW : Below w3.heap.size w3 wr := by rw [HB.out]; exact ROW.out.2
        have ES : Hid (EsP wr A' (selE op R k)) := row_es ROW.out.1 fun r hr => (OP3.out r (selE_mem hr)).below BW
        have UW : Hid (Below w.heap.size w wr) := B3.out.trans (BW.mono B3.out.size)
        have MW : Hid (MaxAt wr) := M3.out.below BW
        have ha := alive_any wr MW.out
        have KS : Hid ((selE op R k).map Ee.k = (entsR p 256).filter fun e => decide (e.2.2.1 = op)) := by
          show _ = _
          rw [← HN.out, selE_keys, HK3.out]
        have SL : (selE op R k).length ≤ 256 := by have := selE_len op R k; have := HN.out; omega
        have LS : Hid (∀ r ∈ selE op R k, r.L.length ≤ 1000) := fun r hr => LN.out r (selE_mem hr)
        obtain ⟨l1, hl1⟩ : ∃ z, (selE op R k).length = z := ⟨_, rfl⟩
        have HL1 := Lib.hid hl1
        rw [hl1] at SL ⊢
        have HSL := Lib.hid SL
        clear ROW BW hlt hk hle hl1 SL
        go_wp2_with fail
        refine ha.mono ?_
        rintro e w5 ⟨rfl, hb5⟩
        obtain ⟨b6, hb6⟩ : ∃ z, w5.heap.size = z := ⟨_, rfl⟩
        obtain ⟨w6, hw6⟩ : ∃ z, w5.alloc (.cells #[.int .i64 p] 3) = z := ⟨_, rfl⟩
        have bb6 : Below w5.heap.size w5 w6 := by rw [← hw6]; exact up_alloc _ _
        have b56 : Below wr.heap.size wr w6 := hb5.trans (bb6.mono hb5.size)
        have c6 : w6.heap[b6]? = some (.cells #[.int .i64 p] 3 (0, 0)) := by rw [← hw6, ← hb6]; exact World.alloc_heap_new w5 _
        have P6 : IntsP w6 (some ⟨b6, 0, none⟩) [p] := .inr ⟨_, _, rfl, fun k hk => by
          obtain rfl : k = 0 := by simp at hk; omega
          exact Lib.cell_of_heap c6 0⟩
        have hnm := named_any op w6 (MW.out.below b56) (some ⟨b6, 0, none⟩) 1 [p] P6 (by simp)
        have hpl : keysAll (fun m => decide (m = op)) (pagesL [p]) = (entsR p 256).filter fun e => decide (e.2.2.1 = op) := by
          rw [← keysPg_named]
          exact List.append_nil _
        rw [hpl, show [p].length = 1 from rfl] at hnm
        have U6 : Hid (Below w.heap.size w w6) := UW.out.trans (b56.mono UW.out.size)
        have E6 := Lib.hid (ES.out.below b56)
        clear ha hb5 bb6 b56 c6 P6 hpl
        go_wp2_with fail
        refine hnm.mono ?_
        rintro e w7 ⟨A1, c1, R1, rfl, hO1, hK1, hb7⟩
        have hE1 : EsP w7 A1 R1 := by
          obtain ⟨A', c', hv, hE, -⟩ := hO1.es
          cases hv
          exact hE
        have hKK : R1.map Ee.k = (selE op R k).map Ee.k := hK1.trans KS.out.symm
        have hl : R1.length = l1 := by have h := congrArg List.length hKK; rw [List.length_map, List.length_map] at h; rw [h, HL1.out]
        have heq := equalF_any 21 (enters_of Tryz.func21 (by kernel_rfl) rfl) same_named A1 A' c1 c' R1 (selE op R k) hKK (fun r hr => by
          have h1 : r.k ∈ (selE op R k).map Ee.k := hKK ▸ List.mem_map_of_mem hr
          obtain ⟨r2, hr2, e2⟩ := List.mem_map.1 h1
          have e3 : r2.L = r.L := congrArg (fun z : Ke => z.2.2.2.1) e2
          rw [← e3]
          exact LS.out r2 hr2) (by have := HSL.out; omega) w7 hE1 (E6.out.below hb7)
        rw [HL1.out, hl] at heq
        rw [hl]
        have U7 : Hid (Below w.heap.size w w7) := U6.out.trans (hb7.mono U6.out.size)
        clear hnm hO1 hK1 hb7 hE1 hKK hl
        go_wp2_with fail
        refine heq.mono ?_
        rintro e w8 ⟨rfl, hb8⟩
        have U8 : Hid (Below w.heap.size w w8) := U7.out.trans (hb8.mono U7.out.size)
        clear heq hb8
        go_wp2
        go_ret
        exact ⟨rfl, U8.out⟩
end Go.Proofs.YtipgecdfnbldnaaGreatDoor
