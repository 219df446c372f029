/-
  SeD, SeE, SeF.
-/
import Derived.Test.YtmnleknehjkmgaaGreatGAC
import Derived.Test.YtmnleknehjkmgaaGreatGAG
import Derived.Test.YtmnleknehjkmgaaGreatGAA
set_option linter.all false
set_option maxRecDepth 100000
set_option maxHeartbeats 4000000
namespace Go.Proofs.YtmnleknehjkmgaaGreat
open Go.RowKit Go.Shelf
attribute [local go_sem] Oper.semAt_some
attribute [local irreducible] Go.Mixed.wpMix
theorem var_new (w1 : World) (A : Option Addr) (cap n : Nat) (L : List Int) (lo hi : Int) (hn : L.length = n) (hl : n ≤ 1000) (hP : KsP w1 A L) :
    ∃ w2 w3, w1.alloc (.cells #[.slice A n cap] 38) = w2 ∧ (w2.alloc (.cells #[.int .i64 lo] 3)).alloc (.cells #[.int .i64 hi] 3) = w3 ∧
    VarA w3 (.agg #[.func (.func 137) #[] #[.pointer (some ⟨w1.heap.size, 0, none⟩)], .func (.func 139) #[] #[.pointer (some ⟨w2.heap.size, 0, none⟩), .pointer (some ⟨w2.heap.size + 1, 0, none⟩)]]) (L, lo, hi) ∧ Below w1.heap.size w1 w3 ∧ w3.heap.size = w1.heap.size + 3 := by
  subst hn
  refine ⟨_, _, rfl, rfl, ⟨_, _, _, A, cap, rfl, ?_, ?_, ?_, ?_, hl⟩, ?_, by simp⟩
  · exact ((Boxed.new w1 _ _).alloc _).alloc _
  · exact hP.below ((((Below.refl _ w1).alloc (Nat.le_refl _) _).alloc (by simp) _).alloc (by simp; omega) _)
  · exact (Boxed.new _ _ _).alloc _
  · have h := Boxed.new ((w1.alloc (.cells #[.slice A L.length cap] 38)).alloc (.cells #[.int .i64 lo] 3)) 3 (.int .i64 hi)
    rwa [World.size_alloc] at h
  · exact (((Below.refl _ w1).alloc (Nat.le_refl _) _).alloc (by simp) _).alloc (by simp; omega) _
theorem ks_new (w : World) (L : List Int) (cs : Array Value) (hc : cs.toList = L.map fun n => .int .i64 n) (t : TypeId) : KsP (w.alloc (.cells cs t)) (some ⟨w.heap.size, 0, none⟩) L := by
  refine .inr ⟨_, 0, rfl, fun k hk => ?_⟩
  rw [Lib.cell_of_heap (heap_alloc_new w _), Nat.zero_add, ← Array.getElem?_toList, hc, List.getElem?_map, List.getElem?_eq_getElem hk]
  rfl
def VarB (w : World) (b : Nat) (x : Vr) : Prop := ∃ f g, w.heap[b]? = some (.cells #[f, g] 153 (0, 0)) ∧ VarA w (.agg #[f, g]) x
theorem VarB.lt {w : World} {b : Nat} {x : Vr} (h : VarB w b x) : b < w.heap.size := by
  obtain ⟨f, g, h1, -⟩ := h
  exact (Array.getElem?_eq_some_iff.1 h1).1
theorem VarB.below {w w' : World} {b : Nat} {x : Vr} (h : VarB w b x) (hb : Below w.heap.size w w') : VarB w' b x := by
  have hl := h.lt
  obtain ⟨f, g, h1, h2⟩ := h
  exact ⟨f, g, (hb.block _ hl).trans h1, h2.below hb⟩
theorem KsP.put {w : World} {A : Option Addr} {L : List Int} (h : KsP w A L) {b : Nat} {f g : Value} (hb : w.heap[b]? = some (.cells #[f, g] 153 (0, 0))) (hf : ∀ k n, f ≠ .int k n) (hg : ∀ k n, g ≠ .int k n) (j : Nat) (u : Value) : KsP (w.setCell ⟨b, j, none⟩ u) A L := by
  rcases h with rfl | ⟨c, off, rfl, hc⟩
  · exact .inl rfl
  · refine .inr ⟨c, off, rfl, fun k hk => ?_⟩
    have h1 := hc k hk
    have hne : c ≠ b := by
      rintro rfl
      rw [Lib.cell_of_heap hb] at h1
      have : off + k = 0 ∨ off + k = 1 := by
        have h2 := (Array.getElem?_eq_some_iff.1 h1).1
        simp at h2
        omega
      rcases this with e | e
      · rw [e] at h1; exact hf _ _ (Option.some.inj h1)
      · rw [e] at h1; exact hg _ _ (Option.some.inj h1)
    have e := World.cell?_of_block (a := ⟨c, off + k, none⟩) (heap_setCell_other w ⟨b, j, none⟩ c u hne)
    exact e.trans h1
theorem Boxed.other {w : World} {b c : Nat} {t : TypeId} {v : Value} (h : Boxed w c t v) (hne : c ≠ b) (j : Nat) (u : Value) : Boxed (w.setCell ⟨b, j, none⟩ u) c t v := (heap_setCell_other w ⟨b, j, none⟩ c u hne).trans h
theorem Boxed.apart {w : World} {b c : Nat} {t : TypeId} {v : Value} (h : Boxed w c t v) {cs : Array Value} {ty : TypeId} {fz : Nat × Nat} (hb : w.heap[b]? = some (.cells cs ty fz)) (ht : t ≠ ty) : c ≠ b := by
  rintro rfl
  rw [show w.heap[c]? = _ from h] at hb
  simp at hb
  exact ht hb.2.1
theorem VarA.funs {w : World} {f g : Value} {x : Vr} (h : VarA w (.agg #[f, g]) x) : (∀ k n, f ≠ .int k n) ∧ ∀ k n, g ≠ .int k n := by
  obtain ⟨b1, b2, b3, A, cap, e, -⟩ := h
  cases e
  exact ⟨fun k n h => (by cases h), fun k n h => (by cases h)⟩
theorem VarA.form {w : World} {f g : Value} {x : Vr} (h : VarA w (.agg #[f, g]) x) : ∃ b1 b2 b3, f = .func (.func 137) #[] #[.pointer (some ⟨b1, 0, none⟩)] ∧ g = .func (.func 139) #[] #[.pointer (some ⟨b2, 0, none⟩), .pointer (some ⟨b3, 0, none⟩)] := by
  obtain ⟨b1, b2, b3, A, cap, e, -⟩ := h
  cases e
  exact ⟨b1, b2, b3, rfl, rfl⟩
theorem VarA.put {w : World} {v : Value} {x : Vr} (h : VarA w v x) {b : Nat} {f g : Value} (hb : w.heap[b]? = some (.cells #[f, g] 153 (0, 0))) (hf : (∀ k n, f ≠ .int k n) ∧ ∀ k n, g ≠ .int k n) (j : Nat) (u : Value) : VarA (w.setCell ⟨b, j, none⟩ u) v x := by
  obtain ⟨b1, b2, b3, A, cap, rfl, h1, h2, h3, h4, h5⟩ := h
  exact ⟨b1, b2, b3, A, cap, rfl, Boxed.other h1 (Boxed.apart h1 hb (by decide)) j u, h2.put hb hf.1 hf.2 j u, Boxed.other h3 (Boxed.apart h3 hb (by decide)) j u, Boxed.other h4 (Boxed.apart h4 hb (by decide)) j u, h5⟩
theorem VarA.store {w : World} {v : Value} {x : Vr} (h : VarA w v x) {b : Nat} {f g : Value} (hb : w.heap[b]? = some (.cells #[f, g] 153 (0, 0))) (hf : (∀ k n, f ≠ .int k n) ∧ ∀ k n, g ≠ .int k n) (f' g' : Value) (hf' : (∀ k n, f' ≠ .int k n) ∧ ∀ k n, g' ≠ .int k n) :
    VarA ((w.setCell ⟨b, 0, none⟩ f').setCell ⟨b, 1, none⟩ g') v x := by
  have hb1 : (w.setCell ⟨b, 0, none⟩ f').heap[b]? = some (.cells #[f', g] 153 (0, 0)) := heap_setCell_same w b 0 _ _ f' hb
  exact (h.put hb hf 0 f').put hb1 ⟨hf'.1, hf.2⟩ 1 g'
theorem VarB.store {w : World} {c : Nat} {x : Vr} (h : VarB w c x) {b : Nat} {f g : Value} (hb : w.heap[b]? = some (.cells #[f, g] 153 (0, 0))) (hf : (∀ k n, f ≠ .int k n) ∧ ∀ k n, g ≠ .int k n) (f' g' : Value) (hf' : (∀ k n, f' ≠ .int k n) ∧ ∀ k n, g' ≠ .int k n) (hne : c ≠ b) :
    VarB ((w.setCell ⟨b, 0, none⟩ f').setCell ⟨b, 1, none⟩ g') c x := by
  obtain ⟨p, q, h1, h2⟩ := h
  exact ⟨p, q, (heap_setCell_other _ ⟨b, 1, none⟩ c g' hne).trans ((heap_setCell_other _ ⟨b, 0, none⟩ c f' hne).trans h1), h2.store hb hf f' g' hf'⟩
theorem VarB.put {w : World} {b : Nat} {f' g' : Value} {x : Vr} (h : VarA w (.agg #[f', g']) x) {f g : Value} (hb : w.heap[b]? = some (.cells #[f, g] 153 (0, 0))) (hf : (∀ k n, f ≠ .int k n) ∧ ∀ k n, g ≠ .int k n) :
    VarB ((w.setCell ⟨b, 0, none⟩ f').setCell ⟨b, 1, none⟩ g') b x := by
  have hb1 : (w.setCell ⟨b, 0, none⟩ f').heap[b]? = some (.cells #[f', g] 153 (0, 0)) := heap_setCell_same w b 0 _ _ f' hb
  have hb2 : ((w.setCell ⟨b, 0, none⟩ f').setCell ⟨b, 1, none⟩ g').heap[b]? = some (.cells #[f', g'] 153 (0, 0)) := heap_setCell_same _ b 1 _ _ g' hb1
  exact ⟨f', g', hb2, h.store hb hf f' g' h.funs⟩
theorem rowB_below {w w' : World} {s : ByteArray} {b B : Nat} (h : RowB w s b) (hb : Below B w w') (hB : b < B) : RowB w' s b := fun j hj => (hb.cell (p := ⟨b, j, none⟩) hB).trans (h j hj)
theorem rowB_other {w : World} {s : ByteArray} {b c : Nat} (h : RowB w s b) (hne : b ≠ c) (j : Nat) (u : Value) : RowB (w.setCell ⟨c, j, none⟩ u) s b := fun k hk => (World.cell?_of_block (a := ⟨b, k, none⟩) (heap_setCell_other w ⟨c, j, none⟩ b u hne)).trans (h k hk)
def foldV (ex : Str) (k : Nat) : Vr × Vr := (ex.take k).foldl stepV (vr0, vr0)
theorem foldV_succ (ex : Str) (k : Nat) (h : k < ex.length) : foldV ex (k + 1) = stepV (foldV ex k) ex[k] := by
  unfold foldV
  rw [List.take_succ_eq_append_getElem h, List.foldl_append]
  rfl
theorem foldV_all (ex : Str) : foldV ex ex.length = varsV ex := by
  unfold foldV varsV
  rw [List.take_length]
def RetVars (w : World) (ex : Str) (e : Ending) (w' : World) : Prop := ∃ f g f' g', e = .returned (.tuple #[.agg #[f, g], .agg #[f', g']]) ∧ VarA w' (.agg #[f, g]) (varsV ex).1 ∧ VarA w' (.agg #[f', g']) (varsV ex).2 ∧ Below w.heap.size w w'
theorem u8_no (c : UInt8) (n : Nat) (hn : n < 256) (h : c ≠ UInt8.ofNat n) : ((c.toNat : Int) == (n : Int)) = false := (u8_is c n hn _ rfl).symm.trans (decide_eq_false h)
theorem variables_any (page op : Int) (m : Str) (A : Option Addr) (na cap : Nat) (ex : Str) (hx : ex.length ≤ 1000) (al : Bool) (w : World) :
    Calls Tryz.prog 109 #[enV page op m (.slice A na cap) ex al] w (RetVars w ex) := by
  unfold enV
  obtain ⟨s, hs⟩ : ∃ s, sB ex = s := ⟨_, rfl⟩
  have hz : s.size = ex.length := by rw [← hs, sB_size]
  have hat : ∀ k (h : k < s.size) (h' : k < ex.length), s[k] = ex[k] := fun k h h' => by subst hs; exact sB_at ex k h h'
  have HAT := Lib.hid hat
  obtain ⟨l, hl⟩ : ∃ l, ex.length = l := ⟨_, rfl⟩
  have HL := Lib.hid hl
  rw [hl] at hz hx
  have hcv := fun (w : World) => run_bytes_of_string (P := Tryz.prog) w 9 22 5 s Tryz.underlying9 Tryz.underlying22 Tryz.underlying5
  rw [hs]
  clear hs hat hl
  obtain ⟨w0, hw0⟩ : ∃ w0, ((w.alloc (.cells #[.int .i64 page, .int .u8 op, .string (sB m), .slice A na cap, .string s, .bool al] 122)).alloc (.cells #[.nilFunc, .nilFunc] 153)).alloc (.cells #[.nilFunc, .nilFunc] 153) = w0 := ⟨_, rfl⟩
  obtain ⟨n, hn⟩ : ∃ n, w.heap.size = n := ⟨_, rfl⟩
  have B0 : Below n w w0 := by rw [← hw0, ← hn]; exact (((Below.refl _ w).alloc (Nat.le_refl _) _).alloc (by simp) _).alloc (by simp; omega) _
  have Z0 : w0.heap.size = n + 1 + 1 + 1 := by rw [← hw0, ← hn]; simp
  have c0 : w0.heap[n]? = some (.cells #[.int .i64 page, .int .u8 op, .string (sB m), .slice A na cap, .string s, .bool al] 122 (0, 0)) := by
    rw [← hw0, ← hn]
    exact (Below.heap_alloc _ _ _ (by simp; omega)).trans ((Below.heap_alloc _ _ _ (by simp)).trans (World.alloc_heap_new w _))
  have c1 : w0.heap[n + 1]? = some (.cells #[.nilFunc, .nilFunc] 153 (0, 0)) := by
    rw [← hw0, ← hn]
    refine (Below.heap_alloc _ _ _ (by simp)).trans ?_
    have h := World.alloc_heap_new (w.alloc (.cells #[.int .i64 page, .int .u8 op, .string (sB m), .slice A na cap, .string s, .bool al] 122)) (.cells #[.nilFunc, .nilFunc] 153)
    rwa [World.size_alloc] at h
  have c2 : w0.heap[n + 1 + 1]? = some (.cells #[.nilFunc, .nilFunc] 153 (0, 0)) := by
    rw [← hw0, ← hn]
    have h := World.alloc_heap_new ((w.alloc (.cells #[.int .i64 page, .int .u8 op, .string (sB m), .slice A na cap, .string s, .bool al] 122)).alloc (.cells #[.nilFunc, .nilFunc] 153)) (.cells #[.nilFunc, .nilFunc] 153)
    rwa [World.size_alloc, World.size_alloc] at h
  obtain ⟨x1, x2, e1, e2, VA1, BB1, ZZ1⟩ := var_new w0 none 0 0 [] 0 0 rfl (by omega) (.inl rfl)
  obtain ⟨y1, y2, g1, g2, VA2, BB2, ZZ2⟩ := var_new x2 none 0 0 [] 0 0 rfl (by omega) (.inl rfl)
  have o1 := ofKinds_any none 0 0 w0
  have o2 := within_any 0 0 x1
  have o3 := ofKinds_any none 0 0 x2
  have o4 := within_any 0 0 y1
  rw [e1] at o1
  rw [e2] at o2
  rw [g1] at o3
  rw [g2] at o4
  have zx1 : x1.heap.size = n + 4 := by rw [← e1]; simp; omega
  have zy1 : y1.heap.size = n + 7 := by rw [← g1]; simp; omega
  have zx2 : x2.heap.size = n + 6 := by omega
  have B2 : Below n w y2 := (B0.trans (BB1.mono (by omega))).trans (BB2.mono (by omega))
  have B3 : Below (n + 1 + 1 + 1) w0 y2 := (BB1.mono (by omega)).trans (BB2.mono (by omega))
  rw [zx1, Z0] at VA1
  rw [zx2, zy1] at VA2
  rw [Z0] at o1
  rw [zx1] at o2
  rw [zx2] at o3
  rw [zy1] at o4
  have VA1' := VA1.below BB2
  have zy2 : y2.heap.size = n + 9 := by omega
  have q1 := (B3.block (n + 1) (by omega)).trans c1
  have q2 := (B3.block (n + 1 + 1) (by omega)).trans c2
  have q0 := (B3.block n (by omega)).trans c0
  have nf : (∀ k n, Value.nilFunc ≠ .int k n) ∧ ∀ k n, Value.nilFunc ≠ .int k n := ⟨fun k n h => (by cases h), fun k n h => (by cases h)⟩
  have QQ : Hid (y2.heap[n + 1]? = some (.cells #[.nilFunc, .nilFunc] 153 (0, 0)) ∧ y2.heap[n + 1 + 1]? = some (.cells #[.nilFunc, .nilFunc] 153 (0, 0)) ∧ y2.heap[n]? = some (.cells #[.int .i64 page, .int .u8 op, .string (sB m), .slice A na cap, .string s, .bool al] 122 (0, 0)) ∧ Below n w y2) := ⟨q1, q2, q0, B2⟩
  have VV1 := Lib.hid VA1'
  have VV2 := Lib.hid VA2
  have HN := Lib.hid hn
  have N0 := Lib.hid nf
  have hw0' := Lib.hid hw0
  clear e1 e2 g1 g2 VA1 BB1 ZZ1 BB2 ZZ2 VA1' VA2 B3 B2 q1 q2 q0 nf B0 c0 c1 c2 zx1 zy1 zx2 hn
  go_enter Tryz.func109, Tryz.ntmps109
  go_upto_region 1 with fail
  clear hw0' hw0
  go_wp2_with fail
  refine o1.mono ?_
  rintro e w1 ⟨rfl, rfl⟩
  clear o1
  go_wp2_with fail
  refine o2.mono ?_
  rintro e w1 ⟨rfl, rfl⟩
  clear o2
  go_wp2_with fail
  refine o3.mono ?_
  rintro e w1 ⟨rfl, rfl⟩
  clear o3
  go_wp2_with fail
  refine o4.mono ?_
  rintro e w1 ⟨rfl, rfl⟩
  clear o4
  rw [HN.out]
  have fr1 := Lib.frozen_of_heap QQ.out.1
  have fr2 := Lib.frozen_of_heap QQ.out.2.1
  have pc0 := Lib.cell_of_heap QQ.out.1 0
  have pc1 := Lib.cell_of_heap QQ.out.1 1
  have pc2 := Lib.cell_of_heap QQ.out.2.1 0
  have pc3 := Lib.cell_of_heap QQ.out.2.1 1
  go_upto_region 2 with fail
  obtain ⟨w5, hw5, V5, C5, B5, Z5⟩ : ∃ w5, (((y2.setCell ⟨n + 1, 0, none⟩ (.func (.func 137) #[] #[.pointer (some ⟨n + 1 + 1 + 1, 0, none⟩)])).setCell ⟨n + 1, 1, none⟩ (.func (.func 139) #[] #[.pointer (some ⟨n + 4, 0, none⟩), .pointer (some ⟨n + 4 + 1, 0, none⟩)])).setCell ⟨n + 1 + 1, 0, none⟩ (.func (.func 137) #[] #[.pointer (some ⟨n + 6, 0, none⟩)])).setCell ⟨n + 1 + 1, 1, none⟩ (.func (.func 139) #[] #[.pointer (some ⟨n + 7, 0, none⟩), .pointer (some ⟨n + 7 + 1, 0, none⟩)]) = w5 ∧
      (VarB w5 (n + 1) vr0 ∧ VarB w5 (n + 1 + 1) vr0) ∧ w5.heap[n]? = some (.cells #[.int .i64 page, .int .u8 op, .string (sB m), .slice A na cap, .string s, .bool al] 122 (0, 0)) ∧ Below n w w5 ∧ w5.heap.size = n + 9 := by
    obtain ⟨q1, q2, q0, q3⟩ := QQ.out
    have a1 : VarB _ (n + 1) vr0 := VarB.put VV1.out q1 N0.out
    have r2 : ((y2.setCell ⟨n + 1, 0, none⟩ (.func (.func 137) #[] #[.pointer (some ⟨n + 1 + 1 + 1, 0, none⟩)])).setCell ⟨n + 1, 1, none⟩ (.func (.func 139) #[] #[.pointer (some ⟨n + 4, 0, none⟩), .pointer (some ⟨n + 4 + 1, 0, none⟩)])).heap[n + 1 + 1]? = some (.cells #[.nilFunc, .nilFunc] 153 (0, 0)) := (heap_setCell_other _ ⟨n + 1, 1, none⟩ _ _ (by simp)).trans ((heap_setCell_other _ ⟨n + 1, 0, none⟩ _ _ (by simp)).trans q2)
    have a2 := VV2.out.store q1 N0.out _ _ VV1.out.funs
    refine ⟨_, rfl, ⟨a1.store r2 N0.out _ _ VV2.out.funs (by omega), VarB.put a2 r2 N0.out⟩, ?_, ?_, by simp; exact zy2⟩
    · exact (heap_setCell_other _ ⟨n + 1 + 1, 1, none⟩ _ _ (by simp; omega)).trans ((heap_setCell_other _ ⟨n + 1 + 1, 0, none⟩ _ _ (by simp; omega)).trans ((heap_setCell_other _ ⟨n + 1, 1, none⟩ _ _ (by simp)).trans ((heap_setCell_other _ ⟨n + 1, 0, none⟩ _ _ (by simp)).trans q0)))
    · exact (((q3.setCell (p := ⟨n + 1, 0, none⟩) (by simp) _).setCell (p := ⟨n + 1, 1, none⟩) (by simp) _).setCell (p := ⟨n + 1 + 1, 0, none⟩) (by simp; omega) _).setCell (p := ⟨n + 1 + 1, 1, none⟩) (by simp; omega) _
  rw [hw5]
  have k4 := Lib.cell_of_heap C5 4
  have S := Lib.hid (rowB_start w5 s (grownCap w5 s.size 0 5) 5)
  have bz : Below w5.heap.size w5 (w5.alloc (.cells (bytesRow s (grownCap w5 s.size 0 5)) 5 ((bytesRow s (grownCap w5 s.size 0 5)).size, (bytesRow s (grownCap w5 s.size 0 5)).size + 1))).drew := ((Below.refl _ _).alloc (Nat.le_refl _) _).drew
  have V6 := Lib.hid (And.intro (V5.1.below bz) (V5.2.below bz))
  have B6 := Lib.hid (B5.trans (bz.mono (by omega)))
  have Z6 : Hid (n + 10 ≤ (w5.alloc (.cells (bytesRow s (grownCap w5 s.size 0 5)) 5 ((bytesRow s (grownCap w5 s.size 0 5)).size, (bytesRow s (grownCap w5 s.size 0 5)).size + 1))).drew.heap.size) := by show _ ≤ _; simp; omega
  rw [Z5] at S
  rw [hz] at S V6 B6 Z6
  clear V5 C5 B5 hw5 bz fr1 fr2 pc0 pc1 pc2 pc3 QQ VV1 VV2 zy2
  go_wp2
  clear hcv Z5
  go_loopw [16] (fun i wr => ∃ k : Nat, k ≤ l ∧ i = .int .i64 k ∧ Hid (RowB wr s (n + 9)) ∧ Hid (VarB wr (n + 1) (foldV ex k).1 ∧ VarB wr (n + 1 + 1) (foldV ex k).2) ∧ Hid (Below n w wr) ∧ Hid (n + 10 ≤ wr.heap.size)) (fun i _ => l - (intOf i).toNat)
  case atStart => exact ⟨0, Nat.zero_le _, rfl, S.out, V6.out, B6.out, Z6.out⟩
  case round =>
    clear S V6 B6 Z6
    obtain ⟨k, hk, rfl, R, V, B, Z9⟩ := hrel
    by_cases hlt : k < l
    · have hlt' : k < s.size := by omega
      have hlt2 : k < ex.length := by rw [HL.out]; exact hlt
      have g1 : wr.cell? ⟨n + 9, k, none⟩ = some (.int .u8 (s[k].toNat : Int)) := R.out k hlt'
      rw [HAT.out k hlt' hlt2] at g1
      have SS := foldV_succ ex k hlt2
      obtain ⟨c, hc⟩ : ∃ c, ex[k] = c := ⟨_, rfl⟩
      rw [hc] at g1 SS
      have SS := Lib.hid SS
      clear hc
      have hk1 : k ≤ 1000 := by omega
      by_cases h100 : c = 100
      · subst h100
        have ST : Hid (foldV ex (k + 1) = ((([5], -128, 127) : Vr), (foldV ex k).2)) := by
          show foldV ex (k + 1) = _
          rw [SS.out]
          unfold stepV
          rfl
        have V := V.out
        obtain ⟨f, g, bx, va⟩ := V.1
        have ot := V.2
        clear V
        have fu := va.funs
        obtain ⟨z, hz9⟩ : ∃ z, wr.heap.size = z := ⟨_, rfl⟩
        obtain ⟨w6, hw6⟩ : ∃ w6, wr.alloc (.cells #[.int .i64 5] 3) = w6 := ⟨_, rfl⟩
        have ba : Below wr.heap.size wr w6 := by rw [← hw6]; exact (Below.refl _ _).alloc (Nat.le_refl _) _
        have hks : KsP w6 (some ⟨z, 0, none⟩) [5] := by rw [← hw6, ← hz9]; exact ks_new wr [5] _ rfl _
        have z6 : w6.heap.size = z + 1 := by rw [← hw6, ← hz9]; simp
        obtain ⟨x1, x2, e1, e2, VN, BN, ZN⟩ := var_new w6 (some ⟨z, 0, none⟩) 1 1 [5] (-128) (127) rfl (by omega) hks
        have o1 := ofKinds_any (some ⟨z, 0, none⟩) 1 1 w6
        have o2 := within_any (-128) (127) x1
        rw [e1] at o1
        rw [e2] at o2
        have zx1 : x1.heap.size = z + 2 := by rw [← e1]; simp; omega
        rw [z6] at o1
        rw [zx1] at o2
        rw [z6, zx1] at VN
        have bn : Below z wr x2 := by rw [← hz9]; exact ba.trans (BN.mono ba.size)
        have bn' : Below wr.heap.size wr x2 := by rw [hz9]; exact bn
        have lt1 : n + 1 < z := by rw [← hz9]; exact (Array.getElem?_eq_some_iff.1 bx).1
        have BOX : Hid (x2.heap[n + 1]? = some (.cells #[f, g] 153 (0, 0))) := (bn.block _ lt1).trans bx
        have VOT := Lib.hid (ot.below bn')
        have FUN := Lib.hid fu
        have VN := Lib.hid VN
        have nz : n ≤ z := by omega
        have BX : Hid (Below n w x2) := B.out.trans (bn.mono nz)
        have RX : Hid (RowB x2 s (n + 9)) := rowB_below R.out bn' (by rw [hz9]; have := Z9.out; rw [hz9] at this; omega)
        have ZX : Hid (n + 10 ≤ x2.heap.size) := by have h1 := bn'.size; have h2 := Z9.out; show _ ≤ _; omega
        clear bx va ot fu BN ZN ba bn bn' hks e1 e2 R B V
        go_wp2_with fail
        refine o1.mono ?_
        rintro e w1 ⟨rfl, rfl⟩
        clear o1
        go_wp2_with fail
        refine o2.mono ?_
        rintro e w1 ⟨rfl, rfl⟩
        clear o2
        have fr := Lib.frozen_of_heap BOX.out
        have bc0 := Lib.cell_of_heap BOX.out 0
        have bc1 := Lib.cell_of_heap BOX.out 1
        go_wp2
        go_roundw
        case rel =>
          refine ⟨k + 1, by omega, by go_num, rowB_other (rowB_other RX.out (by omega) _ _) (by omega) _ _, ?_, (BX.out.setCell (p := ⟨n + 1, 0, none⟩) (show n ≤ n + 1 by omega) _).setCell (p := ⟨n + 1, 1, none⟩) (show n ≤ n + 1 by omega) _, by show n + 10 ≤ _; simpa using ZX.out⟩
          rw [ST.out]
          exact ⟨VarB.put VN.out (BOX).out FUN.out, VOT.out.store BOX.out FUN.out _ _ VN.out.funs (by omega)⟩
        case measure => simp [intOf]; omega
      by_cases h101 : c = 101
      · subst h101
        have ST : Hid (foldV ex (k + 1) = ((foldV ex k).1, (([10], -128, 127) : Vr))) := by
          show foldV ex (k + 1) = _
          rw [SS.out]
          unfold stepV
          rw [if_neg (by decide)]
          rfl
        have V := V.out
        obtain ⟨f, g, bx, va⟩ := V.2
        have ot := V.1
        clear V
        have fu := va.funs
        obtain ⟨z, hz9⟩ : ∃ z, wr.heap.size = z := ⟨_, rfl⟩
        obtain ⟨w6, hw6⟩ : ∃ w6, wr.alloc (.cells #[.int .i64 10] 3) = w6 := ⟨_, rfl⟩
        have ba : Below wr.heap.size wr w6 := by rw [← hw6]; exact (Below.refl _ _).alloc (Nat.le_refl _) _
        have hks : KsP w6 (some ⟨z, 0, none⟩) [10] := by rw [← hw6, ← hz9]; exact ks_new wr [10] _ rfl _
        have z6 : w6.heap.size = z + 1 := by rw [← hw6, ← hz9]; simp
        obtain ⟨x1, x2, e1, e2, VN, BN, ZN⟩ := var_new w6 (some ⟨z, 0, none⟩) 1 1 [10] (-128) (127) rfl (by omega) hks
        have o1 := ofKinds_any (some ⟨z, 0, none⟩) 1 1 w6
        have o2 := within_any (-128) (127) x1
        rw [e1] at o1
        rw [e2] at o2
        have zx1 : x1.heap.size = z + 2 := by rw [← e1]; simp; omega
        rw [z6] at o1
        rw [zx1] at o2
        rw [z6, zx1] at VN
        have bn : Below z wr x2 := by rw [← hz9]; exact ba.trans (BN.mono ba.size)
        have bn' : Below wr.heap.size wr x2 := by rw [hz9]; exact bn
        have lt1 : n + 1 + 1 < z := by rw [← hz9]; exact (Array.getElem?_eq_some_iff.1 bx).1
        have BOX : Hid (x2.heap[n + 1 + 1]? = some (.cells #[f, g] 153 (0, 0))) := (bn.block _ lt1).trans bx
        have VOT := Lib.hid (ot.below bn')
        have FUN := Lib.hid fu
        have VN := Lib.hid VN
        have nz : n ≤ z := by omega
        have BX : Hid (Below n w x2) := B.out.trans (bn.mono nz)
        have RX : Hid (RowB x2 s (n + 9)) := rowB_below R.out bn' (by rw [hz9]; have := Z9.out; rw [hz9] at this; omega)
        have ZX : Hid (n + 10 ≤ x2.heap.size) := by have h1 := bn'.size; have h2 := Z9.out; show _ ≤ _; omega
        clear bx va ot fu BN ZN ba bn bn' hks e1 e2 R B V
        go_wp2_with fail
        refine o1.mono ?_
        rintro e w1 ⟨rfl, rfl⟩
        clear o1
        go_wp2_with fail
        refine o2.mono ?_
        rintro e w1 ⟨rfl, rfl⟩
        clear o2
        have fr := Lib.frozen_of_heap BOX.out
        have bc0 := Lib.cell_of_heap BOX.out 0
        have bc1 := Lib.cell_of_heap BOX.out 1
        go_wp2
        go_roundw
        case rel =>
          refine ⟨k + 1, by omega, by go_num, rowB_other (rowB_other RX.out (by omega) _ _) (by omega) _ _, ?_, (BX.out.setCell (p := ⟨n + 1 + 1, 0, none⟩) (show n ≤ n + 1 + 1 by omega) _).setCell (p := ⟨n + 1 + 1, 1, none⟩) (show n ≤ n + 1 + 1 by omega) _, by show n + 10 ≤ _; simpa using ZX.out⟩
          rw [ST.out]
          exact ⟨VOT.out.store BOX.out FUN.out _ _ VN.out.funs (by omega), VarB.put VN.out (BOX).out FUN.out⟩
        case measure => simp [intOf]; omega
      by_cases h110 : c = 110
      · subst h110
        have ST : Hid (foldV ex (k + 1) = ((foldV ex k).1, (([6, 7], 0, 255) : Vr))) := by
          show foldV ex (k + 1) = _
          rw [SS.out]
          unfold stepV
          rw [if_neg (by decide)]
          rw [if_neg (by decide)]
          rfl
        have V := V.out
        obtain ⟨f, g, bx, va⟩ := V.2
        have ot := V.1
        clear V
        have fu := va.funs
        obtain ⟨z, hz9⟩ : ∃ z, wr.heap.size = z := ⟨_, rfl⟩
        obtain ⟨w6, hw6⟩ : ∃ w6, wr.alloc (.cells #[.int .i64 6, .int .i64 7] 3) = w6 := ⟨_, rfl⟩
        have ba : Below wr.heap.size wr w6 := by rw [← hw6]; exact (Below.refl _ _).alloc (Nat.le_refl _) _
        have hks : KsP w6 (some ⟨z, 0, none⟩) [6, 7] := by rw [← hw6, ← hz9]; exact ks_new wr [6, 7] _ rfl _
        have z6 : w6.heap.size = z + 1 := by rw [← hw6, ← hz9]; simp
        obtain ⟨x1, x2, e1, e2, VN, BN, ZN⟩ := var_new w6 (some ⟨z, 0, none⟩) 2 2 [6, 7] (0) (255) rfl (by omega) hks
        have o1 := ofKinds_any (some ⟨z, 0, none⟩) 2 2 w6
        have o2 := within_any (0) (255) x1
        rw [e1] at o1
        rw [e2] at o2
        have zx1 : x1.heap.size = z + 2 := by rw [← e1]; simp; omega
        rw [z6] at o1
        rw [zx1] at o2
        rw [z6, zx1] at VN
        have bn : Below z wr x2 := by rw [← hz9]; exact ba.trans (BN.mono ba.size)
        have bn' : Below wr.heap.size wr x2 := by rw [hz9]; exact bn
        have lt1 : n + 1 + 1 < z := by rw [← hz9]; exact (Array.getElem?_eq_some_iff.1 bx).1
        have BOX : Hid (x2.heap[n + 1 + 1]? = some (.cells #[f, g] 153 (0, 0))) := (bn.block _ lt1).trans bx
        have VOT := Lib.hid (ot.below bn')
        have FUN := Lib.hid fu
        have VN := Lib.hid VN
        have nz : n ≤ z := by omega
        have BX : Hid (Below n w x2) := B.out.trans (bn.mono nz)
        have RX : Hid (RowB x2 s (n + 9)) := rowB_below R.out bn' (by rw [hz9]; have := Z9.out; rw [hz9] at this; omega)
        have ZX : Hid (n + 10 ≤ x2.heap.size) := by have h1 := bn'.size; have h2 := Z9.out; show _ ≤ _; omega
        clear bx va ot fu BN ZN ba bn bn' hks e1 e2 R B V
        go_wp2_with fail
        refine o1.mono ?_
        rintro e w1 ⟨rfl, rfl⟩
        clear o1
        go_wp2_with fail
        refine o2.mono ?_
        rintro e w1 ⟨rfl, rfl⟩
        clear o2
        have fr := Lib.frozen_of_heap BOX.out
        have bc0 := Lib.cell_of_heap BOX.out 0
        have bc1 := Lib.cell_of_heap BOX.out 1
        go_wp2
        go_roundw
        case rel =>
          refine ⟨k + 1, by omega, by go_num, rowB_other (rowB_other RX.out (by omega) _ _) (by omega) _ _, ?_, (BX.out.setCell (p := ⟨n + 1 + 1, 0, none⟩) (show n ≤ n + 1 + 1 by omega) _).setCell (p := ⟨n + 1 + 1, 1, none⟩) (show n ≤ n + 1 + 1 by omega) _, by show n + 10 ≤ _; simpa using ZX.out⟩
          rw [ST.out]
          exact ⟨VOT.out.store BOX.out FUN.out _ _ VN.out.funs (by omega), VarB.put VN.out (BOX).out FUN.out⟩
        case measure => simp [intOf]; omega
      by_cases h119 : c = 119
      · subst h119
        have ST : Hid (foldV ex (k + 1) = ((foldV ex k).1, (([6, 7], 0, 65535) : Vr))) := by
          show foldV ex (k + 1) = _
          rw [SS.out]
          unfold stepV
          rw [if_neg (by decide)]
          rw [if_neg (by decide)]
          rw [if_neg (by decide)]
          rfl
        have V := V.out
        obtain ⟨f, g, bx, va⟩ := V.2
        have ot := V.1
        clear V
        have fu := va.funs
        obtain ⟨z, hz9⟩ : ∃ z, wr.heap.size = z := ⟨_, rfl⟩
        obtain ⟨w6, hw6⟩ : ∃ w6, wr.alloc (.cells #[.int .i64 6, .int .i64 7] 3) = w6 := ⟨_, rfl⟩
        have ba : Below wr.heap.size wr w6 := by rw [← hw6]; exact (Below.refl _ _).alloc (Nat.le_refl _) _
        have hks : KsP w6 (some ⟨z, 0, none⟩) [6, 7] := by rw [← hw6, ← hz9]; exact ks_new wr [6, 7] _ rfl _
        have z6 : w6.heap.size = z + 1 := by rw [← hw6, ← hz9]; simp
        obtain ⟨x1, x2, e1, e2, VN, BN, ZN⟩ := var_new w6 (some ⟨z, 0, none⟩) 2 2 [6, 7] (0) (65535) rfl (by omega) hks
        have o1 := ofKinds_any (some ⟨z, 0, none⟩) 2 2 w6
        have o2 := within_any (0) (65535) x1
        rw [e1] at o1
        rw [e2] at o2
        have zx1 : x1.heap.size = z + 2 := by rw [← e1]; simp; omega
        rw [z6] at o1
        rw [zx1] at o2
        rw [z6, zx1] at VN
        have bn : Below z wr x2 := by rw [← hz9]; exact ba.trans (BN.mono ba.size)
        have bn' : Below wr.heap.size wr x2 := by rw [hz9]; exact bn
        have lt1 : n + 1 + 1 < z := by rw [← hz9]; exact (Array.getElem?_eq_some_iff.1 bx).1
        have BOX : Hid (x2.heap[n + 1 + 1]? = some (.cells #[f, g] 153 (0, 0))) := (bn.block _ lt1).trans bx
        have VOT := Lib.hid (ot.below bn')
        have FUN := Lib.hid fu
        have VN := Lib.hid VN
        have nz : n ≤ z := by omega
        have BX : Hid (Below n w x2) := B.out.trans (bn.mono nz)
        have RX : Hid (RowB x2 s (n + 9)) := rowB_below R.out bn' (by rw [hz9]; have := Z9.out; rw [hz9] at this; omega)
        have ZX : Hid (n + 10 ≤ x2.heap.size) := by have h1 := bn'.size; have h2 := Z9.out; show _ ≤ _; omega
        clear bx va ot fu BN ZN ba bn bn' hks e1 e2 R B V
        go_wp2_with fail
        refine o1.mono ?_
        rintro e w1 ⟨rfl, rfl⟩
        clear o1
        go_wp2_with fail
        refine o2.mono ?_
        rintro e w1 ⟨rfl, rfl⟩
        clear o2
        have fr := Lib.frozen_of_heap BOX.out
        have bc0 := Lib.cell_of_heap BOX.out 0
        have bc1 := Lib.cell_of_heap BOX.out 1
        go_wp2
        go_roundw
        case rel =>
          refine ⟨k + 1, by omega, by go_num, rowB_other (rowB_other RX.out (by omega) _ _) (by omega) _ _, ?_, (BX.out.setCell (p := ⟨n + 1 + 1, 0, none⟩) (show n ≤ n + 1 + 1 by omega) _).setCell (p := ⟨n + 1 + 1, 1, none⟩) (show n ≤ n + 1 + 1 by omega) _, by show n + 10 ≤ _; simpa using ZX.out⟩
          rw [ST.out]
          exact ⟨VOT.out.store BOX.out FUN.out _ _ VN.out.funs (by omega), VarB.put VN.out (BOX).out FUN.out⟩
        case measure => simp [intOf]; omega
      have a1 := u8_no c 100 (by decide) h100
      have a2 := u8_no c 101 (by decide) h101
      have a3 := u8_no c 110 (by decide) h110
      have a4 := u8_no c 119 (by decide) h119
      have ST : Hid (foldV ex (k + 1) = foldV ex k) := by
        show foldV ex (k + 1) = _
        rw [SS.out]
        unfold stepV
        rw [if_neg h100, if_neg h101, if_neg h110, if_neg h119]
      clear h100 h101 h110 h119
      go_wp2
      go_roundw
      case rel => exact ⟨k + 1, by omega, by go_num, R.out, by rw [ST.out]; exact V.out, B.out, Z9.out⟩
      case measure => simp [intOf]; omega
    · obtain rfl : k = l := by omega
      have FE : Hid (foldV ex k = varsV ex) := by show foldV ex k = _; rw [← HL.out]; exact foldV_all ex
      have V := V.out
      rw [FE.out] at V
      obtain ⟨⟨f, g, bx, va⟩, f', g', bx', va'⟩ := V
      obtain ⟨p1, p2, p3, hf, hg⟩ := va.form
      obtain ⟨p4, p5, p6, hf', hg'⟩ := va'.form
      have fu := Lib.hid va.funs
      have fu' := Lib.hid va'.funs
      have C0 := Lib.hid (And.intro bx bx')
      have hd := below_drewN wr wr.heap.size 1
      have D1 := Lib.hid ((hd.block _ (Array.getElem?_eq_some_iff.1 bx).1).trans bx)
      have D2 := Lib.hid ((hd.block _ (Array.getElem?_eq_some_iff.1 bx').1).trans bx')
      have A1 := Lib.hid (va.below hd)
      have A2 := Lib.hid (va'.below hd)
      have BD : Hid (Below n w wr.drew) := B.out.drew
      have hnl : n ≤ wr.heap.size := by have := Z9.out; omega
      clear R V B bx bx' va va' hd Z9
      go_upto_region 15 with fail
      obtain ⟨w3, hw3⟩ : ∃ w3, wr.drew = w3 := ⟨_, rfl⟩
      have hw3' : wr.drewN 1 = w3 := hw3
      rw [hw3'] at D1 D2 A1 A2
      rw [hw3] at BD
      refine Mixed.wp_region_mixed (fun w' => w'.heap[n + 1]? = some (.cells #[f, g] 153 (0, 0)) ∧ w'.heap[n + 1 + 1]? = some (.cells #[f', g'] 153 (0, 0))) 3 [(0, true), (1, true), (2, false)] (by kernel_rfl) (by kernel_rfl) (by rw [hw3]; exact ⟨D1.out, D2.out⟩) ?_
      rw [hw3]
      refine Mixed.wpMix_pure rfl (by kernel_rfl) (.agg #[f, g]) (fun w h => by
        obtain ⟨h1, h2⟩ := h
        have k0 := Lib.cell_of_heap h1 0
        have k1 := Lib.cell_of_heap h1 1
        go_simp; try rfl) ?_
      refine Mixed.wpMix_pure rfl (by kernel_rfl) (.agg #[f', g']) (fun w h => by
        obtain ⟨h1, h2⟩ := h
        have k0 := Lib.cell_of_heap h2 0
        have k1 := Lib.cell_of_heap h2 1
        go_simp; try rfl) ?_
      have c1 := Lib.cell_of_heap D1.out 0
      have c2 := Lib.cell_of_heap D1.out 1
      have f1 := Lib.frozen_of_heap D1.out
      have k1 : ((w3.setCell ⟨n + 1, 0, none⟩ f).setCell ⟨n + 1, 1, none⟩ g).heap[n + 1]? = some (.cells #[f, g] 153 (0, 0)) := heap_setCell_same _ (n + 1) 1 _ _ g (heap_setCell_same w3 (n + 1) 0 _ _ f D1.out)
      have k2 : ((w3.setCell ⟨n + 1, 0, none⟩ f).setCell ⟨n + 1, 1, none⟩ g).heap[n + 1 + 1]? = some (.cells #[f', g'] 153 (0, 0)) := (heap_setCell_other _ ⟨n + 1, 1, none⟩ _ _ (by simp)).trans ((heap_setCell_other _ ⟨n + 1, 0, none⟩ _ _ (by simp)).trans D2.out)
      have E1 := Lib.hid (A1.out.store D1.out fu.out f g fu.out)
      have E2 := Lib.hid (A2.out.store D1.out fu.out f g fu.out)
      have B7 : Hid (Below n w ((w3.setCell ⟨n + 1, 0, none⟩ f).setCell ⟨n + 1, 1, none⟩ g)) := (BD.out.setCell (p := ⟨n + 1, 0, none⟩) (show n ≤ n + 1 by omega) _).setCell (p := ⟨n + 1, 1, none⟩) (show n ≤ n + 1 by omega) _
      have K1 := Lib.hid k1
      have K2 := Lib.hid k2
      clear k1 k2 D1 D2 A1 A2 BD hw3 hw3'
      refine Mixed.wpMix_loudG rfl (by kernel_rfl) ?_
      subst hf hg
      go_wp2
      obtain ⟨w4, hw4⟩ : ∃ w4, (w3.setCell ⟨n + 1, 0, none⟩ (.func (.func 137) #[] #[.pointer (some ⟨p1, 0, none⟩)])).setCell ⟨n + 1, 1, none⟩ (.func (.func 139) #[] #[.pointer (some ⟨p2, 0, none⟩), .pointer (some ⟨p3, 0, none⟩)]) = w4 := ⟨_, rfl⟩
      rw [hw4] at K1 K2 E1 E2 B7 ⊢
      refine ⟨⟨K1.out, K2.out⟩, ?_⟩
      clear c1 c2 f1
      have c1 := Lib.cell_of_heap K2.out 0
      have c2 := Lib.cell_of_heap K2.out 1
      have f1 := Lib.frozen_of_heap K2.out
      have k2 : ((w4.setCell ⟨n + 1 + 1, 0, none⟩ f').setCell ⟨n + 1 + 1, 1, none⟩ g').heap[n + 1 + 1]? = some (.cells #[f', g'] 153 (0, 0)) := heap_setCell_same _ (n + 1 + 1) 1 _ _ g' (heap_setCell_same w4 (n + 1 + 1) 0 _ _ f' K2.out)
      have k1 : ((w4.setCell ⟨n + 1 + 1, 0, none⟩ f').setCell ⟨n + 1 + 1, 1, none⟩ g').heap[n + 1]? = some (.cells #[.func (.func 137) #[] #[.pointer (some ⟨p1, 0, none⟩)], .func (.func 139) #[] #[.pointer (some ⟨p2, 0, none⟩), .pointer (some ⟨p3, 0, none⟩)]] 153 (0, 0)) := (heap_setCell_other _ ⟨n + 1 + 1, 1, none⟩ _ _ (by simp)).trans ((heap_setCell_other _ ⟨n + 1 + 1, 0, none⟩ _ _ (by simp)).trans K1.out)
      have E3 := Lib.hid (E1.out.store K2.out fu'.out f' g' fu'.out)
      have E4 := Lib.hid (E2.out.store K2.out fu'.out f' g' fu'.out)
      have B8 : Hid (Below n w ((w4.setCell ⟨n + 1 + 1, 0, none⟩ f').setCell ⟨n + 1 + 1, 1, none⟩ g')) := (B7.out.setCell (p := ⟨n + 1 + 1, 0, none⟩) (show n ≤ n + 1 + 1 by omega) _).setCell (p := ⟨n + 1 + 1, 1, none⟩) (show n ≤ n + 1 + 1 by omega) _
      have L1 := Lib.hid k1
      have L2 := Lib.hid k2
      clear k1 k2 K1 K2 E1 E2 B7 hw4
      simp only [Mixed.wpMix, List.drop_succ_cons, List.drop_zero]
      subst hf' hg'
      go_wp2
      obtain ⟨w5, hw5⟩ : ∃ w5, (w4.setCell ⟨n + 1 + 1, 0, none⟩ (.func (.func 137) #[] #[.pointer (some ⟨p4, 0, none⟩)])).setCell ⟨n + 1 + 1, 1, none⟩ (.func (.func 139) #[] #[.pointer (some ⟨p5, 0, none⟩), .pointer (some ⟨p6, 0, none⟩)]) = w5 := ⟨_, rfl⟩
      rw [hw5] at L1 L2 E3 E4 B8 ⊢
      clear c1 c2 f1 hw5
      have c1 := Lib.cell_of_heap L1.out 0
      have c2 := Lib.cell_of_heap L1.out 1
      have c3 := Lib.cell_of_heap L2.out 0
      have c4 := Lib.cell_of_heap L2.out 1
      refine bodyPost_ret (v := .tuple #[.agg #[.func (.func 137) #[] #[.pointer (some ⟨p1, 0, none⟩)], .func (.func 139) #[] #[.pointer (some ⟨p2, 0, none⟩), .pointer (some ⟨p3, 0, none⟩)]], .agg #[.func (.func 137) #[] #[.pointer (some ⟨p4, 0, none⟩)], .func (.func 139) #[] #[.pointer (some ⟨p5, 0, none⟩), .pointer (some ⟨p6, 0, none⟩)]]]) ?_ rfl ?_
      · simp [results, Tryz.results109, go_sem, c1, c2, c3, c4]
      · exact ⟨_, _, _, _, rfl, E3.out, E4.out, by rw [HN.out]; exact B8.out⟩
end Go.Proofs.YtmnleknehjkmgaaGreat
namespace Go.Proofs.YtmnleknehjkmgaaGreat
open Go.RowKit
attribute [local go_sem] Oper.semAt_some
theorem atI_none {ks : List Int} {L : List Tr} (h : atV ks L = none) : atI ks L = -1 := by unfold atI; rw [h]
theorem atI_some {ks : List Int} {L : List Tr} {k : Nat} (h : atV ks L = some k) : atI ks L = (k : Int) := by unfold atI; rw [h]
theorem getD_at {L : List Tr} {k : Nat} (h : k < L.length) : L.getD k tr0 = L[k] := by rw [List.getD_eq_getElem?_getD, List.getElem?_eq_getElem h]; rfl
theorem own_setN {w : World} {B g cap l : Nat} {L : List Tr} (h : OwnT w B (.slice (some ⟨g, 0, none⟩) l cap) L) (hl : L.length = l) (k : Nat) (hk : k < L.length) (n : Int) : OwnT (w.setCell ⟨g, k * 3 + 2, none⟩ (.int .i64 n)) B (.slice (some ⟨g, 0, none⟩) l cap) (setN L k n) := by
  refine h.put hl (by unfold setN; rw [List.length_set]; exact hl) (k * 3 + 2) _ ?_
  unfold setN
  rw [getD_at hk]
  exact (cells_set L k _ _ n hk rfl rfl).symm
theorem varA_row {w : World} {v : Value} {x : Vr} (h : VarA w v x) {g : Nat} {cur : Array Value} (hg : w.heap[g]? = some (.cells cur 67 (0, 0))) (b2 b3 : Nat) (j : Nat) (u : Value) {b1 : Nat}
    (e : v = .agg #[.func (.func 137) #[] #[.pointer (some ⟨b1, 0, none⟩)], .func (.func 139) #[] #[.pointer (some ⟨b2, 0, none⟩), .pointer (some ⟨b3, 0, none⟩)]]) :
    Boxed (w.setCell ⟨g, j, none⟩ u) b2 3 (.int .i64 x.2.1) ∧ Boxed (w.setCell ⟨g, j, none⟩ u) b3 3 (.int .i64 x.2.2) := by
  subst e
  obtain ⟨c1, c2, c3, A, cap, e, h1, h2, h3, h4, h5⟩ := h
  cases e
  have ne : ∀ {b : Nat} {y : Value}, Boxed w b 3 y → b ≠ g := fun {b y} hb => by
    rintro rfl
    rw [show w.heap[b]? = _ from hb] at hg
    simp at hg
  exact ⟨(heap_setCell_other w ⟨g, j, none⟩ _ u (ne h3)).trans h3, (heap_setCell_other w ⟨g, j, none⟩ _ u (ne h4)).trans h4⟩
theorem grow_below {w w' : World} (h : Below w.heap.size w w') (row : Option Nat) : w.grownBy w' row := ⟨h.os, h.tape, h.output, h.size, fun k hk _ => h.block k hk⟩
theorem grownBy_setC (w : World) (b i : Nat) (v : Value) : w.grownBy (w.setCell ⟨b, i, none⟩ v) (some b) :=
  ⟨rfl, rfl, rfl, by simp, fun k hk hne => heap_setCell_other w ⟨b, i, none⟩ k v (fun e => hne (by rw [e]))⟩
theorem put_any (x : Vr) (v : Value) (s : ByteArray) (A : Option Addr) (cap l B : Nat) (L : List Tr) (hl : L.length = l) (hL : l ≤ 1000) (q : Int) (w : World) (hv : VarA w v x) (H : OwnT w B (.slice A l cap) L) (hB : B ≤ w.heap.size) :
    Calls Tryz.prog 111 #[v, .agg #[.string s, .slice A l cap], .int .i64 q] w fun e w' => e = .returned (.bool (putB x L q)) ∧ OwnT w' B (.slice A l cap) (putL x.1 L q) ∧ w.grownBy w' (Value.slice A l cap).ownBlock := by
  have hv' := hv
  obtain ⟨b1, b2, b3, Ak, ck, rfl, -⟩ := hv'
  obtain ⟨w0, hw0⟩ : ∃ w0, (w.alloc (.cells #[.func (.func 137) #[] #[.pointer (some ⟨b1, 0, none⟩)], .func (.func 139) #[] #[.pointer (some ⟨b2, 0, none⟩), .pointer (some ⟨b3, 0, none⟩)]] 153)).alloc (.cells #[.string s, .slice A l cap] 32) = w0 := ⟨_, rfl⟩
  obtain ⟨n, hn⟩ : ∃ n, w.heap.size = n := ⟨_, rfl⟩
  have b0 : Below n w w0 := by rw [← hw0, ← hn]; exact ((Below.refl _ w).alloc (Nat.le_refl _) _).alloc (by simp) _
  have z0 : w0.heap.size = n + 1 + 1 := by rw [← hw0, ← hn]; simp
  have c0 : w0.heap[n]? = some (.cells #[.func (.func 137) #[] #[.pointer (some ⟨b1, 0, none⟩)], .func (.func 139) #[] #[.pointer (some ⟨b2, 0, none⟩), .pointer (some ⟨b3, 0, none⟩)]] 153 (0, 0)) := by
    rw [← hw0, ← hn]
    exact (Below.heap_alloc _ _ _ (by simp)).trans (World.alloc_heap_new w _)
  have c1 : w0.heap[n + 1]? = some (.cells #[.string s, .slice A l cap] 32 (0, 0)) := by
    rw [← hw0, ← hn]
    have h := World.alloc_heap_new (w.alloc (.cells #[.func (.func 137) #[] #[.pointer (some ⟨b1, 0, none⟩)], .func (.func 139) #[] #[.pointer (some ⟨b2, 0, none⟩), .pointer (some ⟨b3, 0, none⟩)]] 153)) (.cells #[.string s, .slice A l cap] 32)
    rwa [World.size_alloc] at h
  have hb0 : Below w.heap.size w w0 := by rw [hn]; exact b0
  have V0 := hv.below hb0
  have O0 := H.below hb0
  have hops : OpsP w0 A L := by
    obtain ⟨A', cap', e, hP, -⟩ := O0.ops
    simp only [Value.slice.injEq] at e
    rw [e.1]; exact hP
  have AT := Lib.hid (vat_any x _ s A cap l L hl hL w0 V0 hops)
  have HN := Lib.hid hn
  have BW := Lib.hid (grow_below hb0 (Value.slice A l cap).ownBlock)
  have C0 := Lib.hid c0
  have C1 := Lib.hid c1
  have VV := Lib.hid V0
  have OO := Lib.hid O0
  have HB : Hid (B ≤ n) := by show B ≤ n; omega
  have j0 := Lib.cell_of_heap c0 0
  have j1 := Lib.cell_of_heap c0 1
  have j2 := Lib.cell_of_heap c1 0
  have j3 := Lib.cell_of_heap c1 1
  clear H hv b0 c0 c1 V0 O0 hops hb0 hB
  cases e : atV x.1 L with
  | none =>
    have NV : Hid (putL x.1 L q = L) := by show putL x.1 L q = L; unfold putL; rw [e]
    have PV : Hid (decide (q = 0) = putB x L q) := by show _ = putB x L q; unfold putB; rw [e]
    rw [atI_none e] at AT
    clear e
    go_enter Tryz.func111, Tryz.ntmps111
    go_wp2_with fail
    refine AT.out.mono ?_
    rintro e w1 ⟨rfl, hb⟩
    have B1 : Hid (w.grownBy w1 (Value.slice A l cap).ownBlock) := World.grownBy.trans BW.out (grow_below hb _)
    have O1 := Lib.hid (OO.out.below hb)
    clear hb AT j0 j1 j2 j3
    go_wp2
    go_ret
    exact ⟨ret_bool PV.out, by rw [NV.out]; exact O1.out, B1.out⟩
  | some k =>
    have hk := atV_lt e
    have hkl : k < l := by omega
    have NV : Hid (putL x.1 L q = setN L k q) := by show putL x.1 L q = _; unfold putL; rw [e]
    have PV : Hid (inV x q = putB x L q) := by show _ = putB x L q; unfold putB; rw [e]
    rw [atI_some e] at AT
    have hkc : (k : Int) < (l : Int) := by omega
    have HK := Lib.hid hk
    clear e hk
    go_enter Tryz.func111, Tryz.ntmps111
    go_wp2_with fail
    refine AT.out.mono ?_
    rintro e w1 ⟨rfl, hb⟩
    have B1 : Hid (w.grownBy w1 (Value.slice A l cap).ownBlock) := World.grownBy.trans BW.out (grow_below hb _)
    have c0 := (hb.block n (by omega)).trans C0.out
    have c1 := (hb.block (n + 1) (by omega)).trans C1.out
    have o1 := OO.out.below hb
    have v1 := VV.out.below hb
    obtain ⟨g, cap', hfm, hg, ⟨cur, hcur⟩, hc, hf⟩ := o1.form (by have := HK.out; omega)
    simp only [Value.slice.injEq] at hfm
    obtain ⟨rfl, -, rfl⟩ := hfm
    have p2 := (hc k HK.out).2.2
    have hfz := hf (k * 3 + 2)
    have ne0 : g ≠ n := by
      rintro rfl
      rw [hcur] at c0
      simp at c0
    have ne1 : g ≠ n + 1 := by
      rintro rfl
      rw [hcur] at c1
      simp at c1
    have k1 := Lib.cell_of_heap c1 1
    have d0 := (heap_setCell_other w1 ⟨g, k * 3 + 2, none⟩ n (.int .i64 q) (Ne.symm ne0)).trans c0
    have k0 := Lib.cell_of_heap d0 1
    have VR := varA_row v1 hcur b2 b3 (k * 3 + 2) (.int .i64 q) rfl
    have AL := Lib.hid (allows_any b2 b3 x q _ VR.1 VR.2)
    have O2 := Lib.hid (own_setN o1 hl k HK.out q)
    have B2 : Hid (w.grownBy (w1.setCell ⟨g, k * 3 + 2, none⟩ (.int .i64 q)) (some g)) := World.grownBy.trans B1.out (grownBy_setC w1 g (k * 3 + 2) (.int .i64 q))
    obtain ⟨u, hu⟩ : ∃ u, L[k].2.2 = u := ⟨_, rfl⟩
    have hsz := hb.size
    have S2 : Hid (B ≤ w1.heap.size) := by have := HB.out; show B ≤ _; omega
    clear j0 j1 j2 j3 hb AT c0 c1 o1 v1 hc hf hcur d0 VR hsz
    have p2' : w1.cell? ⟨g, k * 3 + 2, none⟩ = some (.int .i64 u) := by rw [← hu]; exact p2
    clear p2 hu
    go_wp2_with fail
    refine AL.out.mono ?_
    rintro e w2 ⟨rfl, hb⟩
    have B3 : Hid (w.grownBy w2 (some g)) := World.grownBy.trans B2.out (grow_below hb _)
    have O3 := Lib.hid (O2.out.below hb)
    clear hb AL
    go_wp2
    go_ret
    exact ⟨ret_bool PV.out, by rw [NV.out]; exact O3.out, B3.out⟩
end Go.Proofs.YtmnleknehjkmgaaGreat
namespace Go.Proofs.YtmnleknehjkmgaaGreat
open Go.RowKit Go.Shelf
attribute [local go_sem] Oper.semAt_some
def RetFill (w : World) (m : Str) (o : Option (List Tr)) (e : Ending) (w' : World) : Prop := match o with
  | some L2 => ∃ v, e = .returned (.tuple #[.agg #[.string (upB (sB m)), v], .bool true]) ∧ OwnT w' w.heap.size v L2 ∧ Below w.heap.size w w'
  | none => e = .returned (.tuple #[.agg #[.string ⟨#[]⟩, .slice none 0 0], .bool false]) ∧ Below w.heap.size w w'
theorem putL_len (ks : List Int) (L : List Tr) (n : Int) : (putL ks L n).length = L.length := len_of_shape (putL_shape ks L n)
theorem vars_boxes {w1 : World} {f g f' g' : Value} {x x' : Vr} (h : VarA w1 (.agg #[f, g]) x) (h' : VarA w1 (.agg #[f', g']) x') (b : Nat) (hb : w1.heap.size = b) :
    ∃ w2, (w1.alloc (.cells #[f, g] 153)).alloc (.cells #[f', g'] 153) = w2 ∧
      w2.heap[b]? = some (.cells #[f, g] 153 (0, 0)) ∧ w2.heap[b + 1]? = some (.cells #[f', g'] 153 (0, 0)) ∧ VarA w2 (.agg #[f, g]) x ∧ VarA w2 (.agg #[f', g']) x' ∧ Below w1.heap.size w1 w2 ∧ w2.heap.size = b + 2 := by
  subst hb
  have bl : Below w1.heap.size w1 ((w1.alloc (.cells #[f, g] 153)).alloc (.cells #[f', g'] 153)) := ((Below.refl _ w1).alloc (Nat.le_refl _) _).alloc (by simp) _
  refine ⟨_, rfl, (Below.heap_alloc _ _ _ (by simp)).trans (World.alloc_heap_new w1 _), ?_, h.below bl, h'.below bl, bl, by simp⟩
  have h := World.alloc_heap_new (w1.alloc (.cells #[f, g] 153)) (.cells #[f', g'] 153)
  rwa [World.size_alloc] at h
theorem ins_box (w3 : World) (u : ByteArray) (v : Value) (c : Nat) (hc : w3.heap.size = c) : ∃ w4, w3.alloc (.cells #[.string u, v] 32) = w4 ∧ w4.heap[c]? = some (.cells #[.string u, v] 32 (0, 0)) ∧ Below w3.heap.size w3 w4 ∧ w4.heap.size = c + 1 := by
  subst hc
  exact ⟨_, rfl, World.alloc_heap_new w3 _, (Below.refl _ w3).alloc (Nat.le_refl _) _, by simp⟩
theorem fill_any (page op : Int) (m : Str) (hm : m.length ≤ 1000) (A : Option Addr) (cap l : Nat) (L : List Tr) (hl : L.length = l) (hL : l ≤ 1000) (ex : Str) (hx : ex.length ≤ 1000) (al : Bool) (d q : Int) (w : World) (H : OpsP w A L) :
    Calls Tryz.prog 99 #[enV page op m (.slice A l cap) ex al, .int .i64 d, .int .i64 q] w (RetFill w m (fillV ex L d q)) := by
  have hva := fun w => variables_any page op m A l cap ex hx al w
  have hmk := fun w h => make_any (sB m) (by rw [sB_size]; unfold maxLen; omega) A cap L (by omega) w h
  rw [hl] at hmk
  obtain ⟨x, hxx⟩ : ∃ x, (varsV ex).1 = x := ⟨_, rfl⟩
  obtain ⟨y, hyy⟩ : ∃ y, (varsV ex).2 = y := ⟨_, rfl⟩
  have FV : Hid (fillV ex L d q = if putB x L d = true ∧ putB y (putL x.1 L d) q = true then some (putL y.1 (putL x.1 L d) q) else none) := by show _ = _; rw [← hxx, ← hyy]; rfl
  unfold RetVars at hva
  rw [hxx, hyy] at hva
  clear hxx hyy
  unfold enV at hva ⊢
  obtain ⟨w0, hw0⟩ : ∃ w0, (w.alloc (.cells #[.int .i64 page, .int .u8 op, .string (sB m), .slice A l cap, .string (sB ex), .bool al] 122)).alloc (.cells #[.string ⟨#[]⟩, .slice none 0 0] 32) = w0 := ⟨_, rfl⟩
  obtain ⟨n, hn⟩ : ∃ n, w.heap.size = n := ⟨_, rfl⟩
  have b0 : Below n w w0 := by rw [← hw0, ← hn]; exact ((Below.refl _ w).alloc (Nat.le_refl _) _).alloc (by simp) _
  have z0 : w0.heap.size = n + 1 + 1 := by rw [← hw0, ← hn]; simp
  have c0 : w0.heap[n]? = some (.cells #[.int .i64 page, .int .u8 op, .string (sB m), .slice A l cap, .string (sB ex), .bool al] 122 (0, 0)) := by
    rw [← hw0, ← hn]
    exact (Below.heap_alloc _ _ _ (by simp)).trans (World.alloc_heap_new w _)
  have c1 : w0.heap[n + 1]? = some (.cells #[.string ⟨#[]⟩, .slice none 0 0] 32 (0, 0)) := by
    rw [← hw0, ← hn]
    have h := World.alloc_heap_new (w.alloc (.cells #[.int .i64 page, .int .u8 op, .string (sB m), .slice A l cap, .string (sB ex), .bool al] 122)) (.cells #[.string ⟨#[]⟩, .slice none 0 0] 32)
    rwa [World.size_alloc] at h
  have VA := Lib.hid (hva w0)
  have MK := Lib.hid hmk
  have HN := Lib.hid hn
  have B0 := Lib.hid b0
  have C0 := Lib.hid c0
  have C1 := Lib.hid c1
  have P0 := Lib.hid (H.below (by rw [hn]; exact b0))
  have k0 := Lib.cell_of_heap c0 0
  have k1 := Lib.cell_of_heap c0 1
  have k2 := Lib.cell_of_heap c0 2
  have k3 := Lib.cell_of_heap c0 3
  have k4 := Lib.cell_of_heap c0 4
  have k5 := Lib.cell_of_heap c0 5
  clear hva hmk c0 c1 b0 H
  go_enter Tryz.func99, Tryz.ntmps99
  go_wp2_with fail
  refine VA.out.mono ?_
  rintro e w1 ⟨f, g, f', g', rfl, va, va', hb⟩
  obtain ⟨p1, p2, p3, hf, hg⟩ := va.form
  obtain ⟨p4, p5, p6, hf', hg'⟩ := va'.form
  subst hf hg hf' hg'
  obtain ⟨b, hbs⟩ : ∃ b, w1.heap.size = b := ⟨_, rfl⟩
  have hnb : n + 2 ≤ b := by have := hb.size; omega
  obtain ⟨w2, hw2, x1, x2, x3, x4, x5, x6⟩ := vars_boxes va va' b hbs
  have B1 : Hid (Below n w w1) := B0.out.trans (hb.mono (by omega))
  have B2 : Hid (Below n w w2) := B1.out.trans (x5.mono (by omega))
  have bb : Below (n + 1 + 1) w0 w2 := (hb.mono (by omega)).trans (x5.mono (by omega))
  have c0 := (bb.block n (by omega)).trans C0.out
  have c1 := (bb.block (n + 1) (by omega)).trans C1.out
  have P2 := Lib.hid (P0.out.below (by rw [z0]; exact bb))
  have X1 := Lib.hid x1
  have X2 := Lib.hid x2
  have X3 := Lib.hid x3
  have X4 := Lib.hid x4
  have mk := MK.out w2 P2.out
  have C0 := Lib.hid c0
  have C1 := Lib.hid c1
  clear k0 k1 k2 k3 k4 k5 VA va va' hb x1 x2 x3 x4 x5 bb P0 B0 MK hw0 z0
  go_upto_region 2 with fail
  have k2 := Lib.cell_of_heap c0 2
  have k3 := Lib.cell_of_heap c0 3
  clear c0 c1
  go_wp2_with fail
  refine mk.mono ?_
  rintro e w3 ⟨v, rfl, hO, hb3⟩
  obtain ⟨A3, cap3, hv3, -, -⟩ := hO.ops
  rw [hl] at hv3
  subst hv3
  obtain ⟨u, hu⟩ : ∃ u, upB (sB m) = u := ⟨_, rfl⟩
  obtain ⟨c, hc⟩ : ∃ c, w3.heap.size = c := ⟨_, rfl⟩
  obtain ⟨w4, hw4, y1, y2, y3⟩ := ins_box w3 u (.slice A3 l cap3) c hc
  rw [hu]
  have hb4 : Below w2.heap.size w2 w4 := hb3.trans (y2.mono hb3.size)
  have hbc : b + 2 ≤ c := by have := hb3.size; omega
  have BB4 := Lib.hid hb4
  have B4 : Hid (Below n w w4) := B2.out.trans (hb4.mono (by omega))
  have D1 := Lib.hid ((hb4.block b (by omega)).trans X1.out)
  have D2 := Lib.hid ((hb4.block (b + 1) (by omega)).trans X2.out)
  have D3 := Lib.hid y1
  have DN := Lib.hid ((hb4.block (n + 1) (by omega)).trans C1.out)
  have V3 := X3.out.below hb4
  have V4 := Lib.hid (X4.out.below hb4)
  have O4 : OwnT w4 (b + 2) (.slice A3 l cap3) L := by have h := OwnT.below hO y2; rw [x6] at h; exact h
  have W2 : Hid (VarA w2 _ y) := X4
  have PU := Lib.hid (put_any x _ u A3 cap3 l (b + 2) L hl hL d w4 V3 O4 (by omega))
  have LT : Hid (∀ gg, (Value.slice A3 l cap3).ownBlock = some gg → b + 2 ≤ gg ∧ gg < c) := fun gg e => by
    have h := (World.ownsRow.lt hO gg e)
    rw [x6] at h
    omega
  have x6' := Lib.hid x6
  have hU := Lib.hid hu
  have f1 := Lib.cell_of_heap D1.out 0
  have f2 := Lib.cell_of_heap D1.out 1
  have f3 := Lib.cell_of_heap D3.out 0
  have f4 := Lib.cell_of_heap D3.out 1
  clear mk hO hb3 y1 y2 hb4 V3 X1 X2 X3 P2 B1 B2 x6 k2 k3 C0 C1 O4 hu
  go_upto_region 3 with fail
  go_wp2_with fail
  refine PU.out.mono ?_
  rintro e w5 ⟨rfl, hO5, hg5⟩
  have ne1 : ∀ k, k < b + 2 → some k ≠ (Value.slice A3 l cap3).ownBlock := fun k hk e => by have := (LT.out k e.symm).1; omega
  have nec : some c ≠ (Value.slice A3 l cap3).ownBlock := fun e => by have := (LT.out c e.symm).2; omega
  have E2 := (hg5.block (b + 1) (by omega) (ne1 _ (by omega))).trans D2.out
  have E3 := (hg5.block c (by omega) nec).trans D3.out
  have EN := (hg5.block (n + 1) (by omega) (ne1 _ (by omega))).trans DN.out
  have bb5 : Below (b + 2) w4 w5 := (Below.refl _ w4).grown hg5 (by omega) fun k e => (LT.out k e).1
  have B5 : Hid (Below n w w5) := B4.out.trans (bb5.mono (by omega))
  have sz5 : c + 1 ≤ w5.heap.size := by have := hg5.size; omega
  have V5 : VarA w5 (.agg #[.func (.func 137) #[] #[.pointer (some ⟨p4, 0, none⟩)], .func (.func 139) #[] #[.pointer (some ⟨p5, 0, none⟩), .pointer (some ⟨p6, 0, none⟩)]]) y := W2.out.below (BB4.out.trans (by rw [x6'.out]; exact bb5))
  cases hp1 : putB x L d with
  | false =>
    have FN : Hid (fillV ex L d q = none) := by show _ = _; rw [FV.out, if_neg (by rw [hp1]; exact fun h => absurd h.1 (by decide))]
    have e0 := Lib.cell_of_heap EN 0
    have e1 := Lib.cell_of_heap EN 1
    have ez := Lib.frozen_of_heap EN
    have EN9 := Lib.hid EN
    clear hp1 E2 E3 V5 hO5 hg5 bb5 PU f1 f2 f3 f4 EN ne1 nec
    go_wp2
    have B6 : Hid (Below n w ((w5.setCell ⟨n + 1, 0, none⟩ (.string ⟨#[]⟩)).setCell ⟨n + 1, 1, none⟩ (.slice none 0 0))) := (B5.out.setCell (p := ⟨n + 1, 0, none⟩) (show n ≤ n + 1 by omega) _).setCell (p := ⟨n + 1, 1, none⟩) (show n ≤ n + 1 by omega) _
    have y9 : ((w5.setCell ⟨n + 1, 0, none⟩ (.string ⟨#[]⟩)).setCell ⟨n + 1, 1, none⟩ (.slice none 0 0)).heap[n + 1]? = some (.cells #[.string ⟨#[]⟩, .slice none 0 0] 32 (0, 0)) := heap_setCell_same _ (n + 1) 1 _ _ _ (heap_setCell_same w5 (n + 1) 0 _ _ _ EN9.out)
    obtain ⟨w7, hw7⟩ : ∃ w7, (w5.setCell ⟨n + 1, 0, none⟩ (.string ⟨#[]⟩)).setCell ⟨n + 1, 1, none⟩ (.slice none 0 0) = w7 := ⟨_, rfl⟩
    rw [hw7] at B6 y9 ⊢
    have g0 := Lib.cell_of_heap y9 0
    have g1 := Lib.cell_of_heap y9 1
    refine bodyPost_ret (v := .tuple #[.agg #[.string ⟨#[]⟩, .slice none 0 0], .bool false]) ?_ rfl ?_
    · simp [results, Tryz.results99, go_sem, g0, g1]
    · rw [FN.out]
      exact ⟨rfl, by rw [HN.out]; exact B6.out⟩
  | true =>
    have PU2 := Lib.hid (put_any y _ u A3 cap3 l (b + 2) (putL x.1 L d) (by rw [← hl]; exact putL_len _ _ _) hL q w5 V5 hO5 (by omega))
    have PT := Lib.hid hp1
    have sz5' := Lib.hid sz5
    have E3' := Lib.hid E3
    have ENH := Lib.hid EN
    have f1 := Lib.cell_of_heap E2 0
    have f2 := Lib.cell_of_heap E2 1
    have f3 := Lib.cell_of_heap E3 0
    have f4 := Lib.cell_of_heap E3 1
    clear hp1 V5 hO5 hg5 bb5 PU E2 E3 EN
    go_wp2_with fail
    refine PU2.out.mono ?_
    rintro e w6 ⟨rfl, hO6, hg6⟩
    have E3 := (hg6.block c (by omega) nec).trans E3'.out
    have EN := (hg6.block (n + 1) (by omega) (ne1 _ (by omega))).trans ENH.out
    have bb6 : Below (b + 2) w5 w6 := (Below.refl _ w5).grown hg6 (by omega) fun k e => (LT.out k e).1
    have B6 : Hid (Below n w w6) := B5.out.trans (bb6.mono (by omega))
    have e0 := Lib.cell_of_heap EN 0
    have e1 := Lib.cell_of_heap EN 1
    have ez := Lib.frozen_of_heap EN
    have EN9 := Lib.hid EN
    have O6 := Lib.hid hO6
    have i0 := Lib.cell_of_heap E3 0
    have i1 := Lib.cell_of_heap E3 1
    have HB2 : Hid (n + 2 ≤ b) := hnb
    cases hp2 : putB y (putL x.1 L d) q with
    | false =>
      have FN : Hid (fillV ex L d q = none) := by show _ = _; rw [FV.out, if_neg (by rw [hp2]; exact fun h => absurd h.2 (by decide))]
      clear hp2 f1 f2 f3 f4 E3 EN bb6 PU2 hO6 hg6 ne1 nec
      go_wp2
      have B7 : Hid (Below n w ((w6.setCell ⟨n + 1, 0, none⟩ (.string ⟨#[]⟩)).setCell ⟨n + 1, 1, none⟩ (.slice none 0 0))) := (B6.out.setCell (p := ⟨n + 1, 0, none⟩) (show n ≤ n + 1 by omega) _).setCell (p := ⟨n + 1, 1, none⟩) (show n ≤ n + 1 by omega) _
      have y9 : ((w6.setCell ⟨n + 1, 0, none⟩ (.string ⟨#[]⟩)).setCell ⟨n + 1, 1, none⟩ (.slice none 0 0)).heap[n + 1]? = some (.cells #[.string ⟨#[]⟩, .slice none 0 0] 32 (0, 0)) := heap_setCell_same _ (n + 1) 1 _ _ _ (heap_setCell_same w6 (n + 1) 0 _ _ _ EN9.out)
      obtain ⟨w7, hw7⟩ : ∃ w7, (w6.setCell ⟨n + 1, 0, none⟩ (.string ⟨#[]⟩)).setCell ⟨n + 1, 1, none⟩ (.slice none 0 0) = w7 := ⟨_, rfl⟩
      rw [hw7] at B7 y9 ⊢
      have g0 := Lib.cell_of_heap y9 0
      have g1 := Lib.cell_of_heap y9 1
      refine bodyPost_ret (v := .tuple #[.agg #[.string ⟨#[]⟩, .slice none 0 0], .bool false]) ?_ rfl ?_
      · simp [results, Tryz.results99, go_sem, g0, g1]
      · rw [FN.out]
        exact ⟨rfl, by rw [HN.out]; exact B7.out⟩
    | true =>
      have FS : Hid (fillV ex L d q = some (putL y.1 (putL x.1 L d) q)) := by show _ = _; rw [FV.out, if_pos ⟨PT.out, hp2⟩]
      clear hp2 f1 f2 f3 f4 E3 EN bb6 PU2 hO6 hg6 ne1 nec
      go_wp2
      have B7 : Hid (Below n w ((w6.setCell ⟨n + 1, 0, none⟩ (.string u)).setCell ⟨n + 1, 1, none⟩ (.slice A3 l cap3))) := (B6.out.setCell (p := ⟨n + 1, 0, none⟩) (show n ≤ n + 1 by omega) _).setCell (p := ⟨n + 1, 1, none⟩) (show n ≤ n + 1 by omega) _
      have y9 : ((w6.setCell ⟨n + 1, 0, none⟩ (.string u)).setCell ⟨n + 1, 1, none⟩ (.slice A3 l cap3)).heap[n + 1]? = some (.cells #[.string u, .slice A3 l cap3] 32 (0, 0)) := heap_setCell_same _ (n + 1) 1 _ _ _ (heap_setCell_same w6 (n + 1) 0 _ _ _ EN9.out)
      have O7 : Hid (OwnT ((w6.setCell ⟨n + 1, 0, none⟩ (.string u)).setCell ⟨n + 1, 1, none⟩ (.slice A3 l cap3)) n (.slice A3 l cap3) (putL y.1 (putL x.1 L d) q)) :=
        row_mono (row_set (row_set O6.out (p := ⟨n + 1, 0, none⟩) (show n + 1 < b + 2 by omega) _) (p := ⟨n + 1, 1, none⟩) (show n + 1 < b + 2 by omega) _) (by omega)
      obtain ⟨w7, hw7⟩ : ∃ w7, (w6.setCell ⟨n + 1, 0, none⟩ (.string u)).setCell ⟨n + 1, 1, none⟩ (.slice A3 l cap3) = w7 := ⟨_, rfl⟩
      rw [hw7] at B7 y9 O7 ⊢
      have g0 := Lib.cell_of_heap y9 0
      have g1 := Lib.cell_of_heap y9 1
      refine bodyPost_ret (v := .tuple #[.agg #[.string u, .slice A3 l cap3], .bool true]) ?_ rfl ?_
      · simp [results, Tryz.results99, go_sem, g0, g1]
      · rw [FS.out]
        exact ⟨_, by rw [hU.out], by rw [HN.out]; exact O7.out, by rw [HN.out]; exact B7.out⟩
end Go.Proofs.YtmnleknehjkmgaaGreat
