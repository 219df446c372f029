/-
  EvH, TbZ, RkA, EsA, CoE.
-/
import Derived.Test.YtbbpkoaeedkncaaGreatDoorGBI
import Derived.Test.YtbbpkoaeedkncaaGreatDoorGBH
import Derived.Test.YtbbpkoaeedkncaaGreatDoorGAG
import Derived.Deep.DeepCutAuto
import Derived.Deep.Cut
import Derived.StillTail
import Derived.StillTailTactics
import Derived.Deep.RegionHeld3
import Derived.RegionTactic
set_option linter.all false
set_option maxRecDepth 100000
set_option maxHeartbeats 4000000
namespace Go.Ev
open Go Go.RowKit
inductive Ex where
  | normal
  | exit (id : Nat)
  | ret
def Ex.to : Ex → Exit
  | .normal => .normal
  | .exit id => .exit id
  | .ret => .ret
structure Fin where
  ex : Ex
  T : Tm
  d : Hp
  c : Nat
def evCode (call : Caller) (P : Program) (nt : Nat) (σ : Hp) (p : Nat) : Nat → Code → Tm → Hp → Nat → Option Fin
  | 0, _, _, _, _ => none
  | k + 1, .skip, T, d, c => some ⟨.normal, T, d, c⟩
  | k + 1, .label _, T, d, c => some ⟨.normal, T, d, c⟩
  | k + 1, .region _ ops false, T, d, c => match evSeq call P nt ops T (d ++ σ) ((p * 4096 + c) * 64) (List.range ops.size) [] [] with
    | some (e, δ) => some ⟨.normal, e ++ T, δ ++ d, c + 1⟩
    | none => none
  | k + 1, .region _ ops true, T, d, c => match P.follows .mixedOrders, evIter call P nt ops T (d ++ σ) ((p * 4096 + c) * 64) ops.size [(0, [], [])] with
    | true, some (e, δ) => some ⟨.normal, e ++ T, δ ++ d, c + 1⟩
    | _, _ => none
  | k + 1, .seq x y, T, d, c => match evCode call P nt σ p k x T d c with
    | some ⟨.normal, T', d', c'⟩ => evCode call P nt σ p k y T' d' c'
    | r => r
  | k + 1, .cond b x y, T, d, c => match opc T b with
    | some (.bool true) => evCode call P nt σ p k x T d c
    | some (.bool false) => evCode call P nt σ p k y T d c
    | _ => none
  | k + 1, .block id b, T, d, c => match evCode call P nt σ p k b T d c with
    | some ⟨.exit id', T', d', c'⟩ => match Nat.beq id' id with
      | true => some ⟨.normal, T', d', c'⟩
      | false => some ⟨.exit id', T', d', c'⟩
    | r => r
  | k + 1, .loop b, T, d, c => match evCode call P nt σ p k b T d c with
    | some ⟨.normal, T', d', c'⟩ => evCode call P nt σ p k (.loop b) T' d' c'
    | r => r
  | k + 1, .exit id, T, d, c => some ⟨.exit id, T, d, c⟩
  | k + 1, .ret, T, d, c => some ⟨.ret, T, d, c⟩
  | k + 1, _, _, _, _ => none
section
variable {P : Program} {w0 : World} {call : Caller} {nt : Nat} {σ : Hp} {p : Nat}
def Goal (P : Program) (w0 : World) (nt : Nat) (σ : Hp) (r : Fin) (ρ : Ren) (Q : Exit → Act → World → Prop) : Prop := ∀ ρ' a' w', Ext ρ ρ' → SR nt ρ' r.T a' → HR w0 ρ' (r.d ++ σ) w' → Q r.ex.to a' w'
theorem Goal.ext {r : Fin} {ρ ρ' : Ren} {Q : Exit → Act → World → Prop} (h : Goal P w0 nt σ r ρ Q) (e : Ext ρ ρ') : Goal P w0 nt σ r ρ' Q := fun ρ2 a w h1 h2 h3 => h ρ2 a w (e.trans h1) h2 h3
theorem evCode_wp (hC : CallOK P w0 call) : ∀ (k : Nat), (∀ (code : Code) (T : Tm) (d : Hp) (c : Nat) (r : Fin), evCode call P nt σ p k code T d c = some r → ∀ (ρ : Ren) (a : Act) (w : World) (Q : Exit → Act → World → Prop), SR nt ρ T a → HR w0 ρ (d ++ σ) w → Goal P w0 nt σ r ρ Q → code.wp P Q a w) ∧
    (∀ (b : Code) (T : Tm) (d : Hp) (c : Nat) (r : Fin), evCode call P nt σ p k (.loop b) T d c = some r → ∀ (ρ : Ren) (a : Act) (w : World) (Q : Exit → Act → World → Prop), SR nt ρ T a → HR w0 ρ (d ++ σ) w → Goal P w0 nt σ r ρ Q → Code.rounds P b Q k a w)
  | 0 => ⟨fun code T d c r h => by (simp only [evCode] at h; cases h), fun b T d c r h => by (simp only [evCode] at h; cases h)⟩
  | k + 1 => by
    obtain ⟨ih1, ih2⟩ := evCode_wp hC k
    have hloop : ∀ (b : Code) (T : Tm) (d : Hp) (c : Nat) (r : Fin), evCode call P nt σ p (k + 1) (.loop b) T d c = some r → ∀ (ρ : Ren) (a : Act) (w : World) (Q : Exit → Act → World → Prop), SR nt ρ T a → HR w0 ρ (d ++ σ) w → Goal P w0 nt σ r ρ Q → Code.rounds P b Q (k + 1) a w := by
      intro b T d c r h ρ a w Q hS hs hQ
      rw [rounds_succ]
      simp only [evCode] at h
      split at h
      · rename_i T' d' c' hb
        refine ih1 b T d c _ hb ρ a w _ hS hs fun ρ1 a1 w1 h1 h2 h3 => ?_
        exact ih2 b T' d' c' r h ρ1 a1 w1 Q h2 h3 (hQ.ext h1)
      · rename_i hne
        refine ih1 b T d c r h ρ a w _ hS hs fun ρ1 a1 w1 h1 h2 h3 => ?_
        have hq := hQ ρ1 a1 w1 h1 h2 h3
        obtain ⟨ex, T', d', c'⟩ := r
        cases ex
        · exact absurd h (hne T' d' c')
        · exact hq
        · exact hq
    refine ⟨fun code T d c r h ρ a w Q hS hs hQ => ?_, hloop⟩
    cases code with
    | skip =>
      simp only [evCode] at h
      cases h
      exact wp_skip (hQ ρ a w (Ext.refl _) hS hs)
    | label l =>
      simp only [evCode] at h
      cases h
      exact wp_label (hQ ρ a w (Ext.refl _) hS hs)
    | exit id =>
      simp only [evCode] at h
      cases h
      exact wp_exit (hQ ρ a w (Ext.refl _) hS hs)
    | ret =>
      simp only [evCode] at h
      cases h
      exact wp_ret (hQ ρ a w (Ext.refl _) hS hs)
    | region id ops draw =>
      cases draw with
      | false =>
        simp only [evCode] at h
        split at h
        · rename_i e δ h1
          cases h
          refine wp_region (evSeq_wp hC (fun ρ' a' w' k1 k2 k3 => ?_) _ _ _ h1 ρ a w (Ext.refl _) hS hs)
          exact hQ ρ' a' w' k1 k2 (by rw [List.append_assoc]; exact k3)
        · cases h
      | true =>
        simp only [evCode] at h
        split at h
        · rename_i e δ hm h1
          cases h
          refine wp_mono (Q := fun ex a' w' => ex = .normal ∧ Q .normal a' w') (wp_region_any hm ?_) fun ex a' w' hx => by obtain ⟨rfl, hx⟩ := hx; exact hx
          rw [← maskArr_zero]
          exact evIter_wp hC (fun c a w hc => by cases hc.1) (fun ρ' a' w' k1 k2 k3 => ⟨rfl, hQ ρ' a' w' k1 k2 (by rw [List.append_assoc]; exact k3)⟩) _ _ h1 0 [] [] (List.mem_singleton.2 rfl) ρ a _ (Ext.refl _) hS hs.drew
        · cases h
    | seq x y =>
      simp only [evCode] at h
      refine wp_seq ?_
      split at h
      · rename_i T' d' c' hx
        refine ih1 x T d c _ hx ρ a w _ hS hs fun ρ1 a1 w1 h1 h2 h3 => ?_
        exact ih1 y T' d' c' r h ρ1 a1 w1 Q h2 h3 (hQ.ext h1)
      · rename_i hne
        refine ih1 x T d c r h ρ a w _ hS hs fun ρ1 a1 w1 h1 h2 h3 => ?_
        have hq := hQ ρ1 a1 w1 h1 h2 h3
        obtain ⟨ex, T', d', c'⟩ := r
        cases ex
        · exact absurd h (hne T' d' c')
        · exact hq
        · exact hq
    | cond b x y =>
      simp only [evCode] at h
      split at h
      · rename_i hb
        have hv : a.eval b = .bool true := opc_rel hS.tr hb
        exact wp_cond_true hv (ih1 x T d c r h ρ a w Q hS hs hQ)
      · rename_i hb
        have hv : a.eval b = .bool false := opc_rel hS.tr hb
        exact wp_cond_false hv (ih1 y T d c r h ρ a w Q hS hs hQ)
      · cases h
    | block id b =>
      simp only [evCode] at h
      refine wp_block ?_
      split at h
      · rename_i id' T' d' c' hb
        refine ih1 b T d c _ hb ρ a w _ hS hs fun ρ1 a1 w1 h1 h2 h3 => ?_
        split at h
        · rename_i hid
          have hid := Nat.eq_of_beq_eq_true hid
          cases h
          show (if id' = id then _ else _)
          rw [if_pos hid]
          exact hQ ρ1 a1 w1 h1 h2 h3
        · rename_i hid
          cases h
          show (if id' = id then _ else _)
          rw [if_neg fun e => by rw [e] at hid; exact absurd hid (by simp)]
          exact hQ ρ1 a1 w1 h1 h2 h3
      · rename_i hne
        refine ih1 b T d c r h ρ a w _ hS hs fun ρ1 a1 w1 h1 h2 h3 => ?_
        have hq := hQ ρ1 a1 w1 h1 h2 h3
        obtain ⟨ex, T', d', c'⟩ := r
        cases ex with
        | normal => exact hq
        | exit id' => exact absurd h (hne id' T' d' c')
        | ret => exact hq
    | loop b => exact wp_loop_rounds (k + 1) (hloop b T d c r h ρ a w Q hS hs hQ)
    | rangeFunc f ps xs b => simp only [evCode] at h; cases h
    | scope b => simp only [evCode] at h; cases h
    | goto l => simp only [evCode] at h; cases h
    | refuse y => simp only [evCode] at h; cases h
end
def argT : Nat → List A1 → Tm
  | _, [] => []
  | i, v :: t => (i, some (.one v)) :: argT (i + 1) t
def resA (P : Program) (T : Tm) (σ : Hp) : List ResultVar → Option (List A1)
  | [] => some []
  | .tmp t :: r => match op1 T (.tmp t), resA P T σ r with
    | some v, some l => some (v :: l)
    | _, _ => none
  | .cell t ty :: r => match opc T (.tmp t) with
    | some (.ptr b off) => match loadA P σ ty b off, resA P T σ r with
      | some v, some l => some (v :: l)
      | _, _ => none
    | _ => none
def tupA : List A1 → AV
  | [x] => .one x
  | l => .tup l
def evCall (P : Program) (K : Nat) : Nat → Caller
  | 0, _, _, _, _ => none
  | n + 1, f, vs, σ, p => match P.funcs[f]? with
    | some fn => match fn.name == "runtime.NumGoroutine", fn.body with
      | false, some c => match evCode (evCall P K n) P (vs.length + (fn.ntmps - vs.length)) σ p K c (argT 0 vs) [] 0 with
        | some ⟨.exit _, _, _, _⟩ => none
        | some ⟨_, T, d, _⟩ => match resA P T (d ++ σ) fn.results.toList with
          | some l => some (tupA l, d)
          | none => none
        | none => none
      | _, _ => none
    | none => none
section
variable {P : Program} {w0 : World}
theorem argT_look : ∀ (vs : List A1) (i t : Nat) (x : AV), look (argT i vs) t = some (some x) → ∃ v, i ≤ t ∧ vs[t - i]? = some v ∧ x = .one v
  | [], i, t, x, h => by cases h
  | v :: r, i, t, x, h => by
    simp only [argT] at h
    rw [look_cons] at h
    split at h
    · rename_i e
      subst e
      cases h
      exact ⟨v, Nat.le_refl _, by simp, rfl⟩
    · obtain ⟨u, k1, k2, k3⟩ := argT_look r (i + 1) t x h
      exact ⟨u, by omega, by rw [show t - i = (t - (i + 1)) + 1 by omega]; simpa using k2, k3⟩
theorem R1.length {ρ : Ren} : ∀ {l : List A1} {vs : List Value}, R1 ρ l vs → vs.length = l.length
  | [], _, h => by rw [show _ = _ from h]; rfl
  | x :: t, _, ⟨v, u, h1, h2, h3⟩ => by rw [h1, List.length_cons, R1.length h3, List.length_cons]
theorem start_SR {ρ : Ren} {vs : List A1} {us : List Value} (h : R1 ρ vs us) (n : Nat) : SR (vs.length + (n - vs.length)) ρ (argT 0 vs) { tmps := us.toArray ++ Array.replicate (n - us.toArray.size) undef, defers := [] } := by
  have hl := h.length
  refine ⟨fun t x hx => ?_, by simp [hl], rfl⟩
  obtain ⟨v, -, k2, rfl⟩ := argT_look vs 0 t x hx
  rw [Nat.sub_zero] at k2
  obtain ⟨u, k3, k4⟩ := h.get k2
  have hlt := (List.getElem?_eq_some_iff.1 k3).1
  have e : (us.toArray ++ Array.replicate (n - us.toArray.size) undef).getD t undef = u := by
    rw [Array.getD_eq_getD_getElem?, Array.getElem?_append_left (by simpa using hlt), List.getElem?_toArray, k3]
    rfl
  exact (by rw [e]; exact k4 : A1.rel ρ v ((us.toArray ++ Array.replicate (n - us.toArray.size) undef).getD t undef))
def getRes (tmps : Array Value) (x : ResultVar) : Sem Value := match x with
  | .tmp t => pure (tmps.getD t undef)
  | .cell b t => do loadVar t (← asAddr (tmps.getD b undef))
theorem resA_run {ρ : Ren} {T : Tm} {σ : Hp} {a : Act} {w : World} (hT : TR ρ T a) (hs : HR w0 ρ σ w) : ∀ {rs : List ResultVar} {l : List A1}, resA P T σ rs = some l → ∃ vs, R1 ρ l vs ∧ (rs.mapM (getRes a.tmps)).run P w = .ok vs w
  | [], l, h => by cases h; exact ⟨[], rfl, by simp⟩
  | .tmp t :: r, l, h => by
    simp only [resA] at h
    split at h
    · rename_i v l' h1 h2
      cases h
      obtain ⟨vs, k1, k2⟩ := resA_run hT hs h2
      have h3 : v.rel ρ (a.tmps.getD t undef) := op1_rel hT h1
      exact ⟨_, ⟨_, vs, rfl, h3, k1⟩, by simp [List.mapM_cons, getRes, k2]⟩
    · cases h
  | .cell t ty :: r, l, h => by
    simp only [resA] at h
    split at h
    · rename_i b off hp
      split at h
      · rename_i v l' h1 h2
        cases h
        obtain ⟨vs, k1, k2⟩ := resA_run hT hs h2
        obtain ⟨k, cp, hk, hv⟩ := opc_rel hT hp
        have hv : a.tmps.getD t undef = .pointer (some ⟨k, off, none⟩) := hv
        obtain ⟨u, h3, h4⟩ := loadA_run hs h1 hk
        exact ⟨_, ⟨_, vs, rfl, h3, k1⟩, by simp [List.mapM_cons, getRes, hv, asAddr, h4, k2]⟩
      · cases h
    · cases h
theorem results_run {ρ : Ren} {T : Tm} {σ : Hp} {a : Act} {w : World} (hT : TR ρ T a) (hs : HR w0 ρ σ w) {fn : Func} {l : List A1} (h : resA P T σ fn.results.toList = some l) : ∃ v, (tupA l).rel ρ v ∧ (results fn a.tmps).run P w = .ok v w := by
  obtain ⟨vs, k1, k2⟩ := resA_run hT hs h
  have hl := k1.length
  refine ⟨if h : vs.toArray.size = 1 then vs.toArray[0] else .tuple vs.toArray, ?_, ?_⟩
  · cases l with
    | nil =>
      rw [show vs = [] from k1]
      exact ⟨_, rfl, rfl⟩
    | cons x t =>
      obtain ⟨v, u, rfl, k3, k4⟩ := k1
      cases t with
      | nil =>
        rw [show u = [] from k4]
        exact k3
      | cons y r =>
        have hne : ¬ (v :: u).toArray.size = 1 := by simp at hl ⊢; intro e; rw [e] at hl; simp at hl
        rw [dif_neg hne]
        exact ⟨_, rfl, v, u, rfl, k3, k4⟩
  · have e : results fn a.tmps = (fn.results.mapM (getRes a.tmps)) >>= fun vs => pure (if h : vs.size = 1 then vs[0] else .tuple vs) := by
      unfold results
      congr 2
    rw [e, Array.mapM_eq_mapM_toList]
    simp only [Sem.run_bind, Sem.run_map, k2, Result.andThen_ok]
    rfl
theorem evCall_ok (K : Nat) : ∀ n, CallOK P w0 (evCall P K n)
  | 0 => fun f vs σ nm v δ h => by (simp only [evCall] at h; cases h)
  | n + 1 => fun f vs σ nm v δ h => by
    have ih := evCall_ok K n
    simp only [evCall] at h
    split at h
    · rename_i fn hf
      split at h
      · rename_i c hname hbody
        have hent : ∀ args w, (callFunc f args).run P w = .ok (.enter f args) w := fun args w => by
          have h1 : fn.name ≠ "runtime.NumGoroutine" := by simpa using hname
          simp [callFunc, hf, h1, hbody]
        split at h
        · cases h
        · rename_i ex T d c' hne hc
          split at h
          · rename_i l hl
            cases h
            refine ⟨hent, fun ρ w us hs hus => calls_of_wp hf hbody ?_⟩
            refine (evCode_wp ih K).1 c _ [] 0 _ hc ρ _ w _ (start_SR hus _) hs fun ρ' a' w' k1 k2 k3 => ?_
            obtain ⟨v, j1, j2⟩ := results_run k2.tr k3 hl
            cases ex with
            | normal => exact ⟨k2.defers, v, j2, v, ρ', rfl, k1, j1, k3⟩
            | ret => exact ⟨k2.defers, v, j2, v, ρ', rfl, k1, j1, k3⟩
            | exit id => exact (hne id rfl).elim
          · cases h
        · cases h
      · cases h
    · cases h
theorem run_call {K n : Nat} {f : FuncId} {vs : List A1} {v : AV} {δ : Hp} (h : evCall P K n f vs [] 1 = some (v, δ)) {us : List Value} (hus : R1 (fun _ => none) vs us) (w : World) :
    Calls P f us.toArray w fun e w' => ∃ u ρ, e = .returned u ∧ v.rel ρ u ∧ HR w ρ δ w' := by
  refine ((evCall_ok K n f vs [] 1 v δ h).2 _ w us (HR.start w) hus).mono ?_
  rintro e w' ⟨u, ρ, rfl, -, h2, h3⟩
  exact ⟨u, ρ, rfl, h2, by simpa using h3⟩
end
end Go.Ev
namespace Go.Proofs.YtbbpkoaeedkncaaGreatDoor
open Go.RowKit Go.Shelf
def fitF (n : Nat) : Nat → Str → Bool
  | _, [] => true
  | w, c :: t => (if c = 48 then n / w % 2 == 0 else if c = 49 then n / w % 2 == 1 else true) && fitF n (w / 2) t
theorem fit_all : ∀ p ∈ mainP ++ cbP ++ edP, ∀ n : Fin 256, fitsP p.1 (n.val : Int) = fitF n.val 128 p.1 := by decide +kernel
def findN (page n : Nat) : Option Pat := (pagePats page).find? fun p => fitF n 128 p.1
theorem find_eq (page n : Nat) (hn : n < 256) : findP (listS page) (n : Int) = findN page n := by
  unfold findP findN
  rw [patsOf_page]
  have h : ∀ L : List Pat, (∀ p ∈ L, p ∈ mainP ++ cbP ++ edP) → L.find? (fun p => fitsP p.1 (n : Int)) = L.find? (fun p => fitF n 128 p.1) := by
    intro L
    induction L with
    | nil => intro _; rfl
    | cons p t ih =>
      intro hL
      rw [List.find?_cons, List.find?_cons, fit_all p (hL p (by simp)) ⟨n, hn⟩, ih (fun q hq => hL q (by simp [hq]))]
  exact h _ fun p hp => page_mem hp
def nuN (p : Pat) (n : Nat) (c : UInt8) : Int := (numN p.1 n c 8 : Nat)
def opN (p : Pat) (n : Nat) (w : Str) : Tr × Str :=
  if w = [101] then ((10, 0, 0), w) else if w = [110] ∨ w = [119] then ((6, 0, 0), w) else if w = [40, 110, 41] ∨ w = [40, 119, 41] then ((7, 0, 0), (w.drop 1).take 1) else
  match fieldT (w.headD 0) (nuN p n (w.headD 0)) with
  | some t => (t, [])
  | none => (fixedT w, [])
def wordsN (p : Pat) (n : Nat) : Str × Str × Str :=
  if (cutL [32] p.2).1 = [97] then (arN (numN p.1 n 97 8), arB (numN p.1 n 97 8), (cutL [32] p.2).2.1) else
  if (cutL [32] p.2).1 = [111] then (roN (numN p.1 n 111 8), [], (cutL [32] p.2).2.1) else ((cutL [32] p.2).1, [], (cutL [32] p.2).2.1)
def plainN (p : Pat) (page n : Nat) : En :=
  ((wordsN p n).1, (splitW ((wordsN p n).2.1 ++ (wordsN p n).2.2)).map (fun w => (opN p n w).1), ((splitW ((wordsN p n).2.1 ++ (wordsN p n).2.2)).map (fun w => (opN p n w).2)).flatten, (page : Int) == 2 && isAliasT (wordsN p n).1 n)
theorem opN_eq (p : Pat) (n : Nat) (hn : n < 256) (w : Str) : opT p (n : Int) w = opN p n w := by
  unfold opT opN nuN
  rw [numP_eq _ _ hn]
  rfl
theorem wordsN_eq (p : Pat) (n : Nat) (hn : n < 256) : wordsT p (n : Int) = wordsN p n := by
  unfold wordsT wordsN
  rw [numP_eq _ _ hn, numP_eq _ _ hn]
  simp only [Int.toNat_natCast]
theorem plainN_eq (p : Pat) (page n : Nat) (hn : n < 256) : plainT p page (n : Int) = plainN p page n := by
  unfold plainT plainN argsT extraT wordsOf
  rw [wordsN_eq p n hn]
  simp only [opN_eq p n hn]
def shiftN (p : Pat) (page n : Nat) (ix : Int) : En :=
  let x := plainN p page (n / 8 * 8 + 6)
  let L := if memB x.1 x.2.1 then repM ix x.2.1 else x.2.1
  let ex := if memB x.1 x.2.1 then 100 :: x.2.2.1 else x.2.2.1
  if numN p.1 n 115 8 = 6 then (x.1, L, ex, x.2.2.2) else if x.1 = [66, 73, 84] then (x.1, L, ex, true) else (x.1, L ++ [((1 : Int), ((numN p.1 n 115 8 : Nat) : Int), (0 : Int))], ex, x.2.2.2)
theorem shiftN_eq (p : Pat) (page n : Nat) (hn : n < 256) (ix : Int) : shiftT p page (n : Int) ix = shiftN p page n ix := by
  have h6 := op6_all ⟨n, hn⟩
  simp only at h6
  unfold shiftT shiftN
  rw [h6, plainN_eq p page _ (by omega), numP_eq _ _ hn]
  simp only [show ∀ m : Nat, ((m : Int) = 6) = (m = 6) from fun m => by simp; omega]
def entryN (p : Pat) (page n : Nat) : Option En :=
  if page = 3 then (withP (plainN p page n).1 5 (plainN p page n).2.1 (plainN p page n).2.2.1).map fun y => ((plainN p page n).1, y.1, y.2, (plainN p page n).2.2.2) else
  if page = 4 then (withP (plainN p page n).1 6 (plainN p page n).2.1 (plainN p page n).2.2.1).map fun y => ((plainN p page n).1, y.1, y.2, (plainN p page n).2.2.2) else
  if page = 5 then some (shiftN p page n 5) else if page = 6 then some (shiftN p page n 6) else some (plainN p page n)
theorem entryN_eq (p : Pat) (page n : Nat) (hn : n < 256) : entryT p page (n : Int) = entryN p page n := by
  unfold entryT entryN
  rw [plainN_eq p page n hn, shiftN_eq p page n hn, shiftN_eq p page n hn]
  simp only [show ((page : Int) = 3) = (page = 3) by simp; omega, show ((page : Int) = 4) = (page = 4) by simp; omega, show ((page : Int) = 5) = (page = 5) by simp; omega, show ((page : Int) = 6) = (page = 6) by simp; omega]
def atN (page n : Nat) : Option En := match findN page n with
  | some p => entryN p page n
  | none => none
theorem atN_eq (page n : Nat) (hn : n < 256) : atT page (n : Int) = atN page n := by
  unfold atT atN
  rw [find_eq page n hn]
  cases findN page n with
  | none => rfl
  | some p => exact entryN_eq p page n hn
end Go.Proofs.YtbbpkoaeedkncaaGreatDoor
namespace Go.Proofs.YtbbpkoaeedkncaaGreatDoor
open Go.RowKit Go.Shelf
attribute [local irreducible] Go.Mixed.wpMix
theorem up {a b c : World} (h : Below a.heap.size a b) (k : Below b.heap.size b c) : Below a.heap.size a c := h.trans (k.mono h.size)
theorem up_alloc (w : World) (o : Obj) : Below w.heap.size w (w.alloc o) := (Below.refl _ _).alloc (Nat.le_refl _) _
def OpV (w : World) (b : Nat) (x : Tr) : Prop := w.heap[b]? = some (.cells #[.int .i64 x.1, .int .i64 x.2.1, .int .i64 x.2.2] 68 (0, 0))
theorem OpV.all {w w' : World} {b : Nat} {x : Tr} (h : OpV w b x) (hb : Below w.heap.size w w') : OpV w' b x := (hb.block b (Array.getElem?_eq_some_iff.1 h).1).trans h
theorem OpV.cells {w : World} {b : Nat} {x : Tr} (h : OpV w b x) : w.cell? ⟨b, 0, none⟩ = some (.int .i64 x.1) ∧ w.cell? ⟨b, 1, none⟩ = some (.int .i64 x.2.1) ∧ w.cell? ⟨b, 2, none⟩ = some (.int .i64 x.2.2) ∧ ∀ j, w.frozen? ⟨b, j, none⟩ = false :=
  ⟨Lib.cell_of_heap h 0, Lib.cell_of_heap h 1, Lib.cell_of_heap h 2, Lib.frozen_of_heap h⟩
section
variable {P : Program} {ops : Array Oper}
theorem wpMix_skip {C : World → Prop} {T : Act → World → Prop} {k : Nat} {r : List (Nat × Bool)} {a : Act} {w : World} {o : Oper} (ho : ops[k]? = some o) (hw : Region.wanted o (yielded ops a.tmps) = false)
    (h : Mixed.wpMix P ops C T r (a.put o.dst undef) w) : Mixed.wpMix P ops C T ((k, true) :: r) a w := by
  unfold Mixed.wpMix
  simp only [ho]
  exact ⟨undef, .inr ⟨hw, rfl⟩, h⟩
theorem wpMix_skipL {C : World → Prop} {T : Act → World → Prop} {k : Nat} {r : List (Nat × Bool)} {a : Act} {w : World} {o : Oper} (ho : ops[k]? = some o) (hw : Region.wanted o (yielded ops a.tmps) = false)
    (hC : C w) (h : Mixed.wpMix P ops C T r (a.put o.dst undef) w) : Mixed.wpMix P ops C T ((k, false) :: r) a w := by
  unfold Mixed.wpMix
  unfold wpOp
  simp only [ho, hw, Bool.false_eq_true, if_false]
  exact ⟨hC, h⟩
end
def RnAt (w : World) (b : Nat) (page op : Int) (m : Str) (v : Value) (ex : Str) (al : Bool) : Prop := w.heap[b]? = some (.cells #[.int .i64 page, .int .u8 op, .string (sB m), v, .string (sB ex), .bool al] 29 (0, 0))
section
variable {w w' : World} {b : Nat} {page op : Int} {m ex : Str} {v : Value} {al : Bool}
theorem RnAt.lt (h : RnAt w b page op m v ex al) : b < w.heap.size := (Array.getElem?_eq_some_iff.1 h).1
theorem RnAt.below {B : Nat} (h : RnAt w b page op m v ex al) (hb : Below B w w') (hB : b < B) : RnAt w' b page op m v ex al := (hb.block b hB).trans h
theorem RnAt.all (h : RnAt w b page op m v ex al) (hb : Below w.heap.size w w') : RnAt w' b page op m v ex al := h.below hb h.lt
theorem RnAt.cells (h : RnAt w b page op m v ex al) : w.cell? ⟨b, 0, none⟩ = some (.int .i64 page) ∧ w.cell? ⟨b, 1, none⟩ = some (.int .u8 op) ∧ w.cell? ⟨b, 2, none⟩ = some (.string (sB m)) ∧ w.cell? ⟨b, 3, none⟩ = some v ∧ w.cell? ⟨b, 4, none⟩ = some (.string (sB ex)) ∧ w.cell? ⟨b, 5, none⟩ = some (.bool al) ∧ ∀ j, w.frozen? ⟨b, j, none⟩ = false :=
  ⟨Lib.cell_of_heap h 0, Lib.cell_of_heap h 1, Lib.cell_of_heap h 2, Lib.cell_of_heap h 3, Lib.cell_of_heap h 4, Lib.cell_of_heap h 5, Lib.frozen_of_heap h⟩
theorem RnAt.set_args (h : RnAt w b page op m v ex al) (v' : Value) : RnAt (w.setCell ⟨b, 3, none⟩ v') b page op m v' ex al := heap_setCell_same w b 3 _ _ v' h
theorem RnAt.set_extra (h : RnAt w b page op m v ex al) (ex' : Str) : RnAt (w.setCell ⟨b, 4, none⟩ (.string (sB ex'))) b page op m v ex' al := heap_setCell_same w b 4 _ _ _ h
theorem RnAt.set_alias (h : RnAt w b page op m v ex al) (al' : Bool) : RnAt (w.setCell ⟨b, 5, none⟩ (.bool al')) b page op m v ex al' := heap_setCell_same w b 5 _ _ _ h
theorem RnAt.set_code (h : RnAt w b page op m v ex al) (op' : Int) : RnAt (w.setCell ⟨b, 1, none⟩ (.int .u8 op')) b page op' m v ex al := heap_setCell_same w b 1 _ _ _ h
theorem RnAt.set_page (h : RnAt w b page op m v ex al) (page' : Int) : RnAt (w.setCell ⟨b, 0, none⟩ (.int .i64 page')) b page' op m v ex al := heap_setCell_same w b 0 _ _ _ h
theorem RnAt.set_mn (h : RnAt w b page op m v ex al) (m' : Str) : RnAt (w.setCell ⟨b, 2, none⟩ (.string (sB m'))) b page op m' v ex al := heap_setCell_same w b 2 _ _ _ h
theorem RnAt.put (h : RnAt w b page op m v ex al) (page' op' : Int) (m' : Str) (v' : Value) (ex' : Str) (al' : Bool) :
    ∃ w', (((((w.setCell ⟨b, 0, none⟩ (.int .i64 page')).setCell ⟨b, 1, none⟩ (.int .u8 op')).setCell ⟨b, 2, none⟩ (.string (sB m'))).setCell ⟨b, 3, none⟩ v').setCell ⟨b, 4, none⟩ (.string (sB ex'))).setCell ⟨b, 5, none⟩ (.bool al') = w' ∧
      RnAt w' b page' op' m' v' ex' al' ∧ Below b w w' ∧ w'.heap.size = w.heap.size ∧ (∀ B u L, b < B → OwnT w B u L → OwnT w' B u L) ∧ ∀ k, k ≠ b → w'.heap[k]? = w.heap[k]? := by
  refine ⟨_, rfl, (((((h.set_page page').set_code op').set_mn m').set_args v').set_extra ex').set_alias al', ?_, by simp, fun B u L hB hO => ?_, fun k hk => ?_⟩
  · exact ((((((Below.refl b w).setCell (p := ⟨b, 0, none⟩) (Nat.le_refl _) _).setCell (p := ⟨b, 1, none⟩) (Nat.le_refl _) _).setCell (p := ⟨b, 2, none⟩) (Nat.le_refl _) _).setCell (p := ⟨b, 3, none⟩) (Nat.le_refl _) _).setCell (p := ⟨b, 4, none⟩) (Nat.le_refl _) _).setCell (p := ⟨b, 5, none⟩) (Nat.le_refl _) _
  · exact row_set (row_set (row_set (row_set (row_set (row_set hO (p := ⟨b, 0, none⟩) hB _) (p := ⟨b, 1, none⟩) hB _) (p := ⟨b, 2, none⟩) hB _) (p := ⟨b, 3, none⟩) hB _) (p := ⟨b, 4, none⟩) hB _) (p := ⟨b, 5, none⟩) hB _
  · exact (heap_setCell_other _ ⟨b, 5, none⟩ k _ hk).trans ((heap_setCell_other _ ⟨b, 4, none⟩ k _ hk).trans ((heap_setCell_other _ ⟨b, 3, none⟩ k _ hk).trans ((heap_setCell_other _ ⟨b, 2, none⟩ k _ hk).trans ((heap_setCell_other _ ⟨b, 1, none⟩ k _ hk).trans (heap_setCell_other _ ⟨b, 0, none⟩ k _ hk)))))
theorem RnAt.set_other (h : RnAt w b page op m v ex al) {g j : Nat} (hg : b ≠ g) (u : Value) : RnAt (w.setCell ⟨g, j, none⟩ u) b page op m v ex al := (heap_setCell_other w ⟨g, j, none⟩ b u hg).trans h
end
def ratT (page : Int) (op : Nat) : Option En := if 0 ≤ page ∧ page ≤ 6 then atN page.toNat op else none
def rkindT (page : Int) (op : Nat) : Int := if page = 0 then 2 else if page = 2 then 3 else if (page = 3 ∨ page = 4) ∧ op = 203 then 2 else 0
def RetRAt (w : World) (page op : Int) (kd : Int) (x : Option En) (e : Ending) (w' : World) : Prop :=
  (match x with
    | some x => ∃ v, e = .returned (.tuple #[enV page op x.1 v x.2.2.1 x.2.2.2, .int .i64 1]) ∧ OwnT w' w.heap.size v x.2.1
    | none => e = .returned (.tuple #[enV 0 0 [] (.slice none 0 0) [] false, .int .i64 kd])) ∧ Below w.heap.size w w'
theorem listS_no {page : Int} (h : ¬ (0 ≤ page ∧ page ≤ 6)) : listS page = [] := by
  unfold listS
  rw [if_neg (by omega), if_neg (by omega), if_neg (by omega)]
theorem ratT_no {page : Int} (h : ¬ (0 ≤ page ∧ page ≤ 6)) (op : Nat) : ratT page op = none := by
  unfold ratT
  rw [if_neg h]
theorem at_same (page : Int) (n : Nat) (hn : n < 256) : atT page (n : Int) = ratT page n := by
  by_cases hp : 0 ≤ page ∧ page ≤ 6
  · obtain ⟨g, rfl⟩ : ∃ g : Nat, page = (g : Int) := ⟨page.toNat, by omega⟩
    unfold ratT
    rw [if_pos hp, atN_eq g n hn]
    rfl
  · rw [ratT_no hp]
    unfold atT findP
    rw [listS_no hp]
    rfl
open Go.Ev in
def flatT : List Tr → List AC
  | [] => []
  | x :: t => .int .i64 x.1 :: .int .i64 x.2.1 :: .int .i64 x.2.2 :: flatT t
open Go.Ev in
theorem flatT_length : ∀ L : List Tr, (flatT L).length = L.length * 3
  | [] => rfl
  | x :: t => by
    have h := flatT_length t
    show (flatT t).length + 1 + 1 + 1 = (t.length + 1) * 3
    omega
open Go.Ev in
theorem flatT_rel (ρ : Ev.Ren) : ∀ {L : List Tr} {vs : List Value}, R2 ρ (flatT L) vs → vs = cellsT L
  | [], vs, h => h
  | x :: t, vs, ⟨v1, u1, h1, r1, v2, u2, h2, r2, v3, u3, h3, r3, h4⟩ => by
    rw [h1, h2, h3, flatT_rel ρ h4, show v1 = _ from r1, show v2 = _ from r2, show v3 = _ from r3]
    rfl
open Go.Ev in
def okArgs (δ : Hp) (a : AC) (L : List Tr) : Bool := match a with
  | .nils => L.isEmpty
  | .sl b 0 l c => Nat.beq l L.length && match Ev.look δ b with
    | some ob => Nat.beq ob.t 68 && Ev.cellsB (ob.c.take (l * 3)) (flatT L) && match c, ob.s with
      | some cc, none => Nat.beq ob.c.length (cc * 3) && Nat.ble l cc && Nat.ble cc 1000
      | none, some 3 => true
      | _, _ => false
    | none => false
  | _ => false
open Go.Ev in
theorem okArgs_own {δ : Hp} {a : AC} {L : List Tr} (h : okArgs δ a L = true) {w w' : World} {ρ : Ev.Ren} (hs : HR w ρ δ w') {v : Value} (hv : a.rel ρ v) : OwnT w' w.heap.size v L := by
  unfold okArgs at h
  split at h
  · have hL : L = [] := by simpa using h
    subst hL
    rw [show v = _ from hv]
    exact World.ownsRow_nil _ _ _ _
  · rename_i b l c
    rw [Bool.and_eq_true] at h
    obtain ⟨h1, h⟩ := h
    have h1 := Nat.eq_of_beq_eq_true h1
    split at h
    · rename_i ob hob
      rw [Bool.and_eq_true, Bool.and_eq_true] at h
      obtain ⟨⟨h2, h3⟩, h4⟩ := h
      have h2 := Nat.eq_of_beq_eq_true h2
      have h3 := Ev.cellsB_eq h3
      obtain ⟨k, cp, hk, rfl⟩ := hv
      obtain ⟨k', cp', e', hk2, cur, hcur, hc, hz⟩ := hs.obj b ob hob
      rw [hk] at e'
      cases e'
      have hlen : (ob.c.take (l * 3)).length = l * 3 := by rw [h3, flatT_length, h1]
      have hoc : l * 3 ≤ ob.c.length := by rw [List.length_take] at hlen; omega
      have hcs : l * 3 ≤ cur.size := by
        rcases Nat.eq_zero_or_pos (l * 3) with h0 | h0
        · omega
        · obtain ⟨v, k1, -⟩ := hc (l * 3 - 1) _ (List.getElem?_eq_getElem (by omega))
          have := (Array.getElem?_eq_some_iff.1 k1).1
          omega
      have htk : cur.toList.take (l * 3) = cellsT L := by
        refine flatT_rel ρ ?_
        rw [← h3]
        refine R2.of_at (by rw [hlen, List.length_take, Array.length_toList]; omega) fun i x hx => ?_
        have hi : i < l * 3 := by
          have := (List.getElem?_eq_some_iff.1 hx).1
          rw [hlen] at this
          exact this
        rw [List.getElem?_take, if_pos hi] at hx
        obtain ⟨v, k1, k2⟩ := hc _ _ hx
        exact ⟨v, by rw [List.getElem?_take, if_pos hi, Array.getElem?_toList]; exact k1, k2⟩
      rw [h2] at hcur
      have fin : l ≤ c.getD cp ∧ c.getD cp ≤ maxLen ∧ cur.size = c.getD cp * 3 := by
        split at h4
        · rename_i cc e1
          rw [Bool.and_eq_true, Bool.and_eq_true] at h4
          have q1 := Nat.eq_of_beq_eq_true h4.1.1
          have q2 := Nat.le_of_ble_eq_true h4.1.2
          have q3 := Nat.le_of_ble_eq_true h4.2
          rw [e1] at hz
          have hz : cur.size = ob.c.length := hz
          refine ⟨q2, ?_, by rw [hz, q1]; rfl⟩
          show cc ≤ maxLen
          unfold maxLen
          omega
        · rename_i e1
          rw [e1] at hz
          obtain ⟨z1, z2⟩ := hz
          exact ⟨by show l ≤ cp; omega, z2, z1⟩
        · cases h4
      rw [h1] at *
      exact ⟨cellsT_length L, .inr ⟨k, c.getD cp, cur, rfl, hk2, hcur, fin.1, fin.2.1, fin.2.2, htk⟩⟩
    · cases h
  · cases h
def boolB : Bool → Bool → Bool
  | true, true => true
  | false, false => true
  | _, _ => false
theorem boolB_eq {a b : Bool} (h : boolB a b = true) : a = b := by cases a <;> cases b <;> first | rfl | cases h
open Go.Ev in
def okEnt (δ : Hp) (g n : Nat) (a b : Int) (m : List UInt8) (s : AC) (ex : List UInt8) (al : Bool) (kd : Int) : Option En → Bool
  | some x => Ev.intB a g && (Ev.intB b n && (Ev.strB m x.1 && (okArgs δ s x.2.1 && (Ev.strB ex x.2.2.1 && (boolB al x.2.2.2 && Ev.intB kd 1)))))
  | none => Ev.intB a 0 && (Ev.intB b 0 && (Ev.strB m [] && (okArgs δ s [] && (match s with | .nils => true | _ => false) && (Ev.strB ex [] && (boolB al false && Ev.intB kd (rkindT g n))))))
open Go.Ev in
def okAt (P : Program) (g n : Nat) : Bool := match evCall P 200 8 8 [⟨false, [.int .i64 (g : Int)]⟩, ⟨false, [.int .u8 (n : Int)]⟩] [] 1 with
  | some (.tup [⟨true, [.int .i64 a, .int .u8 b, .str m, s, .str ex, .bool al]⟩, ⟨false, [.int .i64 kd]⟩], δ) => okEnt δ g n a b m s ex al kd (atN g n)
  | _ => false
def okAll (P : Program) (g lo cnt : Nat) : Bool := (List.range cnt).all fun i => okAt P g (lo + i)
theorem okAll_at {P : Program} {g lo cnt : Nat} (h : okAll P g lo cnt = true) (n : Nat) (h1 : lo ≤ n) (h2 : n < lo + cnt) : okAt P g n = true := by
  have := List.all_eq_true.1 h (n - lo) (List.mem_range.2 (by omega))
  rwa [show lo + (n - lo) = n by omega] at this
open Go.Ev in
theorem okAt_calls {g n : Nat} (hg : g ≤ 6) (h : okAt Tryz.prog g n = true) (w : World) : Calls Tryz.prog 8 #[.int .i64 (g : Int), .int .u8 (n : Int)] w (RetRAt w g n (rkindT g n) (ratT g n)) := by
  unfold okAt at h
  split at h
  · rename_i a b m s ex al kd δ he
    refine (run_call he (us := [.int .i64 (g : Int), .int .u8 (n : Int)]) ⟨_, _, rfl, ⟨_, rfl, rfl⟩, _, _, rfl, ⟨_, rfl, rfl⟩, rfl⟩ w).mono ?_
    rintro e w' ⟨u, ρ, rfl, ⟨vs, rfl, v1, u1, hvs, ⟨cs, rfl, c1, r1, hcs, q1, c2, r2, rfl, q2, c3, r3, rfl, q3, c4, r4, rfl, q4, c5, r5, rfl, q5, c6, r6, rfl, q6, rfl⟩, v2, u2, rfl, ⟨c7, e7, q7⟩, rfl⟩, hs⟩
    cases e7
    have hr : ratT g n = atN g n := by unfold ratT; rw [if_pos (by omega)]; rfl
    have hcs : cs = #[c1, c2, c3, c4, c5, c6] := Array.ext' hcs
    have hvs : vs = #[.agg cs, v2] := Array.ext' hvs
    rw [hr]
    subst hcs; subst hvs
    rw [show c1 = _ from q1, show c2 = _ from q2, show c3 = _ from q3, show c5 = _ from q5, show c6 = _ from q6, show v2 = _ from q7]
    refine ⟨?_, hs.below⟩
    cases hx : atN g n with
    | some x =>
      rw [hx] at h
      simp only [okEnt, Bool.and_eq_true] at h
      obtain ⟨h1, h2, h3, h4, h5, h6, h7⟩ := h
      rw [Ev.intB_eq h1, Ev.intB_eq h2, Ev.strB_eq h3, Ev.strB_eq h5, boolB_eq h6, Ev.intB_eq h7]
      exact ⟨c4, rfl, okArgs_own h4 hs q4⟩
    | none =>
      rw [hx] at h
      simp only [okEnt, Bool.and_eq_true] at h
      obtain ⟨h1, h2, h3, ⟨h4, h8⟩, h5, h6, h7⟩ := h
      rw [Ev.intB_eq h1, Ev.intB_eq h2, Ev.strB_eq h3, Ev.strB_eq h5, boolB_eq h6, Ev.intB_eq h7]
      split at h8
      · rw [show c4 = _ from q4]; rfl
      · cases h8
  · cases h
end Go.Proofs.YtbbpkoaeedkncaaGreatDoor
namespace Go.Proofs.YtbbpkoaeedkncaaGreatDoor
open Go.RowKit Go.Shelf
attribute [local irreducible] Go.Mixed.wpMix
structure Ee where
  g : Int
  o : Int
  m : Str
  A : Option Addr
  cap : Nat
  L : List Tr
  ex : Str
  al : Bool
instance : Inhabited Ee := ⟨⟨0, 0, [], none, 0, [], [], false⟩⟩
def Ee.v (r : Ee) : Value := .slice r.A r.L.length r.cap
abbrev Ke := Int × Int × Str × List Tr × Str × Bool
def Ee.k (r : Ee) : Ke := (r.g, r.o, r.m, r.L, r.ex, r.al)
def Ee.c (r : Ee) : List Value := [.int .i64 r.g, .int .u8 r.o, .string (sB r.m), r.v, .string (sB r.ex), .bool r.al]
def cellsX : List Ee → List Value
  | [] => []
  | r :: t => .int .i64 r.g :: .int .u8 r.o :: .string (sB r.m) :: r.v :: .string (sB r.ex) :: .bool r.al :: cellsX t
theorem cellsX_length : ∀ R : List Ee, (cellsX R).length = R.length * 6
  | [] => rfl
  | r :: t => by
    have h := cellsX_length t
    show (cellsX t).length + 1 + 1 + 1 + 1 + 1 + 1 = (t.length + 1) * 6
    omega
theorem cellsX_append : ∀ a b : List Ee, cellsX (a ++ b) = cellsX a ++ cellsX b
  | [], b => rfl
  | x :: t, b => by
    show _ :: _ :: _ :: _ :: _ :: _ :: cellsX (t ++ b) = _ :: _ :: _ :: _ :: _ :: _ :: (cellsX t ++ cellsX b)
    rw [cellsX_append t b]
theorem cellsX_at : ∀ (R : List Ee) (j : Nat) (h : j < R.length), (cellsX R)[j * 6]? = some (.int .i64 R[j].g) ∧ (cellsX R)[j * 6 + 1]? = some (.int .u8 R[j].o) ∧ (cellsX R)[j * 6 + 2]? = some (.string (sB R[j].m)) ∧ (cellsX R)[j * 6 + 3]? = some R[j].v ∧ (cellsX R)[j * 6 + 4]? = some (.string (sB R[j].ex)) ∧ (cellsX R)[j * 6 + 5]? = some (.bool R[j].al)
  | x :: t, 0, h => ⟨rfl, rfl, rfl, rfl, rfl, rfl⟩
  | x :: t, j + 1, h => by
    obtain ⟨h1, h2, h3, h4, h5, h6⟩ := cellsX_at t j (by simpa using h)
    have e : cellsX (x :: t) = .int .i64 x.g :: .int .u8 x.o :: .string (sB x.m) :: x.v :: .string (sB x.ex) :: .bool x.al :: cellsX t := rfl
    rw [e, show (j + 1) * 6 = j * 6 + 1 + 1 + 1 + 1 + 1 + 1 by omega, show j * 6 + 1 + 1 + 1 + 1 + 1 + 1 + 1 = (j * 6 + 1) + 1 + 1 + 1 + 1 + 1 + 1 by omega, show j * 6 + 1 + 1 + 1 + 1 + 1 + 1 + 2 = (j * 6 + 2) + 1 + 1 + 1 + 1 + 1 + 1 by omega, show j * 6 + 1 + 1 + 1 + 1 + 1 + 1 + 3 = (j * 6 + 3) + 1 + 1 + 1 + 1 + 1 + 1 by omega, show j * 6 + 1 + 1 + 1 + 1 + 1 + 1 + 4 = (j * 6 + 4) + 1 + 1 + 1 + 1 + 1 + 1 by omega, show j * 6 + 1 + 1 + 1 + 1 + 1 + 1 + 5 = (j * 6 + 5) + 1 + 1 + 1 + 1 + 1 + 1 by omega]
    simp only [List.getElem?_cons_succ, List.getElem_cons_succ]
    exact ⟨h1, h2, h3, h4, h5, h6⟩
theorem cellsX_one : ∀ (R : List Ee), ∀ u ∈ cellsX R, u.oneCell' = true
  | [], u, h => by cases h
  | x :: t, u, h => by
    have e : cellsX (x :: t) = .int .i64 x.g :: .int .u8 x.o :: .string (sB x.m) :: x.v :: .string (sB x.ex) :: .bool x.al :: cellsX t := rfl
    rw [e] at h
    simp only [List.mem_cons] at h
    rcases h with rfl | rfl | rfl | rfl | rfl | rfl | h
    · rfl
    · rfl
    · rfl
    · rfl
    · rfl
    · rfl
    · exact cellsX_one t u h
theorem cellsX_take6 (R : List Ee) (j : Nat) (u : Value) (hu : (cellsX R)[j]? = some u) : ∃ (k : Nat) (h : k < R.length) (i : Nat), i < 6 ∧ j = k * 6 + i ∧ (R[k].c)[i]? = some u := by
  have hj : j < R.length * 6 := by
    rw [← cellsX_length]
    exact (List.getElem?_eq_some_iff.1 hu).1
  have hk : j / 6 < R.length := by omega
  obtain ⟨h1, h2, h3, h4, h5, h6⟩ := cellsX_at R (j / 6) hk
  refine ⟨j / 6, hk, j % 6, by omega, by omega, ?_⟩
  have : j % 6 = 0 ∨ j % 6 = 1 ∨ j % 6 = 2 ∨ j % 6 = 3 ∨ j % 6 = 4 ∨ j % 6 = 5 := by omega
  rcases this with h | h | h | h | h | h
  all_goals rw [h]
  · exact (show _ = _ from h1.symm).trans ((congrArg (fun z => (cellsX R)[z]?) (by omega : j / 6 * 6 = j)).trans hu)
  · exact (show _ = _ from h2.symm).trans ((congrArg (fun z => (cellsX R)[z]?) (by omega : j / 6 * 6 + 1 = j)).trans hu)
  · exact (show _ = _ from h3.symm).trans ((congrArg (fun z => (cellsX R)[z]?) (by omega : j / 6 * 6 + 2 = j)).trans hu)
  · exact (show _ = _ from h4.symm).trans ((congrArg (fun z => (cellsX R)[z]?) (by omega : j / 6 * 6 + 3 = j)).trans hu)
  · exact (show _ = _ from h5.symm).trans ((congrArg (fun z => (cellsX R)[z]?) (by omega : j / 6 * 6 + 4 = j)).trans hu)
  · exact (show _ = _ from h6.symm).trans ((congrArg (fun z => (cellsX R)[z]?) (by omega : j / 6 * 6 + 5 = j)).trans hu)
def EsP (w : World) (A : Option Addr) (R : List Ee) : Prop :=
  R = [] ∨ ∃ b off, A = some ⟨b, off, none⟩ ∧ ∀ k (h : k < R.length), (∀ i u, (R[k].c)[i]? = some u → w.cell? ⟨b, off + (k * 6 + i), none⟩ = some u) ∧ OpsP w R[k].A R[k].L
theorem EsP.at_ {w : World} {A : Option Addr} {R : List Ee} (h : EsP w A R) {k : Nat} (hk : k < R.length) : ∃ b off, A = some ⟨b, off, none⟩ ∧ b < w.heap.size ∧ w.cell? ⟨b, off + k * 6, none⟩ = some (.int .i64 R[k].g) ∧ w.cell? ⟨b, off + k * 6 + 1, none⟩ = some (.int .u8 R[k].o) ∧ w.cell? ⟨b, off + k * 6 + 2, none⟩ = some (.string (sB R[k].m)) ∧ w.cell? ⟨b, off + k * 6 + 3, none⟩ = some R[k].v ∧ w.cell? ⟨b, off + k * 6 + 4, none⟩ = some (.string (sB R[k].ex)) ∧ w.cell? ⟨b, off + k * 6 + 5, none⟩ = some (.bool R[k].al) ∧ OpsP w R[k].A R[k].L := by
  rcases h with rfl | ⟨b, off, rfl, hc⟩
  · simp at hk
  · obtain ⟨h1, h2⟩ := hc k hk
    have e : ∀ i u, (R[k].c)[i]? = some u → w.cell? ⟨b, off + k * 6 + i, none⟩ = some u := fun i u hu => by rw [Nat.add_assoc]; exact h1 i u hu
    exact ⟨b, off, rfl, World.block_lt_of_cell? w _ (e 0 _ rfl), e 0 _ rfl, e 1 _ rfl, e 2 _ rfl, e 3 _ rfl, e 4 _ rfl, e 5 _ rfl, h2⟩
theorem EsP.below {w w' : World} {A : Option Addr} {R : List Ee} (h : EsP w A R) (hb : Below w.heap.size w w') : EsP w' A R := by
  rcases h with rfl | ⟨b, off, rfl, hc⟩
  · exact .inl rfl
  · refine .inr ⟨b, off, rfl, fun k hk => ⟨fun i u hu => ?_, (hc k hk).2.below hb⟩⟩
    have hp := (hc k hk).1 i u hu
    exact (hb.cell (World.block_lt_of_cell? w _ hp)).trans hp
theorem EsP.news {w : World} {A : Option Addr} {R : List Ee} (h : EsP w A R) : R.length = 0 ∨ ∃ a, A = some a ∧ ∀ j u, (cellsX R)[j]? = some u → w.cell? (a.add j) = some u := by
  rcases h with rfl | ⟨b, off, rfl, hc⟩
  · exact .inl rfl
  · refine .inr ⟨_, rfl, fun j u hu => ?_⟩
    have hadd : (⟨b, off, none⟩ : Addr).add j = ⟨b, off + j, none⟩ := by unfold Addr.add; split <;> simp_all
    rw [hadd]
    obtain ⟨k, hk, i, hi, rfl, e⟩ := cellsX_take6 R j u hu
    exact (hc k hk).1 i u e
def OwnXR (w : World) (n : Nat) (v : Value) (R : List Ee) : Prop := w.ownsRow n 29 6 v R.length (cellsX R) ∧ ∀ r ∈ R, OwnT w n r.v r.L
theorem OwnXR.below {w w' : World} {n : Nat} {v : Value} {R : List Ee} (h : OwnXR w n v R) (k : Below w.heap.size w w') : OwnXR w' n v R :=
  ⟨World.ownsRow.kept h.1 (row := none) ⟨k.os, k.tape, k.output, k.size, fun i hi _ => k.block i hi⟩ (by
    cases e : v.ownBlock with
    | none => exact .inl rfl
    | some g => exact .inr (by simp)), fun r hr => (h.2 r hr).below k⟩
theorem OwnXR.lift {w : World} {n m : Nat} {v : Value} {R : List Ee} (h : OwnXR w n v R) (k : m ≤ n) : OwnXR w m v R := ⟨row_mono h.1 k, fun r hr => (h.2 r hr).lift k⟩
theorem OwnXR.es {w : World} {n : Nat} {v : Value} {R : List Ee} (h : OwnXR w n v R) : ∃ A cap, v = .slice A R.length cap ∧ EsP w A R ∧ R.length ≤ cap := by
  rcases h.1.2 with ⟨rfl, h0⟩ | ⟨g, cap, cur, rfl, _, _, hle, _⟩
  · have : R = [] := List.eq_nil_of_length_eq_zero h0
    subst this
    exact ⟨none, 0, rfl, .inl rfl, Nat.le_refl _⟩
  · refine ⟨_, cap, rfl, .inr ⟨g, 0, rfl, fun k hk => ⟨fun i u hu => ?_, ?_⟩⟩, hle⟩
    · rw [Nat.zero_add]
      have hi : i < 6 := by
        have := (List.getElem?_eq_some_iff.1 hu).1
        exact this
      obtain ⟨h1, h2, h3, h4, h5, h6⟩ := cellsX_at R k hk
      have hc : (cellsX R)[k * 6 + i]? = some u := by
        have : i = 0 ∨ i = 1 ∨ i = 2 ∨ i = 3 ∨ i = 4 ∨ i = 5 := by omega
        rcases this with rfl | rfl | rfl | rfl | rfl | rfl
        · exact h1.trans hu
        · exact h2.trans hu
        · exact h3.trans hu
        · exact h4.trans hu
        · exact h5.trans hu
        · exact h6.trans hu
      exact (World.ownsRow.cellAt h.1 _ (by omega)).trans hc
    · obtain ⟨A', c', e, hP, -⟩ := (h.2 _ (List.getElem_mem hk)).ops
      simp only [Ee.v, Value.slice.injEq] at e
      rw [e.1]; exact hP
theorem info_enT : (Tryz.prog.info? 26).map (fun i => (i.zero, i.size, i.bytes)) = some (some (.agg #[.int .i64 0, .int .u8 0, .string ⟨#[]⟩, .slice none 0 0, .string ⟨#[]⟩, .bool false]), 6, 80) := by kernel_rfl
def OwnXT (w : World) (n : Nat) (v : Value) (R : List Ee) : Prop := w.ownsRow n 26 6 v R.length (cellsX R) ∧ ∀ r ∈ R, OwnT w n r.v r.L
theorem OwnXT.below {w w' : World} {n : Nat} {v : Value} {R : List Ee} (h : OwnXT w n v R) (k : Below w.heap.size w w') : OwnXT w' n v R :=
  ⟨World.ownsRow.kept h.1 (row := none) ⟨k.os, k.tape, k.output, k.size, fun i hi _ => k.block i hi⟩ (by
    cases e : v.ownBlock with
    | none => exact .inl rfl
    | some g => exact .inr (by simp)), fun r hr => (h.2 r hr).below k⟩
theorem OwnXT.lift {w : World} {n m : Nat} {v : Value} {R : List Ee} (h : OwnXT w n v R) (k : m ≤ n) : OwnXT w m v R := ⟨row_mono h.1 k, fun r hr => (h.2 r hr).lift k⟩
theorem OwnXT.es {w : World} {n : Nat} {v : Value} {R : List Ee} (h : OwnXT w n v R) : ∃ A cap, v = .slice A R.length cap ∧ EsP w A R ∧ R.length ≤ cap := by
  rcases h.1.2 with ⟨rfl, h0⟩ | ⟨g, cap, cur, rfl, _, _, hle, _⟩
  · have : R = [] := List.eq_nil_of_length_eq_zero h0
    subst this
    exact ⟨none, 0, rfl, .inl rfl, Nat.le_refl _⟩
  · refine ⟨_, cap, rfl, .inr ⟨g, 0, rfl, fun k hk => ⟨fun i u hu => ?_, ?_⟩⟩, hle⟩
    · rw [Nat.zero_add]
      have hi : i < 6 := by
        have := (List.getElem?_eq_some_iff.1 hu).1
        exact this
      obtain ⟨h1, h2, h3, h4, h5, h6⟩ := cellsX_at R k hk
      have hc : (cellsX R)[k * 6 + i]? = some u := by
        have : i = 0 ∨ i = 1 ∨ i = 2 ∨ i = 3 ∨ i = 4 ∨ i = 5 := by omega
        rcases this with rfl | rfl | rfl | rfl | rfl | rfl
        · exact h1.trans hu
        · exact h2.trans hu
        · exact h3.trans hu
        · exact h4.trans hu
        · exact h5.trans hu
        · exact h6.trans hu
      exact (World.ownsRow.cellAt h.1 _ (by omega)).trans hc
    · obtain ⟨A', c', e, hP, -⟩ := (h.2 _ (List.getElem_mem hk)).ops
      simp only [Ee.v, Value.slice.injEq] at e
      rw [e.1]; exact hP
theorem ownXT_nil (w : World) (n : Nat) : OwnXT w n (.slice none 0 0) [] := ⟨World.ownsRow_nil _ _ _ _, fun r hr => absurd hr List.not_mem_nil⟩
theorem run_appXT (w : World) (B : Nat) (v : Value) (R : List Ee) (h : OwnXT w B v R) (A : Option Addr) (c : Nat) (R2 : List Ee) (hP : EsP w A R2) (hO : ∀ r ∈ R2, OwnT w B r.v r.L) (hB : B ≤ w.heap.size) (hs : R.length + R2.length ≤ 100000) :
    ∃ v' w', (Builtin.append_ #[125, 125] 125 #[v, .slice A R2.length c]).run Tryz.prog w = .ok v' w' ∧ OwnXT w' B v' (R ++ R2) ∧ Below B w w' ∧ w.grownBy w' v.ownBlock := by
  obtain ⟨i0, hi, hz0, hz1, hz2⟩ := info_parts info_enT
  obtain ⟨v', w', k1, k2, k3⟩ := run_append_src w B 125 125 26 i0 _ 6 80 Tryz.underlying125 hi hz0 hz1 hz2 rfl (by decide) v R.length (cellsX R) h.1 A R2.length c (cellsX R2)
    (cellsX_length R2) hP.news (cellsX_one R2) (by unfold maxLen; omega) (by omega) hB
  have hty : ∀ q, v.ownBlock = some q → ∀ cur fz, w.heap[q]? ≠ some (.cells cur 68 fz) := fun q hq cur fz hx => by
    rcases h.1.2 with ⟨rfl, _⟩ | ⟨g', cap, cur', rfl, _, hg, _⟩
    · simp [Value.ownBlock] at hq
    · simp only [Value.ownBlock, Option.some.injEq] at hq
      subst hq
      rw [hx] at hg
      simp at hg
  have kept : ∀ {u : Value} {L : List Tr}, OwnT w B u L → OwnT w' B u L := fun {u L} ho => World.ownsRow.kept ho k3 (by
    cases e : u.ownBlock with
    | none => exact .inl rfl
    | some q =>
      refine .inr fun e' => ?_
      obtain ⟨cur, hc⟩ := own_types ho e
      exact hty q e'.symm _ _ hc)
  refine ⟨v', w', k1, ⟨?_, fun r hr => ?_⟩, (Below.refl B w).grown k3 hB fun k hk => (World.ownsRow.lt h.1 k hk).1, k3⟩
  · rw [cellsX_append, List.length_append]
    exact k2
  · rcases List.mem_append.1 hr with hr | hr
    · exact kept (h.2 r hr)
    · exact kept (hO r hr)
theorem es_oneT (w : World) (r : Ee) (hP : OpsP w r.A r.L) : EsP (w.alloc (.cells #[.int .i64 r.g, .int .u8 r.o, .string (sB r.m), r.v, .string (sB r.ex), .bool r.al] 26)) (some ⟨w.heap.size, 0, none⟩) [r] := by
  refine .inr ⟨_, _, rfl, fun k hk => ?_⟩
  obtain rfl : k = 0 := by simp at hk; omega
  refine ⟨fun i u hu => ?_, hP.below (up_alloc _ _)⟩
  rw [Nat.zero_add, Nat.zero_mul, Nat.zero_add, Lib.cell_of_heap (heap_alloc_new w _)]
  have : i = 0 ∨ i = 1 ∨ i = 2 ∨ i = 3 ∨ i = 4 ∨ i = 5 := by
    have h : i < 6 := (List.getElem?_eq_some_iff.1 hu).1
    omega
  rcases this with rfl | rfl | rfl | rfl | rfl | rfl <;> exact hu
end Go.Proofs.YtbbpkoaeedkncaaGreatDoor
namespace Go.Proofs.YtbbpkoaeedkncaaGreatDoor
open Go.RowKit Go.Shelf
attribute [local go_sem] Oper.semAt_some
theorem codes_any (l : Str) (w : World) :
    Calls Tryz.prog 130 #[.string (sB l)] w fun e w' => e = .returned (.func (.func 144) #[] #[.pointer (some ⟨w.heap.size, 0, none⟩)]) ∧ w.alloc (.cells #[.string (sB l)] 9) = w' := by
  go_enter Tryz.func130, Tryz.ntmps130
  go_wp2
  go_ret
  exact ⟨rfl, rfl⟩
theorem mnemonic_any (p : Pat) (op : Int) (G : Good p op) (w : World) (hM : MaxAt w) :
    Calls Tryz.prog 131 #[codeV p op] w fun e w' => e = .returned (.string (sB (wordsT p op).1)) ∧ Below w.heap.size w w' := by
  have hw := fun w' (h : MaxAt w') => words_any p G.len (by have := G.form; omega) op G.op0 G.op1 G.na G.no w' h
  unfold codeV at hw ⊢
  have hb := up_alloc w (.cells #[.string (sB p.1), .string (sB p.2), .int .u8 op] 57)
  have hw := hw _ (hM.below hb)
  have HB := Lib.hid hb
  clear hM hb G
  go_enter Tryz.func131, Tryz.ntmps131
  go_wp2_with fail
  refine hw.mono ?_
  rintro e w' ⟨rfl, hb2⟩
  have HB2 : Hid (Below w.heap.size w w') := HB.out.trans (hb2.mono (by simp))
  clear hw hb2
  go_wp2
  go_ret
  exact ⟨rfl, HB2.out⟩
theorem sB_eq_dec (a b : Str) : ((sB a).toList == (sB b).toList) = decide (a = b) := by
  rw [ByteArray.toList_eq, ByteArray.toList_eq]
  show (a == b) = _
  by_cases h : a = b
  · rw [h, decide_eq_true rfl]
    exact beq_self_eq_true _
  · rw [decide_eq_false h]
    exact beq_false_of_ne h
theorem wantOne_any (m op : Str) (Bo : Nat) (w : World) (hb : Boxed w Bo 9 (.string (sB op))) : Calls Tryz.prog 108 #[.string (sB m), .pointer (some ⟨Bo, 0, none⟩)] w fun e w' => e = .returned (.bool (decide (m = op))) ∧ w' = w := by
  have hc := hb.cell
  rw [← sB_eq_dec]
  go_enter Tryz.func108, Tryz.ntmps108
  go_wp2
  go_ret
  exact ⟨rfl, rfl⟩
def keyE (page op : Int) : Option En → List Ke
  | some y => [(page, op, y.1, y.2.1, y.2.2.1, y.2.2.2)]
  | none => []
def keyC (wnt : Str → Bool) (page : Int) (x : Pat × Int) : List Ke := if wnt (wordsT x.1 x.2).1 = true then keyE page x.2 (entryT x.1 page x.2) else []
def keysC (wnt : Str → Bool) (page : Int) (xs : List (Pat × Int)) : List Ke := xs.flatMap (keyC wnt page)
theorem keysC_snoc (wnt : Str → Bool) (page : Int) (xs : List (Pat × Int)) (x : Pat × Int) : keysC wnt page (xs ++ [x]) = keysC wnt page xs ++ keyC wnt page x := by
  unfold keysC
  rw [List.flatMap_append]
  simp
def keysPg (wnt : Str → Bool) (page : Int) : List Ke := keysC wnt page (codesK (patsOf (listS page)) 256)
def keysAll (wnt : Str → Bool) (pages : List Int) : List Ke := pages.flatMap (keysPg wnt)
theorem keysAll_snoc (wnt : Str → Bool) (xs : List Int) (x : Int) : keysAll wnt (xs ++ [x]) = keysAll wnt xs ++ keysPg wnt x := by
  unfold keysAll
  rw [List.flatMap_append]
  simp
def IntsP (w : World) (A : Option Addr) (L : List Int) : Prop := L = [] ∨ ∃ b off, A = some ⟨b, off, none⟩ ∧ ∀ k (h : k < L.length), w.cell? ⟨b, off + k, none⟩ = some (.int .i64 L[k])
theorem IntsP.below {w w' : World} {A : Option Addr} {L : List Int} (h : IntsP w A L) (hb : Below w.heap.size w w') : IntsP w' A L := by
  rcases h with rfl | ⟨b, off, rfl, hc⟩
  · exact .inl rfl
  · exact .inr ⟨b, off, rfl, fun k hk => (hb.cell (World.block_lt_of_cell? w _ (hc k hk))).trans (hc k hk)⟩
theorem fst_mem {ps : List Pat} {i : Nat} (h : (fstF ps i).1 ≠ []) : fstF ps i ∈ ps := by
  unfold fstF at h ⊢
  cases hf : ps.find? fun p => fitsP p.1 (i : Int) with
  | none => rw [hf] at h; exact absurd rfl h
  | some q => exact List.mem_of_find?_eq_some hf
theorem isCode_mem {ps : List Pat} {x : Pat × Int} (h : IsCode ps x) : x.1 ∈ ps := by
  rw [← h.1]
  exact fst_mem (by rw [h.1]; exact h.2.1)
theorem pages_ok (page : Int) : ∀ p ∈ patsOf (listS page), p ∈ mainP ++ cbP ++ edP := fun p hp => by
  rw [patsOf_page] at hp
  exact page_mem hp
end Go.Proofs.YtbbpkoaeedkncaaGreatDoor
