/-
  search.hasEntry: does a canonical form have an entry.
-/
import Derived.Test.YtajlleeonddinaaGreatDoorGAV
set_option linter.all false
set_option maxRecDepth 100000
set_option maxHeartbeats 4000000
namespace Go.Proofs.YtajlleeonddinaaGreatDoor
open Go.RowKit Go.Shelf
attribute [local go_sem] Oper.semAt_some
attribute [local irreducible] Go.Mixed.wpMixT
attribute [local irreducible] Go.Mixed.wpMix
theorem fin_ins {W:World} {c n:Nat} (hcn:n<c) (AL:W.heap[c]?=some (.cells #[.string ⟨#[]⟩,.slice none 0 0] 24 (0,0))) {A2:Option Addr} {L2:List Tr} (h:OpsP W A2 L2) {Af:Option Addr} {C:List Tr} (k:OpsP W Af C) {o:Obj} (hn:W.heap[n]?=some o) (u:ByteArray) (A3:Option Addr) (n2 c2:Nat) :
  ((W.setCell ⟨c,0,none⟩ (.string u)).setCell ⟨c,1,none⟩ (.slice A3 n2 c2)).heap[c]?=some (.cells #[.string u,.slice A3 n2 c2] 24 (0,0))∧OpsP ((W.setCell ⟨c,0,none⟩ (.string u)).setCell ⟨c,1,none⟩ (.slice A3 n2 c2)) A2 L2∧OpsP ((W.setCell ⟨c,0,none⟩ (.string u)).setCell ⟨c,1,none⟩ (.slice A3 n2 c2)) Af C∧
   ((W.setCell ⟨c,0,none⟩ (.string u)).setCell ⟨c,1,none⟩ (.slice A3 n2 c2)).heap[n]?=some o∧Below n W ((W.setCell ⟨c,0,none⟩ (.string u)).setCell ⟨c,1,none⟩ (.slice A3 n2 c2))∧∀ k,k≠c→((W.setCell ⟨c,0,none⟩ (.string u)).setCell ⟨c,1,none⟩ (.slice A3 n2 c2)).heap[k]?=W.heap[k]?:=by
 have a1:(W.setCell ⟨c,0,none⟩ (.string u)).heap[c]?=some (.cells #[.string u,.slice none 0 0] 24 (0,0)):=heap_setCell_same W c 0 _ _ _ AL
 refine ⟨heap_setCell_same _ c 1 _ _ _ a1,(h.put_ins AL _ _).put_ins a1 _ _,(k.put_ins AL _ _).put_ins a1 _ _,?_,?_,fun k hk=>(heap_setCell_other _ ⟨c,1,none⟩ k _ hk).trans (heap_setCell_other _ ⟨c,0,none⟩ k _ hk)⟩
 ·exact (heap_setCell_other _ ⟨c,1,none⟩ n _ (by simp;omega)).trans ((heap_setCell_other _ ⟨c,0,none⟩ n _ (by simp;omega)).trans hn)
 ·exact ((Below.refl n W).setCell (p:=⟨c,0,none⟩) (Nat.le_of_lt hcn) _).setCell (p:=⟨c,1,none⟩) (Nat.le_of_lt hcn) _
def hasO (m:Str) (s:ByteArray) (C:List Tr):Option (List Tr)→Bool
 | some L2=>decide (sB m=s)&&decide (L2=C)
 | none=>false
theorem hasV_O (m:Str) (L:List Tr) (ex:Str) (s:ByteArray) (C:List Tr):hasV m L ex s C=hasO m s C (fillV ex L (numV (varsV ex).1.1 C) (numV (varsV ex).2.1 C)):=by
 unfold hasV
 cases fillV ex L (numV (varsV ex).1.1 C) (numV (varsV ex).2.1 C) <;> rfl
theorem hasEntry_any (page op:Int) (m:Str) (hm:m.length≤1000) (hup:upB (sB m)=sB m) (A:Option Addr) (cap l:Nat) (L:List Tr) (hl:L.length=l) (hL:l≤1000) (ex:Str) (hx:ex.length≤1000) (al:Bool) (s:ByteArray) (Af:Option Addr) (capf lf:Nat) (C:List Tr) (hlf:C.length=lf) (hLf:lf≤1000) (w:World) (H:OpsP w A L) (HF:OpsP w Af C) :
  Calls Tryz.prog 106 #[.agg #[.string s,.slice Af lf capf],enV page op m (.slice A l cap) ex al] w fun e w'=>e=.returned (.bool (hasV m L ex s C))∧Below w.heap.size w w':=by
 have hva:=fun w=>variables_any page op m A l cap ex hx al w
 have hfi:=fun d q w h=>fill_any page op m hm A cap l L hl hL ex hx al d q w h
 have hsm:=fun s1 A1 c1 n1 L1 (e:List.length L1=n1) e2 (w':World) h1 h2=>isame2_any s1 s A1 Af c1 capf n1 lf L1 C e hlf e2 hLf w' h1 h2
 obtain ⟨x,hxx⟩:∃ x,(varsV ex).1=x:=⟨_,rfl⟩
 obtain ⟨y,hyy⟩:∃ y,(varsV ex).2=y:=⟨_,rfl⟩
 have hnu:=fun (x:Vr) v w' h1 h2=>vnum_any x v s Af capf lf C hlf hLf w' h1 h2
 obtain ⟨d,hd⟩:∃ d,numV x.1 C=d:=⟨_,rfl⟩
 obtain ⟨q,hq⟩:∃ q,numV y.1 C=q:=⟨_,rfl⟩
 obtain ⟨o,ho⟩:∃ o,fillV ex L d q=o:=⟨_,rfl⟩
 have HV:Hid (hasV m L ex s C=hasO m s C o):=by
  show _=_
  rw [← ho,← hd,← hq,← hxx,← hyy]
  exact hasV_O m L ex s C
 have LN:Hid (∀ L2,o=some L2→L2.length=l):=fun L2 e=>by
  rw [e] at ho
  rw [len_of_shape (fill_shape ho).1,hl]
 have hfi:=hfi d q
 rw [ho] at hfi
 unfold RetFill at hfi
 rw [hup] at hfi
 unfold RetVars at hva
 rw [hxx,hyy] at hva
 have n1:=fun v w' h1 h2=>hnu x v w' h1 h2
 have n2:=fun v w' h1 h2=>hnu y v w' h1 h2
 rw [hd] at n1
 rw [hq] at n2
 have LL:=Lib.hid hL
 clear hnu hxx hyy hd hq ho hup
 unfold enV at hva hfi ⊢
 obtain ⟨w0,hw0⟩:∃ w0,(w.alloc (.cells #[.string s,.slice Af lf capf] 24)).alloc (.cells #[.int .i64 page,.int .u8 op,.string (sB m),.slice A l cap,.string (sB ex),.bool al] 134)=w0:=⟨_,rfl⟩
 obtain ⟨n,hn⟩:∃ n,w.heap.size=n:=⟨_,rfl⟩
 have b0:Below n w w0:=by rw [← hw0,← hn];exact ((Below.refl _ w).alloc (Nat.le_refl _) _).alloc (by simp) _
 have z0:w0.heap.size=n+1+1:=by rw [← hw0,← hn];simp
 have c0:w0.heap[n]?=some (.cells #[.string s,.slice Af lf capf] 24 (0,0)):=by
  rw [← hw0,← hn]
  exact (Below.heap_alloc _ _ _ (by simp)).trans (World.alloc_heap_new w _)
 have c1:w0.heap[n+1]?=some (.cells #[.int .i64 page,.int .u8 op,.string (sB m),.slice A l cap,.string (sB ex),.bool al] 134 (0,0)):=by
  rw [← hw0,← hn]
  have h:=World.alloc_heap_new (w.alloc (.cells #[.string s,.slice Af lf capf] 24)) (.cells #[.int .i64 page,.int .u8 op,.string (sB m),.slice A l cap,.string (sB ex),.bool al] 134)
  rwa [World.size_alloc] at h
 have VA:=Lib.hid (hva w0)
 have FI:=Lib.hid hfi
 have SM:=Lib.hid hsm
 have N1:=Lib.hid n1
 have N2:=Lib.hid n2
 have HN:=Lib.hid hn
 have B0:=Lib.hid b0
 have C0:=Lib.hid c0
 have C1:=Lib.hid c1
 have P0:=Lib.hid (H.below (by rw [hn];exact b0))
 have Q0:=Lib.hid (HF.below (by rw [hn];exact b0))
 have k0:=Lib.cell_of_heap c1 0
 have k1:=Lib.cell_of_heap c1 1
 have k2:=Lib.cell_of_heap c1 2
 have k3:=Lib.cell_of_heap c1 3
 have k4:=Lib.cell_of_heap c1 4
 have k5:=Lib.cell_of_heap c1 5
 clear hva hfi hsm n1 n2 c0 c1 b0 H HF hm hx
 go_enter Tryz.func106,Tryz.ntmps106
 go_wp2_with fail
 refine VA.out.mono ?_
 rintro e w1 ⟨f,g,f',g',rfl,va,va',hb⟩
 obtain ⟨p1,p2,p3,hf,hg⟩:=va.form
 obtain ⟨p4,p5,p6,hf',hg'⟩:=va'.form
 subst hf hg hf' hg'
 obtain ⟨b,hbs⟩:∃ b,w1.heap.size=b:=⟨_,rfl⟩
 have hnb:n+2≤b:=by have:=hb.size;omega
 obtain ⟨w2,hw2,x1,x2,x3,x4,x5,x6⟩:=vars_boxes va va' b hbs
 have B2:Hid (Below n w w2):=(B0.out.trans (hb.mono (by omega))).trans (x5.mono (by omega))
 have bb:Below (n+1+1) w0 w2:=(hb.mono (by omega)).trans (x5.mono (by omega))
 have c0:=(bb.block n (by omega)).trans C0.out
 have c1:=(bb.block (n+1) (by omega)).trans C1.out
 have hd:=below_drewN w2 w2.heap.size 1
 have KK:Hid (w2.drew.heap[n]?=some (.cells #[.string s,.slice Af lf capf] 24 (0,0))∧w2.drew.heap[n+1]?=some (.cells #[.int .i64 page,.int .u8 op,.string (sB m),.slice A l cap,.string (sB ex),.bool al] 134 (0,0))∧w2.drew.heap[b]?=some (.cells #[.func (.func 196) #[] #[.pointer (some ⟨p1,0,none⟩)],.func (.func 197) #[] #[.pointer (some ⟨p2,0,none⟩),.pointer (some ⟨p3,0,none⟩)]] 208 (0,0))∧w2.drew.heap[b+1]?=some (.cells #[.func (.func 196) #[] #[.pointer (some ⟨p4,0,none⟩)],.func (.func 197) #[] #[.pointer (some ⟨p5,0,none⟩),.pointer (some ⟨p6,0,none⟩)]] 208 (0,0))):=⟨c0,c1,x1,x2⟩
 have P2:=Lib.hid ((P0.out.below (by rw [z0];exact bb)).below hd)
 have Q2:=Lib.hid ((Q0.out.below (by rw [z0];exact bb)).below hd)
 have X3:=Lib.hid (x3.below hd)
 have X4:=Lib.hid (x4.below hd)
 have B3:Hid (Below n w w2.drew):=B2.out.drew
 have Z3:Hid (w2.drew.heap.size=b+2):=x6
 clear k0 k1 k2 k3 k4 k5 VA va va' hb x1 x2 x3 x4 x5 x6 bb P0 Q0 B0 B2 C0 C1 hw0 z0 c0 c1 hd
 go_upto_region 2 with fail
 obtain ⟨w3,hw3⟩:∃ w3,w2.drew=w3:=⟨_,rfl⟩
 have hw3':w2.drewN 1=w3:=hw3
 rw [hw3'] at P2 Q2 X3 X4
 rw [hw3] at KK B3 Z3
 have UP:Hid (∀ W,Below w3.heap.size w3 W→(W.heap[n]?=some (.cells #[.string s,.slice Af lf capf] 24 (0,0))∧W.heap[n+1]?=some (.cells #[.int .i64 page,.int .u8 op,.string (sB m),.slice A l cap,.string (sB ex),.bool al] 134 (0,0))∧W.heap[b]?=some (.cells #[.func (.func 196) #[] #[.pointer (some ⟨p1,0,none⟩)],.func (.func 197) #[] #[.pointer (some ⟨p2,0,none⟩),.pointer (some ⟨p3,0,none⟩)]] 208 (0,0))∧W.heap[b+1]?=some (.cells #[.func (.func 196) #[] #[.pointer (some ⟨p4,0,none⟩)],.func (.func 197) #[] #[.pointer (some ⟨p5,0,none⟩),.pointer (some ⟨p6,0,none⟩)]] 208 (0,0)))∧OpsP W A L∧OpsP W Af C∧VarA W (.agg #[.func (.func 196) #[] #[.pointer (some ⟨p1,0,none⟩)],.func (.func 197) #[] #[.pointer (some ⟨p2,0,none⟩),.pointer (some ⟨p3,0,none⟩)]]) x∧VarA W (.agg #[.func (.func 196) #[] #[.pointer (some ⟨p4,0,none⟩)],.func (.func 197) #[] #[.pointer (some ⟨p5,0,none⟩),.pointer (some ⟨p6,0,none⟩)]]) y∧Below n w W∧b+1<W.heap.size):=fun W hW=>by
  obtain ⟨y1,y2,y3,y4⟩:=KK.out
  have z:=Z3.out
  have z':=hW.size
  exact ⟨⟨(hW.block _ (by omega)).trans y1,(hW.block _ (by omega)).trans y2,(hW.block _ (by omega)).trans y3,(hW.block _ (by omega)).trans y4⟩,P2.out.below hW,Q2.out.below hW,X3.out.below hW,X4.out.below hW,B3.out.trans (hW.mono (by omega)),by omega⟩
 have hb_w3:Hid (Below w3.heap.size w3 w3):=Below.refl _ _
 clear KK P2 Q2 X3 X4 B3 Z3 hw3'
 go_cut [7,8] (fun p r wx=>∃ (c:Nat) (k:Bool) (A2:Option Addr) (c2 n2:Nat) (L2:List Tr) (u:ByteArray),p=.pointer (some ⟨c,0,none⟩)∧r=.bool k∧Hid (wx.heap[c]?=some (.cells #[.string u,.slice A2 n2 c2] 24 (0,0))∧OpsP wx A2 L2∧L2.length=n2∧n2≤1000∧Below n w wx∧wx.heap[n]?=some (.cells #[.string s,.slice Af lf capf] 24 (0,0))∧OpsP wx Af C∧hasO m s C o=(k&&(decide (u=s)&&decide (L2=C)))))
 case first=>
  cases o with
  | none=>
   refine Mixed.wp_region_mixedT (fun w'=>w'.heap[n]?=some (.cells #[.string s,.slice Af lf capf] 24 (0,0))∧w'.heap[n+1]?=some (.cells #[.int .i64 page,.int .u8 op,.string (sB m),.slice A l cap,.string (sB ex),.bool al] 134 (0,0))∧w'.heap[b]?=some (.cells #[.func (.func 196) #[] #[.pointer (some ⟨p1,0,none⟩)],.func (.func 197) #[] #[.pointer (some ⟨p2,0,none⟩),.pointer (some ⟨p3,0,none⟩)]] 208 (0,0))∧w'.heap[b+1]?=some (.cells #[.func (.func 196) #[] #[.pointer (some ⟨p4,0,none⟩)],.func (.func 197) #[] #[.pointer (some ⟨p5,0,none⟩),.pointer (some ⟨p6,0,none⟩)]] 208 (0,0))) 13 (.pure 0 (.pure 1 (.pure 2 (.pure 4 (.pure 5 (.two 3 (.two 6 (.two 7 (.pure 8 (.pure 9 (.pure 10 (.one 11 (.one 12 .done))))) 11 (.one 7 (.pure 8 (.pure 9 (.pure 10 (.one 12 .done)))))) 11 (.one 6 (.one 7 (.pure 8 (.pure 9 (.pure 10 (.one 12 .done))))))) 11 (.one 3 (.one 6 (.one 7 (.pure 8 (.pure 9 (.pure 10 (.one 12 .done))))))))))))) (by kernel_rfl) (by kernel_rfl) (by rw [hw3];exact (UP.out _ hb_w3.out).1) ?_
   rw [hw3]
   clear hw3
   refine Mixed.wpMixT_pure rfl (by kernel_rfl) (.agg #[.int .i64 page,.int .u8 op,.string (sB m),.slice A l cap,.string (sB ex),.bool al]) (fun w h=>by
    obtain ⟨h1,h2,h3,h4⟩:=h
    have q0:=Lib.cell_of_heap h2 0
    have q1:=Lib.cell_of_heap h2 1
    have q2:=Lib.cell_of_heap h2 2
    have q3:=Lib.cell_of_heap h2 3
    have q4:=Lib.cell_of_heap h2 4
    have q5:=Lib.cell_of_heap h2 5
    go_simp;try rfl) ?_
   refine Mixed.wpMixT_pure rfl (by kernel_rfl) (.agg #[.func (.func 196) #[] #[.pointer (some ⟨p1,0,none⟩)],.func (.func 197) #[] #[.pointer (some ⟨p2,0,none⟩),.pointer (some ⟨p3,0,none⟩)]]) (fun w h=>by
    obtain ⟨h1,h2,h3,h4⟩:=h
    have q0:=Lib.cell_of_heap h3 0
    have q1:=Lib.cell_of_heap h3 1
    go_simp;try rfl) ?_
   refine Mixed.wpMixT_pure rfl (by kernel_rfl) (.agg #[.string s,.slice Af lf capf]) (fun w h=>by
    obtain ⟨h1,h2,h3,h4⟩:=h
    have q0:=Lib.cell_of_heap h1 0
    have q1:=Lib.cell_of_heap h1 1
    go_simp;try rfl) ?_
   refine Mixed.wpMixT_pure rfl (by kernel_rfl) (.agg #[.func (.func 196) #[] #[.pointer (some ⟨p4,0,none⟩)],.func (.func 197) #[] #[.pointer (some ⟨p5,0,none⟩),.pointer (some ⟨p6,0,none⟩)]]) (fun w h=>by
    obtain ⟨h1,h2,h3,h4⟩:=h
    have q0:=Lib.cell_of_heap h4 0
    have q1:=Lib.cell_of_heap h4 1
    go_simp;try rfl) ?_
   refine Mixed.wpMixT_pure rfl (by kernel_rfl) (.agg #[.string s,.slice Af lf capf]) (fun w h=>by
    obtain ⟨h1,h2,h3,h4⟩:=h
    have q0:=Lib.cell_of_heap h1 0
    have q1:=Lib.cell_of_heap h1 1
    go_simp;try rfl) ?_
   refine Mixed.wpMixT_both rfl (by kernel_rfl) rfl (by kernel_rfl) ?_ ?_
   ·go_wp2_with fail
    refine (N1.out _ _ (UP.out _ hb_w3.out).2.2.2.1 (UP.out _ hb_w3.out).2.2.1).mono ?_
    rintro e W1 ⟨rfl,hb⟩
    have hb_W1:Hid (Below w3.heap.size w3 W1):=hb_w3.out.trans (hb.mono hb_w3.out.size)
    clear hb hb_w3
    go_wp2
    refine ⟨(UP.out _ hb_W1.out).1,?_⟩
    refine Mixed.wpMixT_both rfl (by kernel_rfl) rfl (by kernel_rfl) ?_ ?_
    ·go_wp2_with fail
     refine (N2.out _ _ (UP.out _ hb_W1.out).2.2.2.2.1 (UP.out _ hb_W1.out).2.2.1).mono ?_
     rintro e W2 ⟨rfl,hb⟩
     have hb_W2:Hid (Below w3.heap.size w3 W2):=hb_W1.out.trans (hb.mono hb_W1.out.size)
     clear hb hb_W1
     go_wp2
     refine ⟨(UP.out _ hb_W2.out).1,?_⟩
     refine Mixed.wpMixT_both rfl (by kernel_rfl) rfl (by kernel_rfl) ?_ ?_
     ·go_wp2_with fail
      refine (FI.out _ (UP.out _ hb_W2.out).2.1).mono ?_
      rintro e W3 ⟨rfl,hb⟩
      have HP:Hid (OpsP W3 none []):=.inl rfl
      have hb_W3:Hid (Below w3.heap.size w3 W3):=hb_W2.out.trans (hb.mono hb_W2.out.size)
      clear hb hb_W2
      go_wp2
      refine ⟨(UP.out _ hb_W3.out).1,?_⟩
      refine Mixed.wpMixT_pure rfl (by kernel_rfl) (.tuple #[.agg #[.string ⟨#[]⟩,.slice none 0 0],.bool false]) (fun w h=>by clear h;go_simp;try rfl) ?_
      refine Mixed.wpMixT_pure rfl (by kernel_rfl) (.agg #[.string ⟨#[]⟩,.slice none 0 0]) (fun w h=>by clear h;go_simp;try rfl) ?_
      refine Mixed.wpMixT_pure rfl (by kernel_rfl) (.bool false) (fun w h=>by clear h;go_simp;try rfl) ?_
      refine Mixed.wpMixT_loud rfl (by kernel_rfl) ?_
      obtain ⟨W4,hW4⟩:∃ z,W3.alloc (.cells #[.string ⟨#[]⟩,.slice none 0 0] 24)=z:=⟨_,rfl⟩
      have AL:W4.heap[W3.heap.size]?=some (.cells #[.string ⟨#[]⟩,.slice none 0 0] 24 (0,0)):=by rw [← hW4];exact World.alloc_heap_new _ _
      have bz:Below W3.heap.size W3 W4:=by rw [← hW4];exact (Below.refl _ _).alloc (Nat.le_refl _) _
      obtain ⟨c,hc⟩:∃ c,W3.heap.size=c:=⟨_,rfl⟩
      rw [hc] at AL
      have hcn:b+1<c:=by have:=(UP.out _ hb_W3.out).2.2.2.2.2.2;omega
      have hb_W4:Hid (Below w3.heap.size w3 W4):=hb_W3.out.trans (bz.mono hb_W3.out.size)
      have HP:=Lib.hid (HP.out.below bz)
      clear bz hb_W3
      go_wp2
      refine ⟨(UP.out _ hb_W4.out).1,?_⟩
      refine Mixed.wpMixT_loud rfl (by kernel_rfl) ?_
      have u0:=Lib.cell_of_heap AL 0
      have u1:=Lib.cell_of_heap AL 1
      have u2:=Lib.frozen_of_heap AL
      have HD:=Lib.hid (fin_ins (n:=n) (by omega) AL HP.out (UP.out _ hb_W4.out).2.2.1 (UP.out _ hb_W4.out).1.1 (⟨#[]⟩) none 0 0)
      have HB9:Hid (Below n w W4):=(UP.out _ hb_W4.out).2.2.2.2.2.1
      have KC:=Lib.hid (UP.out _ hb_W4.out).1
      clear AL HP hb_W4
      go_wp2
      refine ⟨⟨(HD.out.2.2.2.2.2 n (by omega)).trans KC.out.1,(HD.out.2.2.2.2.2 (n+1) (by omega)).trans KC.out.2.1,(HD.out.2.2.2.2.2 b (by omega)).trans KC.out.2.2.1,(HD.out.2.2.2.2.2 (b+1) (by omega)).trans KC.out.2.2.2⟩,?_⟩
      simp only [Mixed.wpMixT,List.drop_succ_cons,List.drop_zero]
      go_wp2
      go_meet
      exact ⟨c,false,none,0,0,[],⟨#[]⟩,rfl,rfl,HD.out.1,HD.out.2.1,rfl,Nat.zero_le _,HB9.out.trans HD.out.2.2.2.2.1,HD.out.2.2.2.1,HD.out.2.2.1,rfl⟩
     ·obtain ⟨W5,hW5⟩:∃ z,W2.alloc (.cells #[.string ⟨#[]⟩,.slice none 0 0] 24)=z:=⟨_,rfl⟩
      have AL:W5.heap[W2.heap.size]?=some (.cells #[.string ⟨#[]⟩,.slice none 0 0] 24 (0,0)):=by rw [← hW5];exact World.alloc_heap_new _ _
      have bz:Below W2.heap.size W2 W5:=by rw [← hW5];exact (Below.refl _ _).alloc (Nat.le_refl _) _
      obtain ⟨c,hc⟩:∃ c,W2.heap.size=c:=⟨_,rfl⟩
      rw [hc] at AL
      have hcn:b+1<c:=by have:=(UP.out _ hb_W2.out).2.2.2.2.2.2;omega
      have hb_W5:Hid (Below w3.heap.size w3 W5):=hb_W2.out.trans (bz.mono hb_W2.out.size)
      clear bz hb_W2
      go_wp2
      refine ⟨(UP.out _ hb_W5.out).1,?_⟩
      refine Mixed.wpMixT_loud rfl (by kernel_rfl) ?_
      go_wp2_with fail
      refine (FI.out _ (UP.out _ hb_W5.out).2.1).mono ?_
      rintro e W6 ⟨rfl,hb⟩
      have HP:Hid (OpsP W6 none []):=.inl rfl
      have hb_W6:Hid (Below w3.heap.size w3 W6):=hb_W5.out.trans (hb.mono hb_W5.out.size)
      have AL:=(hb.block _ (Array.getElem?_eq_some_iff.1 AL).1).trans AL
      clear hb hb_W5
      go_wp2
      refine ⟨(UP.out _ hb_W6.out).1,?_⟩
      refine Mixed.wpMixT_pure rfl (by kernel_rfl) (.tuple #[.agg #[.string ⟨#[]⟩,.slice none 0 0],.bool false]) (fun w h=>by clear h;go_simp;try rfl) ?_
      refine Mixed.wpMixT_pure rfl (by kernel_rfl) (.agg #[.string ⟨#[]⟩,.slice none 0 0]) (fun w h=>by clear h;go_simp;try rfl) ?_
      refine Mixed.wpMixT_pure rfl (by kernel_rfl) (.bool false) (fun w h=>by clear h;go_simp;try rfl) ?_
      refine Mixed.wpMixT_loud rfl (by kernel_rfl) ?_
      have u0:=Lib.cell_of_heap AL 0
      have u1:=Lib.cell_of_heap AL 1
      have u2:=Lib.frozen_of_heap AL
      have HD:=Lib.hid (fin_ins (n:=n) (by omega) AL HP.out (UP.out _ hb_W6.out).2.2.1 (UP.out _ hb_W6.out).1.1 (⟨#[]⟩) none 0 0)
      have HB9:Hid (Below n w W6):=(UP.out _ hb_W6.out).2.2.2.2.2.1
      have KC:=Lib.hid (UP.out _ hb_W6.out).1
      clear AL HP hb_W6
      go_wp2
      refine ⟨⟨(HD.out.2.2.2.2.2 n (by omega)).trans KC.out.1,(HD.out.2.2.2.2.2 (n+1) (by omega)).trans KC.out.2.1,(HD.out.2.2.2.2.2 b (by omega)).trans KC.out.2.2.1,(HD.out.2.2.2.2.2 (b+1) (by omega)).trans KC.out.2.2.2⟩,?_⟩
      simp only [Mixed.wpMixT,List.drop_succ_cons,List.drop_zero]
      go_wp2
      go_meet
      exact ⟨c,false,none,0,0,[],⟨#[]⟩,rfl,rfl,HD.out.1,HD.out.2.1,rfl,Nat.zero_le _,HB9.out.trans HD.out.2.2.2.2.1,HD.out.2.2.2.1,HD.out.2.2.1,rfl⟩
    ·obtain ⟨W7,hW7⟩:∃ z,W1.alloc (.cells #[.string ⟨#[]⟩,.slice none 0 0] 24)=z:=⟨_,rfl⟩
     have AL:W7.heap[W1.heap.size]?=some (.cells #[.string ⟨#[]⟩,.slice none 0 0] 24 (0,0)):=by rw [← hW7];exact World.alloc_heap_new _ _
     have bz:Below W1.heap.size W1 W7:=by rw [← hW7];exact (Below.refl _ _).alloc (Nat.le_refl _) _
     obtain ⟨c,hc⟩:∃ c,W1.heap.size=c:=⟨_,rfl⟩
     rw [hc] at AL
     have hcn:b+1<c:=by have:=(UP.out _ hb_W1.out).2.2.2.2.2.2;omega
     have hb_W7:Hid (Below w3.heap.size w3 W7):=hb_W1.out.trans (bz.mono hb_W1.out.size)
     clear bz hb_W1
     go_wp2
     refine ⟨(UP.out _ hb_W7.out).1,?_⟩
     refine Mixed.wpMixT_loud rfl (by kernel_rfl) ?_
     go_wp2_with fail
     refine (N2.out _ _ (UP.out _ hb_W7.out).2.2.2.2.1 (UP.out _ hb_W7.out).2.2.1).mono ?_
     rintro e W8 ⟨rfl,hb⟩
     have hb_W8:Hid (Below w3.heap.size w3 W8):=hb_W7.out.trans (hb.mono hb_W7.out.size)
     have AL:=(hb.block _ (Array.getElem?_eq_some_iff.1 AL).1).trans AL
     clear hb hb_W7
     go_wp2
     refine ⟨(UP.out _ hb_W8.out).1,?_⟩
     refine Mixed.wpMixT_loud rfl (by kernel_rfl) ?_
     go_wp2_with fail
     refine (FI.out _ (UP.out _ hb_W8.out).2.1).mono ?_
     rintro e W9 ⟨rfl,hb⟩
     have HP:Hid (OpsP W9 none []):=.inl rfl
     have hb_W9:Hid (Below w3.heap.size w3 W9):=hb_W8.out.trans (hb.mono hb_W8.out.size)
     have AL:=(hb.block _ (Array.getElem?_eq_some_iff.1 AL).1).trans AL
     clear hb hb_W8
     go_wp2
     refine ⟨(UP.out _ hb_W9.out).1,?_⟩
     refine Mixed.wpMixT_pure rfl (by kernel_rfl) (.tuple #[.agg #[.string ⟨#[]⟩,.slice none 0 0],.bool false]) (fun w h=>by clear h;go_simp;try rfl) ?_
     refine Mixed.wpMixT_pure rfl (by kernel_rfl) (.agg #[.string ⟨#[]⟩,.slice none 0 0]) (fun w h=>by clear h;go_simp;try rfl) ?_
     refine Mixed.wpMixT_pure rfl (by kernel_rfl) (.bool false) (fun w h=>by clear h;go_simp;try rfl) ?_
     refine Mixed.wpMixT_loud rfl (by kernel_rfl) ?_
     have u0:=Lib.cell_of_heap AL 0
     have u1:=Lib.cell_of_heap AL 1
     have u2:=Lib.frozen_of_heap AL
     have HD:=Lib.hid (fin_ins (n:=n) (by omega) AL HP.out (UP.out _ hb_W9.out).2.2.1 (UP.out _ hb_W9.out).1.1 (⟨#[]⟩) none 0 0)
     have HB9:Hid (Below n w W9):=(UP.out _ hb_W9.out).2.2.2.2.2.1
     have KC:=Lib.hid (UP.out _ hb_W9.out).1
     clear AL HP hb_W9
     go_wp2
     refine ⟨⟨(HD.out.2.2.2.2.2 n (by omega)).trans KC.out.1,(HD.out.2.2.2.2.2 (n+1) (by omega)).trans KC.out.2.1,(HD.out.2.2.2.2.2 b (by omega)).trans KC.out.2.2.1,(HD.out.2.2.2.2.2 (b+1) (by omega)).trans KC.out.2.2.2⟩,?_⟩
     simp only [Mixed.wpMixT,List.drop_succ_cons,List.drop_zero]
     go_wp2
     go_meet
     exact ⟨c,false,none,0,0,[],⟨#[]⟩,rfl,rfl,HD.out.1,HD.out.2.1,rfl,Nat.zero_le _,HB9.out.trans HD.out.2.2.2.2.1,HD.out.2.2.2.1,HD.out.2.2.1,rfl⟩
   ·obtain ⟨W10,hW10⟩:∃ z,w3.alloc (.cells #[.string ⟨#[]⟩,.slice none 0 0] 24)=z:=⟨_,rfl⟩
    have AL:W10.heap[w3.heap.size]?=some (.cells #[.string ⟨#[]⟩,.slice none 0 0] 24 (0,0)):=by rw [← hW10];exact World.alloc_heap_new _ _
    have bz:Below w3.heap.size w3 W10:=by rw [← hW10];exact (Below.refl _ _).alloc (Nat.le_refl _) _
    obtain ⟨c,hc⟩:∃ c,w3.heap.size=c:=⟨_,rfl⟩
    rw [hc] at AL
    have hcn:b+1<c:=by have:=(UP.out _ hb_w3.out).2.2.2.2.2.2;omega
    have hb_W10:Hid (Below w3.heap.size w3 W10):=hb_w3.out.trans (bz.mono hb_w3.out.size)
    clear bz hb_w3
    go_wp2
    refine ⟨(UP.out _ hb_W10.out).1,?_⟩
    refine Mixed.wpMixT_loud rfl (by kernel_rfl) ?_
    go_wp2_with fail
    refine (N1.out _ _ (UP.out _ hb_W10.out).2.2.2.1 (UP.out _ hb_W10.out).2.2.1).mono ?_
    rintro e W11 ⟨rfl,hb⟩
    have hb_W11:Hid (Below w3.heap.size w3 W11):=hb_W10.out.trans (hb.mono hb_W10.out.size)
    have AL:=(hb.block _ (Array.getElem?_eq_some_iff.1 AL).1).trans AL
    clear hb hb_W10
    go_wp2
    refine ⟨(UP.out _ hb_W11.out).1,?_⟩
    refine Mixed.wpMixT_loud rfl (by kernel_rfl) ?_
    go_wp2_with fail
    refine (N2.out _ _ (UP.out _ hb_W11.out).2.2.2.2.1 (UP.out _ hb_W11.out).2.2.1).mono ?_
    rintro e W12 ⟨rfl,hb⟩
    have hb_W12:Hid (Below w3.heap.size w3 W12):=hb_W11.out.trans (hb.mono hb_W11.out.size)
    have AL:=(hb.block _ (Array.getElem?_eq_some_iff.1 AL).1).trans AL
    clear hb hb_W11
    go_wp2
    refine ⟨(UP.out _ hb_W12.out).1,?_⟩
    refine Mixed.wpMixT_loud rfl (by kernel_rfl) ?_
    go_wp2_with fail
    refine (FI.out _ (UP.out _ hb_W12.out).2.1).mono ?_
    rintro e W13 ⟨rfl,hb⟩
    have HP:Hid (OpsP W13 none []):=.inl rfl
    have hb_W13:Hid (Below w3.heap.size w3 W13):=hb_W12.out.trans (hb.mono hb_W12.out.size)
    have AL:=(hb.block _ (Array.getElem?_eq_some_iff.1 AL).1).trans AL
    clear hb hb_W12
    go_wp2
    refine ⟨(UP.out _ hb_W13.out).1,?_⟩
    refine Mixed.wpMixT_pure rfl (by kernel_rfl) (.tuple #[.agg #[.string ⟨#[]⟩,.slice none 0 0],.bool false]) (fun w h=>by clear h;go_simp;try rfl) ?_
    refine Mixed.wpMixT_pure rfl (by kernel_rfl) (.agg #[.string ⟨#[]⟩,.slice none 0 0]) (fun w h=>by clear h;go_simp;try rfl) ?_
    refine Mixed.wpMixT_pure rfl (by kernel_rfl) (.bool false) (fun w h=>by clear h;go_simp;try rfl) ?_
    refine Mixed.wpMixT_loud rfl (by kernel_rfl) ?_
    have u0:=Lib.cell_of_heap AL 0
    have u1:=Lib.cell_of_heap AL 1
    have u2:=Lib.frozen_of_heap AL
    have HD:=Lib.hid (fin_ins (n:=n) (by omega) AL HP.out (UP.out _ hb_W13.out).2.2.1 (UP.out _ hb_W13.out).1.1 (⟨#[]⟩) none 0 0)
    have HB9:Hid (Below n w W13):=(UP.out _ hb_W13.out).2.2.2.2.2.1
    have KC:=Lib.hid (UP.out _ hb_W13.out).1
    clear AL HP hb_W13
    go_wp2
    refine ⟨⟨(HD.out.2.2.2.2.2 n (by omega)).trans KC.out.1,(HD.out.2.2.2.2.2 (n+1) (by omega)).trans KC.out.2.1,(HD.out.2.2.2.2.2 b (by omega)).trans KC.out.2.2.1,(HD.out.2.2.2.2.2 (b+1) (by omega)).trans KC.out.2.2.2⟩,?_⟩
    simp only [Mixed.wpMixT,List.drop_succ_cons,List.drop_zero]
    go_wp2
    go_meet
    exact ⟨c,false,none,0,0,[],⟨#[]⟩,rfl,rfl,HD.out.1,HD.out.2.1,rfl,Nat.zero_le _,HB9.out.trans HD.out.2.2.2.2.1,HD.out.2.2.2.1,HD.out.2.2.1,rfl⟩
  | some L2=>
   have LN:Hid (L2.length=l):=LN.out L2 rfl
   refine Mixed.wp_region_mixedT (fun w'=>w'.heap[n]?=some (.cells #[.string s,.slice Af lf capf] 24 (0,0))∧w'.heap[n+1]?=some (.cells #[.int .i64 page,.int .u8 op,.string (sB m),.slice A l cap,.string (sB ex),.bool al] 134 (0,0))∧w'.heap[b]?=some (.cells #[.func (.func 196) #[] #[.pointer (some ⟨p1,0,none⟩)],.func (.func 197) #[] #[.pointer (some ⟨p2,0,none⟩),.pointer (some ⟨p3,0,none⟩)]] 208 (0,0))∧w'.heap[b+1]?=some (.cells #[.func (.func 196) #[] #[.pointer (some ⟨p4,0,none⟩)],.func (.func 197) #[] #[.pointer (some ⟨p5,0,none⟩),.pointer (some ⟨p6,0,none⟩)]] 208 (0,0))) 13 (.pure 0 (.pure 1 (.pure 2 (.pure 4 (.pure 5 (.two 3 (.two 6 (.two 7 (.pure 8 (.pure 9 (.pure 10 (.one 11 (.one 12 .done))))) 11 (.one 7 (.pure 8 (.pure 9 (.pure 10 (.one 12 .done)))))) 11 (.one 6 (.one 7 (.pure 8 (.pure 9 (.pure 10 (.one 12 .done))))))) 11 (.one 3 (.one 6 (.one 7 (.pure 8 (.pure 9 (.pure 10 (.one 12 .done))))))))))))) (by kernel_rfl) (by kernel_rfl) (by rw [hw3];exact (UP.out _ hb_w3.out).1) ?_
   rw [hw3]
   clear hw3
   refine Mixed.wpMixT_pure rfl (by kernel_rfl) (.agg #[.int .i64 page,.int .u8 op,.string (sB m),.slice A l cap,.string (sB ex),.bool al]) (fun w h=>by
    obtain ⟨h1,h2,h3,h4⟩:=h
    have q0:=Lib.cell_of_heap h2 0
    have q1:=Lib.cell_of_heap h2 1
    have q2:=Lib.cell_of_heap h2 2
    have q3:=Lib.cell_of_heap h2 3
    have q4:=Lib.cell_of_heap h2 4
    have q5:=Lib.cell_of_heap h2 5
    go_simp;try rfl) ?_
   refine Mixed.wpMixT_pure rfl (by kernel_rfl) (.agg #[.func (.func 196) #[] #[.pointer (some ⟨p1,0,none⟩)],.func (.func 197) #[] #[.pointer (some ⟨p2,0,none⟩),.pointer (some ⟨p3,0,none⟩)]]) (fun w h=>by
    obtain ⟨h1,h2,h3,h4⟩:=h
    have q0:=Lib.cell_of_heap h3 0
    have q1:=Lib.cell_of_heap h3 1
    go_simp;try rfl) ?_
   refine Mixed.wpMixT_pure rfl (by kernel_rfl) (.agg #[.string s,.slice Af lf capf]) (fun w h=>by
    obtain ⟨h1,h2,h3,h4⟩:=h
    have q0:=Lib.cell_of_heap h1 0
    have q1:=Lib.cell_of_heap h1 1
    go_simp;try rfl) ?_
   refine Mixed.wpMixT_pure rfl (by kernel_rfl) (.agg #[.func (.func 196) #[] #[.pointer (some ⟨p4,0,none⟩)],.func (.func 197) #[] #[.pointer (some ⟨p5,0,none⟩),.pointer (some ⟨p6,0,none⟩)]]) (fun w h=>by
    obtain ⟨h1,h2,h3,h4⟩:=h
    have q0:=Lib.cell_of_heap h4 0
    have q1:=Lib.cell_of_heap h4 1
    go_simp;try rfl) ?_
   refine Mixed.wpMixT_pure rfl (by kernel_rfl) (.agg #[.string s,.slice Af lf capf]) (fun w h=>by
    obtain ⟨h1,h2,h3,h4⟩:=h
    have q0:=Lib.cell_of_heap h1 0
    have q1:=Lib.cell_of_heap h1 1
    go_simp;try rfl) ?_
   refine Mixed.wpMixT_both rfl (by kernel_rfl) rfl (by kernel_rfl) ?_ ?_
   ·go_wp2_with fail
    refine (N1.out _ _ (UP.out _ hb_w3.out).2.2.2.1 (UP.out _ hb_w3.out).2.2.1).mono ?_
    rintro e W1 ⟨rfl,hb⟩
    have hb_W1:Hid (Below w3.heap.size w3 W1):=hb_w3.out.trans (hb.mono hb_w3.out.size)
    clear hb hb_w3
    go_wp2
    refine ⟨(UP.out _ hb_W1.out).1,?_⟩
    refine Mixed.wpMixT_both rfl (by kernel_rfl) rfl (by kernel_rfl) ?_ ?_
    ·go_wp2_with fail
     refine (N2.out _ _ (UP.out _ hb_W1.out).2.2.2.2.1 (UP.out _ hb_W1.out).2.2.1).mono ?_
     rintro e W2 ⟨rfl,hb⟩
     have hb_W2:Hid (Below w3.heap.size w3 W2):=hb_W1.out.trans (hb.mono hb_W1.out.size)
     clear hb hb_W1
     go_wp2
     refine ⟨(UP.out _ hb_W2.out).1,?_⟩
     refine Mixed.wpMixT_both rfl (by kernel_rfl) rfl (by kernel_rfl) ?_ ?_
     ·go_wp2_with fail
      refine (FI.out _ (UP.out _ hb_W2.out).2.1).mono ?_
      rintro e W3 ⟨v,rfl,hO,hb⟩
      obtain ⟨A2,c2,hv,hP,-⟩:=hO.ops
      rw [LN.out] at hv
      subst hv
      have HP:=Lib.hid hP
      clear hP hO
      have hb_W3:Hid (Below w3.heap.size w3 W3):=hb_W2.out.trans (hb.mono hb_W2.out.size)
      clear hb hb_W2
      go_wp2
      refine ⟨(UP.out _ hb_W3.out).1,?_⟩
      refine Mixed.wpMixT_pure rfl (by kernel_rfl) (.tuple #[.agg #[.string (sB m),.slice A2 l c2],.bool true]) (fun w h=>by clear h;go_simp;try rfl) ?_
      refine Mixed.wpMixT_pure rfl (by kernel_rfl) (.agg #[.string (sB m),.slice A2 l c2]) (fun w h=>by clear h;go_simp;try rfl) ?_
      refine Mixed.wpMixT_pure rfl (by kernel_rfl) (.bool true) (fun w h=>by clear h;go_simp;try rfl) ?_
      refine Mixed.wpMixT_loud rfl (by kernel_rfl) ?_
      obtain ⟨W4,hW4⟩:∃ z,W3.alloc (.cells #[.string ⟨#[]⟩,.slice none 0 0] 24)=z:=⟨_,rfl⟩
      have AL:W4.heap[W3.heap.size]?=some (.cells #[.string ⟨#[]⟩,.slice none 0 0] 24 (0,0)):=by rw [← hW4];exact World.alloc_heap_new _ _
      have bz:Below W3.heap.size W3 W4:=by rw [← hW4];exact (Below.refl _ _).alloc (Nat.le_refl _) _
      obtain ⟨c,hc⟩:∃ c,W3.heap.size=c:=⟨_,rfl⟩
      rw [hc] at AL
      have hcn:b+1<c:=by have:=(UP.out _ hb_W3.out).2.2.2.2.2.2;omega
      have hb_W4:Hid (Below w3.heap.size w3 W4):=hb_W3.out.trans (bz.mono hb_W3.out.size)
      have HP:=Lib.hid (HP.out.below bz)
      clear bz hb_W3
      go_wp2
      refine ⟨(UP.out _ hb_W4.out).1,?_⟩
      refine Mixed.wpMixT_loud rfl (by kernel_rfl) ?_
      have u0:=Lib.cell_of_heap AL 0
      have u1:=Lib.cell_of_heap AL 1
      have u2:=Lib.frozen_of_heap AL
      have HD:=Lib.hid (fin_ins (n:=n) (by omega) AL HP.out (UP.out _ hb_W4.out).2.2.1 (UP.out _ hb_W4.out).1.1 (sB m) A2 l c2)
      have HB9:Hid (Below n w W4):=(UP.out _ hb_W4.out).2.2.2.2.2.1
      have KC:=Lib.hid (UP.out _ hb_W4.out).1
      clear AL HP hb_W4
      go_wp2
      refine ⟨⟨(HD.out.2.2.2.2.2 n (by omega)).trans KC.out.1,(HD.out.2.2.2.2.2 (n+1) (by omega)).trans KC.out.2.1,(HD.out.2.2.2.2.2 b (by omega)).trans KC.out.2.2.1,(HD.out.2.2.2.2.2 (b+1) (by omega)).trans KC.out.2.2.2⟩,?_⟩
      simp only [Mixed.wpMixT,List.drop_succ_cons,List.drop_zero]
      go_wp2
      go_meet
      exact ⟨c,true,A2,c2,l,L2,sB m,rfl,rfl,HD.out.1,HD.out.2.1,LN.out,LL.out,HB9.out.trans HD.out.2.2.2.2.1,HD.out.2.2.2.1,HD.out.2.2.1,rfl⟩
     ·obtain ⟨W5,hW5⟩:∃ z,W2.alloc (.cells #[.string ⟨#[]⟩,.slice none 0 0] 24)=z:=⟨_,rfl⟩
      have AL:W5.heap[W2.heap.size]?=some (.cells #[.string ⟨#[]⟩,.slice none 0 0] 24 (0,0)):=by rw [← hW5];exact World.alloc_heap_new _ _
      have bz:Below W2.heap.size W2 W5:=by rw [← hW5];exact (Below.refl _ _).alloc (Nat.le_refl _) _
      obtain ⟨c,hc⟩:∃ c,W2.heap.size=c:=⟨_,rfl⟩
      rw [hc] at AL
      have hcn:b+1<c:=by have:=(UP.out _ hb_W2.out).2.2.2.2.2.2;omega
      have hb_W5:Hid (Below w3.heap.size w3 W5):=hb_W2.out.trans (bz.mono hb_W2.out.size)
      clear bz hb_W2
      go_wp2
      refine ⟨(UP.out _ hb_W5.out).1,?_⟩
      refine Mixed.wpMixT_loud rfl (by kernel_rfl) ?_
      go_wp2_with fail
      refine (FI.out _ (UP.out _ hb_W5.out).2.1).mono ?_
      rintro e W6 ⟨v,rfl,hO,hb⟩
      obtain ⟨A2,c2,hv,hP,-⟩:=hO.ops
      rw [LN.out] at hv
      subst hv
      have HP:=Lib.hid hP
      clear hP hO
      have hb_W6:Hid (Below w3.heap.size w3 W6):=hb_W5.out.trans (hb.mono hb_W5.out.size)
      have AL:=(hb.block _ (Array.getElem?_eq_some_iff.1 AL).1).trans AL
      clear hb hb_W5
      go_wp2
      refine ⟨(UP.out _ hb_W6.out).1,?_⟩
      refine Mixed.wpMixT_pure rfl (by kernel_rfl) (.tuple #[.agg #[.string (sB m),.slice A2 l c2],.bool true]) (fun w h=>by clear h;go_simp;try rfl) ?_
      refine Mixed.wpMixT_pure rfl (by kernel_rfl) (.agg #[.string (sB m),.slice A2 l c2]) (fun w h=>by clear h;go_simp;try rfl) ?_
      refine Mixed.wpMixT_pure rfl (by kernel_rfl) (.bool true) (fun w h=>by clear h;go_simp;try rfl) ?_
      refine Mixed.wpMixT_loud rfl (by kernel_rfl) ?_
      have u0:=Lib.cell_of_heap AL 0
      have u1:=Lib.cell_of_heap AL 1
      have u2:=Lib.frozen_of_heap AL
      have HD:=Lib.hid (fin_ins (n:=n) (by omega) AL HP.out (UP.out _ hb_W6.out).2.2.1 (UP.out _ hb_W6.out).1.1 (sB m) A2 l c2)
      have HB9:Hid (Below n w W6):=(UP.out _ hb_W6.out).2.2.2.2.2.1
      have KC:=Lib.hid (UP.out _ hb_W6.out).1
      clear AL HP hb_W6
      go_wp2
      refine ⟨⟨(HD.out.2.2.2.2.2 n (by omega)).trans KC.out.1,(HD.out.2.2.2.2.2 (n+1) (by omega)).trans KC.out.2.1,(HD.out.2.2.2.2.2 b (by omega)).trans KC.out.2.2.1,(HD.out.2.2.2.2.2 (b+1) (by omega)).trans KC.out.2.2.2⟩,?_⟩
      simp only [Mixed.wpMixT,List.drop_succ_cons,List.drop_zero]
      go_wp2
      go_meet
      exact ⟨c,true,A2,c2,l,L2,sB m,rfl,rfl,HD.out.1,HD.out.2.1,LN.out,LL.out,HB9.out.trans HD.out.2.2.2.2.1,HD.out.2.2.2.1,HD.out.2.2.1,rfl⟩
    ·obtain ⟨W7,hW7⟩:∃ z,W1.alloc (.cells #[.string ⟨#[]⟩,.slice none 0 0] 24)=z:=⟨_,rfl⟩
     have AL:W7.heap[W1.heap.size]?=some (.cells #[.string ⟨#[]⟩,.slice none 0 0] 24 (0,0)):=by rw [← hW7];exact World.alloc_heap_new _ _
     have bz:Below W1.heap.size W1 W7:=by rw [← hW7];exact (Below.refl _ _).alloc (Nat.le_refl _) _
     obtain ⟨c,hc⟩:∃ c,W1.heap.size=c:=⟨_,rfl⟩
     rw [hc] at AL
     have hcn:b+1<c:=by have:=(UP.out _ hb_W1.out).2.2.2.2.2.2;omega
     have hb_W7:Hid (Below w3.heap.size w3 W7):=hb_W1.out.trans (bz.mono hb_W1.out.size)
     clear bz hb_W1
     go_wp2
     refine ⟨(UP.out _ hb_W7.out).1,?_⟩
     refine Mixed.wpMixT_loud rfl (by kernel_rfl) ?_
     go_wp2_with fail
     refine (N2.out _ _ (UP.out _ hb_W7.out).2.2.2.2.1 (UP.out _ hb_W7.out).2.2.1).mono ?_
     rintro e W8 ⟨rfl,hb⟩
     have hb_W8:Hid (Below w3.heap.size w3 W8):=hb_W7.out.trans (hb.mono hb_W7.out.size)
     have AL:=(hb.block _ (Array.getElem?_eq_some_iff.1 AL).1).trans AL
     clear hb hb_W7
     go_wp2
     refine ⟨(UP.out _ hb_W8.out).1,?_⟩
     refine Mixed.wpMixT_loud rfl (by kernel_rfl) ?_
     go_wp2_with fail
     refine (FI.out _ (UP.out _ hb_W8.out).2.1).mono ?_
     rintro e W9 ⟨v,rfl,hO,hb⟩
     obtain ⟨A2,c2,hv,hP,-⟩:=hO.ops
     rw [LN.out] at hv
     subst hv
     have HP:=Lib.hid hP
     clear hP hO
     have hb_W9:Hid (Below w3.heap.size w3 W9):=hb_W8.out.trans (hb.mono hb_W8.out.size)
     have AL:=(hb.block _ (Array.getElem?_eq_some_iff.1 AL).1).trans AL
     clear hb hb_W8
     go_wp2
     refine ⟨(UP.out _ hb_W9.out).1,?_⟩
     refine Mixed.wpMixT_pure rfl (by kernel_rfl) (.tuple #[.agg #[.string (sB m),.slice A2 l c2],.bool true]) (fun w h=>by clear h;go_simp;try rfl) ?_
     refine Mixed.wpMixT_pure rfl (by kernel_rfl) (.agg #[.string (sB m),.slice A2 l c2]) (fun w h=>by clear h;go_simp;try rfl) ?_
     refine Mixed.wpMixT_pure rfl (by kernel_rfl) (.bool true) (fun w h=>by clear h;go_simp;try rfl) ?_
     refine Mixed.wpMixT_loud rfl (by kernel_rfl) ?_
     have u0:=Lib.cell_of_heap AL 0
     have u1:=Lib.cell_of_heap AL 1
     have u2:=Lib.frozen_of_heap AL
     have HD:=Lib.hid (fin_ins (n:=n) (by omega) AL HP.out (UP.out _ hb_W9.out).2.2.1 (UP.out _ hb_W9.out).1.1 (sB m) A2 l c2)
     have HB9:Hid (Below n w W9):=(UP.out _ hb_W9.out).2.2.2.2.2.1
     have KC:=Lib.hid (UP.out _ hb_W9.out).1
     clear AL HP hb_W9
     go_wp2
     refine ⟨⟨(HD.out.2.2.2.2.2 n (by omega)).trans KC.out.1,(HD.out.2.2.2.2.2 (n+1) (by omega)).trans KC.out.2.1,(HD.out.2.2.2.2.2 b (by omega)).trans KC.out.2.2.1,(HD.out.2.2.2.2.2 (b+1) (by omega)).trans KC.out.2.2.2⟩,?_⟩
     simp only [Mixed.wpMixT,List.drop_succ_cons,List.drop_zero]
     go_wp2
     go_meet
     exact ⟨c,true,A2,c2,l,L2,sB m,rfl,rfl,HD.out.1,HD.out.2.1,LN.out,LL.out,HB9.out.trans HD.out.2.2.2.2.1,HD.out.2.2.2.1,HD.out.2.2.1,rfl⟩
   ·obtain ⟨W10,hW10⟩:∃ z,w3.alloc (.cells #[.string ⟨#[]⟩,.slice none 0 0] 24)=z:=⟨_,rfl⟩
    have AL:W10.heap[w3.heap.size]?=some (.cells #[.string ⟨#[]⟩,.slice none 0 0] 24 (0,0)):=by rw [← hW10];exact World.alloc_heap_new _ _
    have bz:Below w3.heap.size w3 W10:=by rw [← hW10];exact (Below.refl _ _).alloc (Nat.le_refl _) _
    obtain ⟨c,hc⟩:∃ c,w3.heap.size=c:=⟨_,rfl⟩
    rw [hc] at AL
    have hcn:b+1<c:=by have:=(UP.out _ hb_w3.out).2.2.2.2.2.2;omega
    have hb_W10:Hid (Below w3.heap.size w3 W10):=hb_w3.out.trans (bz.mono hb_w3.out.size)
    clear bz hb_w3
    go_wp2
    refine ⟨(UP.out _ hb_W10.out).1,?_⟩
    refine Mixed.wpMixT_loud rfl (by kernel_rfl) ?_
    go_wp2_with fail
    refine (N1.out _ _ (UP.out _ hb_W10.out).2.2.2.1 (UP.out _ hb_W10.out).2.2.1).mono ?_
    rintro e W11 ⟨rfl,hb⟩
    have hb_W11:Hid (Below w3.heap.size w3 W11):=hb_W10.out.trans (hb.mono hb_W10.out.size)
    have AL:=(hb.block _ (Array.getElem?_eq_some_iff.1 AL).1).trans AL
    clear hb hb_W10
    go_wp2
    refine ⟨(UP.out _ hb_W11.out).1,?_⟩
    refine Mixed.wpMixT_loud rfl (by kernel_rfl) ?_
    go_wp2_with fail
    refine (N2.out _ _ (UP.out _ hb_W11.out).2.2.2.2.1 (UP.out _ hb_W11.out).2.2.1).mono ?_
    rintro e W12 ⟨rfl,hb⟩
    have hb_W12:Hid (Below w3.heap.size w3 W12):=hb_W11.out.trans (hb.mono hb_W11.out.size)
    have AL:=(hb.block _ (Array.getElem?_eq_some_iff.1 AL).1).trans AL
    clear hb hb_W11
    go_wp2
    refine ⟨(UP.out _ hb_W12.out).1,?_⟩
    refine Mixed.wpMixT_loud rfl (by kernel_rfl) ?_
    go_wp2_with fail
    refine (FI.out _ (UP.out _ hb_W12.out).2.1).mono ?_
    rintro e W13 ⟨v,rfl,hO,hb⟩
    obtain ⟨A2,c2,hv,hP,-⟩:=hO.ops
    rw [LN.out] at hv
    subst hv
    have HP:=Lib.hid hP
    clear hP hO
    have hb_W13:Hid (Below w3.heap.size w3 W13):=hb_W12.out.trans (hb.mono hb_W12.out.size)
    have AL:=(hb.block _ (Array.getElem?_eq_some_iff.1 AL).1).trans AL
    clear hb hb_W12
    go_wp2
    refine ⟨(UP.out _ hb_W13.out).1,?_⟩
    refine Mixed.wpMixT_pure rfl (by kernel_rfl) (.tuple #[.agg #[.string (sB m),.slice A2 l c2],.bool true]) (fun w h=>by clear h;go_simp;try rfl) ?_
    refine Mixed.wpMixT_pure rfl (by kernel_rfl) (.agg #[.string (sB m),.slice A2 l c2]) (fun w h=>by clear h;go_simp;try rfl) ?_
    refine Mixed.wpMixT_pure rfl (by kernel_rfl) (.bool true) (fun w h=>by clear h;go_simp;try rfl) ?_
    refine Mixed.wpMixT_loud rfl (by kernel_rfl) ?_
    have u0:=Lib.cell_of_heap AL 0
    have u1:=Lib.cell_of_heap AL 1
    have u2:=Lib.frozen_of_heap AL
    have HD:=Lib.hid (fin_ins (n:=n) (by omega) AL HP.out (UP.out _ hb_W13.out).2.2.1 (UP.out _ hb_W13.out).1.1 (sB m) A2 l c2)
    have HB9:Hid (Below n w W13):=(UP.out _ hb_W13.out).2.2.2.2.2.1
    have KC:=Lib.hid (UP.out _ hb_W13.out).1
    clear AL HP hb_W13
    go_wp2
    refine ⟨⟨(HD.out.2.2.2.2.2 n (by omega)).trans KC.out.1,(HD.out.2.2.2.2.2 (n+1) (by omega)).trans KC.out.2.1,(HD.out.2.2.2.2.2 b (by omega)).trans KC.out.2.2.1,(HD.out.2.2.2.2.2 (b+1) (by omega)).trans KC.out.2.2.2⟩,?_⟩
    simp only [Mixed.wpMixT,List.drop_succ_cons,List.drop_zero]
    go_wp2
    go_meet
    exact ⟨c,true,A2,c2,l,L2,sB m,rfl,rfl,HD.out.1,HD.out.2.1,LN.out,LL.out,HB9.out.trans HD.out.2.2.2.2.1,HD.out.2.2.2.1,HD.out.2.2.1,rfl⟩
 case rest=>
  obtain ⟨c,k,A2,c2,n2,L2,u,rfl,rfl,R⟩:=hcut
  obtain ⟨r1,r2,r3,r4,r5,r6,r7,r8⟩:=R.out
  have S:=Lib.hid (SM.out u A2 c2 n2 L2 r3 r4 wc r2 r7)
  obtain ⟨tt,htt⟩:∃ z,(decide (u=s)&&decide (L2=C))=z:=⟨_,rfl⟩
  rw [htt] at S r8
  have R8:Hid (hasV m L ex s C=(k&&tt)):=by show _=_;rw [HV.out];exact r8
  have R5:=Lib.hid r5
  have v0:=Lib.cell_of_heap r1 0
  have v1:=Lib.cell_of_heap r1 1
  have v2:=Lib.cell_of_heap r6 0
  have v3:=Lib.cell_of_heap r6 1
  have SZ:Hid (n≤wc.heap.size):=Nat.le_of_lt (Array.getElem?_eq_some_iff.1 r6).1
  clear r1 r2 r3 r4 r5 r6 r7 r8 R htt SM FI N1 N2 UP hb_w3 HV LN
  cases k with
  | false=>
   go_wp2
   go_ret
   exact ⟨by rw [R8.out];rfl,by rw [HN.out];exact R5.out⟩
  | true=>
   go_wp2_with fail
   refine S.out.mono ?_
   rintro e w9 ⟨rfl,hb⟩
   have B9:Hid (Below n w w9):=R5.out.trans (hb.mono SZ.out)
   clear hb S
   go_wp2
   go_ret
   exact ⟨by rw [R8.out,Bool.true_and];rfl,by rw [HN.out];exact B9.out⟩
end Go.Proofs.YtajlleeonddinaaGreatDoor
