/-
  DgE, DgF, MixE, DgG.
-/
import Derived.Test.YtajlleeonddinaaGreatDoorGAZ
import Derived.Test.YtajlleeonddinaaGreatDoorGAU
import Derived.Test.YtajlleeonddinaaGreatDoorGAV
import Derived.Test.YtajlleeonddinaaGreatDoorGAJ
import Derived.Test.YtajlleeonddinaaGreatDoorMSeN
import Derived.Laws.Tables
import Derived.Laws.CopyOwn
set_option linter.all false
set_option maxRecDepth 100000
set_option maxHeartbeats 4000000
namespace Go.Proofs.YtajlleeonddinaaGreatDoor
open Go.RowKit Go.Shelf
attribute [local go_sem] Oper.semAt_some
attribute [local irreducible] Go.Mixed.wpMixT
section
variable {w0 w w':World} {D:Nat} {S:Value} {k:Nat} {p nd d n:Int}
theorem OwnT.dk {B:Nat} {v:Value} {L:List Tr} (h:OwnT w B v L) (hB:D<B) (K:DK D w w'):OwnT w' B v L:=by
 refine ⟨h.1,?_⟩
 rcases h.2 with e | ⟨g,cap,cur,e1,e2,e3,e4⟩
 ·exact .inl e
 ·exact .inr ⟨g,cap,cur,e1,e2,(K.same g (Array.getElem?_eq_some_iff.1 e3).1 (by omega)).trans e3,e4⟩
theorem DK.blk (K:DK D w w') {g:Nat} {o:Obj} (h:w.heap[g]?=some o) (hg:g≠D):w'.heap[g]?=some o:=(K.same g (Array.getElem?_eq_some_iff.1 h).1 hg).trans h
theorem Dec.iterAt (h:Dec w0 D S w k p nd d n) {it:Nat} (hit:D<it) (s:ByteArray) (j:Nat):Dec w0 D S (w.iterAt it s j) k p nd d n:=
 ⟨(Lib.iterAt_other _ _ _ _ _ (by omega)).trans h.blk,Lib.below_iterAt h.bel (by omega) _ _⟩
theorem DK.iterAt (K:DK D w w') {it:Nat} (hit:w.heap.size≤it) (s:ByteArray) (j:Nat):DK D w (w'.iterAt it s j):=
 ⟨by have:=K.size;have h:=(Lib.below_iterAt (Below.refl it w') (Nat.le_refl _) s j).size;omega,fun k hk hb=>(Lib.iterAt_other _ _ _ _ _ (by omega)).trans (K.same k hk hb)⟩
end
theorem OwnT.opsP {w:World} {B n c:Nat} {A:Option Addr} {L:List Tr} (h:OwnT w B (.slice A n c) L):OpsP w A L:=by
 obtain ⟨A',c',e,hp,-⟩:=h.ops
 simp only [Value.slice.injEq] at e
 obtain ⟨rfl,-,-⟩:=e
 exact hp
theorem beh2 {g:Int} {i:Nat} {ex:Str} (h:ExP g i ex):(behS g ex).length≤2∧∀ k (hk:k<(behS g ex).length),(behS g ex)[k]=100∨(behS g ex)[k]=101∨(behS g ex)[k]=110∨(behS g ex)[k]=119:=by
 unfold behS
 by_cases h5:5≤g
 ·rw [if_pos h5]
  exact ⟨Nat.zero_le _,fun k hk=>absurd hk (Nat.not_lt_zero _)⟩
 ·rw [if_neg h5]
  exact ⟨ex_len h,fun k hk=>ex_let h hk⟩
structure DL (w0 wb wr:World) (D:Nat) (b:Str) (S:Value) (l it:Nat) (s2:Str) (k:Nat) (p sz:Int) (s0:Int×Int) (j:Nat):Prop where
 le:j≤s2.length
 iter:wr.heap[it]?=some (.stringIter (sB s2) j)
 dec:Dec w0 D S wr (k+sumN s2 j) p sz (mS s0 s2 b k j).1 (mS s0 s2 b k j).2
 kl:k+sumN s2 j≤l
 dk:DK D wb wr
theorem DL.next {w0 wb wr:World} {D:Nat} {b:Str} {S:Value} {l it:Nat} {s2:Str} {k:Nat} {p sz:Int} {s0:Int×Int} {j:Nat} (L:DL w0 wb wr D b S l it s2 k p sz s0 j) (hD:D<it) (hit:wb.heap.size≤it) :
  Dec w0 D S (wr.iterAt it (sB s2) (j+1)) (k+sumN s2 j) p sz (mS s0 s2 b k j).1 (mS s0 s2 b k j).2∧DK D wb (wr.iterAt it (sB s2) (j+1))∧(wr.iterAt it (sB s2) (j+1)).heap[it]?=some (.stringIter (sB s2) (j+1)):=
 ⟨L.dec.iterAt hD _ _,L.dk.iterAt hit _ _,Lib.iterAt_heap _ _ _ _ _ L.iter⟩
theorem DL.put {w0 wb wr w2:World} {D:Nat} {b:Str} {S:Value} {l it:Nat} {s2:Str} {k:Nat} {p sz:Int} {s0:Int×Int} {j:Nat} (L:DL w0 wb wr D b S l it s2 k p sz s0 j) (hD:D<it) (hit:wb.heap.size≤it) (hj:j<s2.length)
  (hl:k+sumN s2 j+letN s2[j]≤l) (X:Dec w0 D S w2 (k+sumN s2 j+letN s2[j]) p sz (stepL s2[j] (b.drop (k+sumN s2 j)) (mS s0 s2 b k j)).1 (stepL s2[j] (b.drop (k+sumN s2 j)) (mS s0 s2 b k j)).2) (K:DK D (wr.iterAt it (sB s2) (j+1)) w2) :
  DL w0 wb w2 D b S l it s2 k p sz s0 (j+1):=by
 obtain ⟨n1,n2,n3⟩:=L.next hD hit
 refine ⟨hj,K.blk n3 (by omega),?_,?_,n2.trans K⟩
 ·rw [mS_succ s0 b k hj,sumN_succ s2 j hj,← Nat.add_assoc]
  exact X
 ·rw [sumN_succ s2 j hj]
  omega
theorem dl_start {w0 w1:World} {D:Nat} {b:Str} {S:Value} {l:Nat} {s2:Str} {k:Nat} {p sz:Int} {s0:Int×Int} (X:Dec w0 D S w1 k p sz s0.1 s0.2) (hk:k≤l):DL w0 w1 (w1.iter (sB s2) 0) D b S l w1.heap.size s2 k p sz s0 0:=by
 have hal:Below w1.heap.size w1 (w1.iter (sB s2) 0):=(Below.refl _ w1).alloc (Nat.le_refl _) _
 exact ⟨Nat.zero_le _,World.iter_heap _ _ _,X.all hal,hk,DK.of_below hal⟩
theorem ins_put {w0 wr w:World} {D:Nat} {S:Value} {k:Nat} {p nd d n:Int} {c B:Nat} {v0 v1 u:Value} {C:List Tr} (X:Dec w0 D S w k p nd d n) (K:DK D wr w) (hD:D<wr.heap.size) (h:w.heap[c]?=some (.cells #[v0,v1] 24 (0,0))) (hc:wr.heap.size≤c) (O:OwnT w B u C) (x:Value) :
  ∃ w',(w.setCell ⟨c,0,none⟩ x).setCell ⟨c,1,none⟩ u=w'∧w'.heap[c]?=some (.cells #[x,u] 24 (0,0))∧OwnT w' B u C∧Dec w0 D S w' k p nd d n∧DK D wr w':=by
 have s:∀ k,k≠c→((w.setCell ⟨c,0,none⟩ x).setCell ⟨c,1,none⟩ u).heap[k]?=w.heap[k]?:=fun k hk=>(heap_setCell_other _ ⟨c,1,none⟩ k _ hk).trans (heap_setCell_other _ ⟨c,0,none⟩ k _ hk)
 have b:Below c w ((w.setCell ⟨c,0,none⟩ x).setCell ⟨c,1,none⟩ u):=((Below.refl c w).setCell (p:=⟨c,0,none⟩) (Nat.le_refl _) _).setCell (p:=⟨c,1,none⟩) (Nat.le_refl _) _
 refine ⟨_,rfl,heap_setCell_same _ c 1 _ _ u (heap_setCell_same w c 0 _ _ x h),⟨O.1,?_⟩,⟨(s D (by omega)).trans X.blk,X.bel.trans (b.mono (by omega))⟩,⟨Nat.le_trans K.size b.size,fun k hk hb=>(s k (by omega)).trans (K.same k hk hb)⟩⟩
 rcases O.2 with e | ⟨g,cap,cur,e1,e2,e3,e4⟩
 ·exact .inl e
 ·refine .inr ⟨g,cap,cur,e1,e2,(s g (fun e=>?_)).trans e3,e4⟩
  subst e
  rw [h] at e3
  simp at e3
def RetDI (w0:World) (D:Nat) (S:Value) (b:Str) (l:Nat) (w:World) (k:Nat) (p sz:Int) (s2:Str) (m:Str) (C:List Tr) (al:Bool) (e:Ending) (w':World):Prop:=
 (k+sumN s2 s2.length≤l∧(∃ B c2,e=.returned (.agg #[.int .i64 1,.slice none 0 0,.string (sB m),.slice B C.length c2,.bool al])∧OwnT w' w.heap.size (.slice B C.length c2) C)∧(∃ d n,Dec w0 D S w' (k+sumN s2 s2.length) p sz d n)∧DK D w w')∨
 (l<k+sumN s2 s2.length∧DMiss w0 D S w e w' l p sz)
theorem dinstr_any {w0:World} {D:Nat} {b:Str} {A:Option Addr} {l cap:Nat} (H:DH w0 D b A l cap) {w:World} {k:Nat} (hk:k≤l) {p nd d n:Int} (X:Dec w0 D (.slice A l cap) w k p nd d n)
  {i:Nat} {ex:Str} (hx:ExP p i ex) (op:Int) (m:Str) (hm:m.length≤1000) (hup:upB (sB m)=sB m) (Ae:Option Addr) (ne ce:Nat) (L:List Tr) (hne:L.length=ne) (hne2:ne≤1000) (al:Bool) (B:Nat) (hB:D<B) (O:OwnT w B (.slice Ae ne ce) L)
  (C:List Tr) (hC:k+sumN (behS p ex) (behS p ex).length≤l→fillV ex L (mS (d,n) (behS p ex) b k (behS p ex).length).1 (mS (d,n) (behS p ex) b k (behS p ex).length).2=some C) :
  Calls Tryz.prog 160 #[.pointer (some ⟨D,0,none⟩),enV p op m (.slice Ae ne ce) ex al] w (RetDI w0 D (.slice A l cap) b l w k p (sizeT p ex:Nat) (behS p ex) m C al):=by
 have hexl:=ex_len hx
 have SZ:=fun w=>size_any p op m Ae ne ce ex (by omega) al w
 have FI:=Lib.hid (fun d q w h=>fill_any p op m hm Ae ce ne L hne hne2 ex (by omega) al d q w h)
 obtain ⟨sz,hsz⟩:∃ z,sizeT p ex=z:=⟨_,rfl⟩
 rw [hsz] at SZ ⊢
 have HEX:=Lib.hid hx
 obtain ⟨hp0,hp6⟩:=hx.pg
 obtain ⟨s2,hs2,hbl,hlet,hC⟩:∃ s2,behS p ex=s2∧s2.length≤2∧(∀ k (hk:k<s2.length),s2[k]=100∨s2[k]=101∨s2[k]=110∨s2[k]=119)∧(k+sumN s2 s2.length≤l→fillV ex L (mS (d,n) s2 b k s2.length).1 (mS (d,n) s2 b k s2.length).2=some C):=⟨_,rfl,(beh2 hx).1,(beh2 hx).2,hC⟩
 rw [hs2]
 have HLET:=Lib.hid hlet
 have HS2:=Lib.hid hs2
 have HHI:Hid (5≤p→ex=[100]):=hx.hi
 have TK:=Lib.hid (fun w k hk p nd d n X c hc=>take_any H (w:=w) (k:=k) hk (p:=p) (nd:=nd) (d:=d) (n:=n) X (c:=c) hc)
 have DI:=Lib.hid (fun w X=>isDisp_any H hk (w:=w) (p:=p) (nd:=(sz:Int)) (d:=d) (n:=n) X)
 -- the two boxes
 obtain ⟨E,hE⟩:∃ z,w.heap.size=z:=⟨_,rfl⟩
 obtain ⟨wE,hwE⟩:∃ z,w.alloc (.cells #[.int .i64 p,.int .u8 op,.string (sB m),.slice Ae ne ce,.string (sB ex),.bool al] 134)=z:=⟨_,rfl⟩
 have yE:Below w.heap.size w wE:=by rw [← hwE];exact up_alloc _ _
 have cE:wE.heap[E]?=some (.cells #[.int .i64 p,.int .u8 op,.string (sB m),.slice Ae ne ce,.string (sB ex),.bool al] 134 (0,0)):=by rw [← hwE,← hE];exact World.alloc_heap_new w _
 have zE:wE.heap.size=E+1:=by rw [← hwE,← hE];simp
 obtain ⟨wI,hwI,I0,yI,zI⟩:=it_start wE (E+1) zE
 have XI:=(X.all yE).all yI
 have OI:=Lib.hid ((O.below yE).below yI)
 have KI:=Lib.hid ((DK.of_below (D:=D) yE).trans (DK.of_below yI))
 have cEI:wI.heap[E]?=some (.cells #[.int .i64 p,.int .u8 op,.string (sB m),.slice Ae ne ce,.string (sB ex),.bool al] 134 (0,0)):=(yI.block E (by omega)).trans cE
 have hDE:D<E:=by rw [← hE];exact X.lt
 have CE:=Lib.hid cEI
 have I0:=Lib.hid I0
 have ec0:=Lib.cell_of_heap cEI 0
 have ec1:=Lib.cell_of_heap cEI 1
 have ec2:=Lib.cell_of_heap cEI 2
 have ec3:=Lib.cell_of_heap cEI 3
 have ec4:=Lib.cell_of_heap cEI 4
 have ec5:=Lib.cell_of_heap cEI 5
 have SZ:=SZ wI
 unfold enV at SZ FI ⊢
 have XI:=Lib.hid XI
 have HE:=Lib.hid hE
 have HNE:=Lib.hid hne
 have HC:=Lib.hid hC
 have HK:=Lib.hid hk
 have UP:Hid (∀ wz,DK D wI wz→wz.heap[E]?=some (.cells #[.int .i64 p,.int .u8 op,.string (sB m),.slice Ae ne ce,.string (sB ex),.bool al] 134 (0,0))∧ItAt wz (E+1) 0 (.slice none 0 0) ⟨#[]⟩ (.slice none 0 0) false∧OwnT wz B (.slice Ae ne ce) L∧DK D w wz):=fun wz K=>
  ⟨K.blk CE.out (by omega),K.blk I0.out (by omega),OI.out.dk hB K,KI.out.trans K⟩
 obtain ⟨se,hse⟩:∃ z,sB ex=z:=⟨_,rfl⟩
 have HSE:=Lib.hid hse
 rw [hse] at SZ FI UP hwE ec4 ⊢
 clear H X O yE cE yI cEI hx hsz hs2 hlet hC hne hexl CE I0 OI KI hse
 go_enter Tryz.func160,Tryz.ntmps160
 go_wp2_with fail
 refine SZ.mono ?_
 rintro e w1 ⟨rfl,hb⟩
 have X1:=XI.out.all hb
 obtain ⟨e0,e1,e2,e3,e4,e5,e6⟩:=X1.cells
 have X2:=Lib.hid (X1.set3 sz)
 have K2:Hid (DK D wI (w1.setCell ⟨D,3,none⟩ (.int .i64 (sz:Int)))):=(DK.of_below hb).set 3 _
 clear SZ hb X1 XI ec0 ec1 ec2 ec3 ec4 ec5
 go_upto_region 2 with fail
 obtain ⟨w2,hw2⟩:∃ z,w1.setCell ⟨D,3,none⟩ (.int .i64 (sz:Int))=z:=⟨_,rfl⟩
 rw [hw2] at X2 K2 ⊢
 clear hw2 e0 e1 e2 e3 e4 e5 e6
 obtain ⟨cE2,-,-,-⟩:=UP.out w2 K2.out
 have ec4:=Lib.cell_of_heap cE2 4
 have DI2:=DI.out w2 X2.out
 have ES:Hid ((5≤p→s2=[])∧(¬5≤p→s2=ex)):=by rw [← HS2.out];unfold behS;exact ⟨fun h=>if_pos h,fun h=>if_neg h⟩
 clear cE2 DI X2
 by_cases h5:p=5∨p=6
 case' pos=>
  have ec4':w2.cell? ⟨E,4,none⟩=some (.string ⟨#[100]⟩):=by rw [ec4];show some (Value.string se)=_;rw [← HSE.out,HHI.out (by omega)];rfl
  have S2:=Lib.hid (ES.out.1 (by omega))
  rw [decide_eq_true h5] at DI2
  clear ec4 ES HSE
  go_wp2_with fail
  refine DI2.mono ?_
  rintro e w3 ⟨rfl,h1,h2⟩
  have X3:=h1
  have K3:=Lib.hid (K2.out.trans h2)
  clear h1 h2 K2 DI2
  go_wp2_with fail
  refine (trimD_any w3).mono ?_
  rintro e w7 ⟨rfl,hw⟩
  rw [hw]
  clear hw
  go_upto_region 5 with fail
  rw [show (⟨#[]⟩:ByteArray)=sB s2 from by rw [S2.out];rfl]
  clear S2 ec4'
 case' neg=>
  have ec4':w2.cell? ⟨E,4,none⟩=some (.string (sB s2)):=by rw [ec4];show some (Value.string se)=_;rw [← HSE.out,ES.out.2 (by omega)]
  rw [decide_eq_false h5] at DI2
  clear ec4 ES HSE
  go_wp2_with fail
  refine DI2.mono ?_
  rintro e w3 ⟨rfl,h1,h2⟩
  have X3:=h1
  have K3:=Lib.hid (K2.out.trans h2)
  clear h1 h2 K2 DI2
  go_upto_region 5 with fail
  clear ec4'
 all_goals
  clear h5 HEX HS2 HHI
  have LS:=Lib.hid (dl_start (b:=b) (s2:=s2) (s0:=(d,n)) X3 HK.out)
  obtain ⟨it,hit⟩:∃ z,w3.heap.size=z:=⟨_,rfl⟩
  rw [hit] at LS
  have HIT:=Lib.hid (Nat.le_of_eq hit)
  have hDit:D<it:=by rw [← hit];exact X3.lt
  clear X3
  go_wp2
  go_loopw [] (fun wr=>∃ j,Hid (DL w0 w3 wr D b (.slice A l cap) l it s2 k p sz (d,n) j)) (fun wr=>s2.length - wr.iterPos it)
  case atStart=>exact ⟨0,LS.out⟩
  case round=>
   obtain ⟨j,L⟩:=hrel
   have hlj:=L.out.le
   have hpos:wr.iterPos it=j:=iterPos_of L.out.iter
   by_cases hlt:j<s2.length
   ·obtain ⟨n1,n2,n3⟩:=L.out.next hDit HIT.out
    have T1:=TK.out _ _ L.out.kl _ _ _ _ n1 s2[j] (HLET.out j hlt)
    have PU:=fun w2 hl X K=>L.out.put (w2:=w2) hDit HIT.out hlt hl X K
    have hnx:=next_at L.out.iter hlt _ rfl (by rcases HLET.out j hlt with e | e | e | e <;> rw [e] <;> decide)
    have DK2:=n2
    obtain ⟨cc,hcc⟩:∃ z,s2[j]=z:=⟨_,rfl⟩
    rw [hcc] at T1 PU hnx
    obtain ⟨kk,hkk⟩:∃ z,k+sumN s2 j=z:=⟨_,rfl⟩
    have SJ:Hid (l<kk+letN cc→l<k+sumN s2 s2.length):=fun h=>by
     have h1:=sumN_all s2 (j:=j+1) hlt
     rw [sumN_succ s2 j hlt,hcc] at h1
     omega
    obtain ⟨sj,hsj⟩:∃ z,mS (d,n) s2 b k j=z:=⟨_,rfl⟩
    rw [hkk,hsj] at T1
    rw [hkk,hsj] at PU
    obtain ⟨wn,hwn⟩:∃ z,wr.iterAt it (sB s2) (j+1)=z:=⟨_,rfl⟩
    rw [hwn] at T1 PU hnx DK2
    have PU:=Lib.hid PU
    have T1:=Lib.hid T1
    have DK2:=Lib.hid DK2
    clear n1 n2 n3 hcc hwn hkk hsj
    go_wp2_with fail
    refine T1.out.mono ?_
    rintro e w2 (⟨h,rfl,h1,h2⟩ | ⟨h,rfl,h1,h2⟩)
    ·have L2:=Lib.hid (PU.out w2 h h1 h2)
     clear h h1 h2 T1 hnx PU SJ DK2
     go_wp2
     go_roundw
     case rel=>exact ⟨j+1,L2⟩
     case measure=>rw [iterPos_of L2.out.iter,hpos];omega
    ·have F:Hid (RetDI w0 D (.slice A l cap) b l w k p sz s2 m C al (.panicked missE) w2):=.inr ⟨SJ.out h,rfl,h1,(UP.out _ (K3.out.trans (DK2.out.trans h2))).2.2.2⟩
     clear h h1 h2 T1 hnx PU SJ DK2
     exact ⟨rfl,F.out⟩
   ·have hj:j=s2.length:=by omega
    subst hj
    have hnx:=fun ty=>Lib.run_next_end_at (P:=Tryz.prog) wr it (sB s2) s2.length ty L.out.iter (by rw [sB_size];omega)
    have X9:=L.out.dec
    have hkl:=L.out.kl
    have K9:=Lib.hid (K3.out.trans L.out.dk)
    have HF:=HC.out hkl
    obtain ⟨⟨dd,nn⟩,hdn⟩:∃ z,mS (d,n) s2 b k s2.length=z:=⟨_,rfl⟩
    rw [hdn] at X9 HF
    simp only at X9 HF
    have FW:=fun w h=>FI.out dd nn w h
    rw [HF] at FW
    unfold RetFill at FW
    rw [hup] at FW
    obtain ⟨kk,hkk⟩:∃ z,k+sumN s2 s2.length=z:=⟨_,rfl⟩
    rw [hkk] at X9 hkl
    have HKK:=Lib.hid hkk
    obtain ⟨lc,hlc⟩:∃ z,C.length=z:=⟨_,rfl⟩
    have HLC:=Lib.hid hlc
    obtain ⟨nr,hnr⟩:∃ z,wr.heap.size=z:=⟨_,rfl⟩
    have hDr:=X9.lt
    have HER:Hid (E≤nr):=by have h1:=(UP.out wr K9.out).2.2.2.size;show E≤nr;omega
    have X9:=Lib.hid X9
    have FW:=Lib.hid FW
    clear L hpos hlj LS HLET TK FI HF HC hdn hkk hlc
    go_upto_region 9 with fail
    go_cut [8] (fun pv wx=>∃ (c:Nat) (Bc:Option Addr) (cc:Nat),pv=.pointer (some ⟨c,0,none⟩)∧Hid (wx.heap[c]?=some (.cells #[.string (sB m),.slice Bc lc cc] 24 (0,0))∧OwnT wx E (.slice Bc lc cc) C∧Dec w0 D (.slice A l cap) wx kk p sz dd nn∧DK D wr wx))
    case first=>
     obtain ⟨w4,hw4⟩:∃ z,wr.drew=z:=⟨_,rfl⟩
     have dq:Below wr.heap.size wr w4:=by rw [← hw4];exact below_drewN wr _ 1
     have z4:w4.heap.size=nr:=by rw [← hw4];exact hnr
     have X4:=Lib.hid (X9.out.all dq)
     have K4:=Lib.hid (DK.of_below (D:=D) dq)
     have UQ:Hid (∀ wz,DK D wr wz→wz.heap[E]?=some (.cells #[.int .i64 p,.int .u8 op,.string (sB m),.slice Ae ne ce,.string se,.bool al] 134 (0,0))∧OwnT wz B (.slice Ae ne ce) L):=fun wz K=>by
      obtain ⟨h1,-,h2,-⟩:=UP.out wz (K9.out.trans K)
      exact ⟨h1,h2⟩
     refine Mixed.wp_region_mixedT (fun w'=>w'.heap[E]?=some (.cells #[.int .i64 p,.int .u8 op,.string (sB m),.slice Ae ne ce,.string se,.bool al] 134 (0,0))∧Dec w0 D (.slice A l cap) w' kk p sz dd nn) 15
      (.pure 0 (.pure 1 (.pure 2 (.pure 3 (.pure 4 (.pure 5 (.pure 6 (.pure 7 (.pure 8 (.two 9 (.pure 10 (.pure 11 (.pure 12 (.one 13 (.one 14 .done))))) 13 (.one 9 (.pure 10 (.pure 11 (.pure 12 (.one 14 .done))))))))))))))) (by kernel_rfl) (by kernel_rfl) (by rw [hw4];exact ⟨(UQ.out _ K4.out).1,X4.out⟩) ?_
     rw [hw4]
     clear hw4 hnx
     refine Mixed.wpMixT_pure rfl (by kernel_rfl) (.agg #[.int .i64 p,.int .u8 op,.string (sB m),.slice Ae ne ce,.string se,.bool al]) (fun w h=>by
      obtain ⟨h1,h2⟩:=h
      obtain ⟨q0,q1,q2,q3,q4,q5⟩:=Fr.cells6 h1
      clear h1 h2
      go_simp;try rfl) ?_
     refine Mixed.wpMixT_pure rfl (by kernel_rfl) (.pointer (some ⟨D,0,none⟩)) (fun w h=>by clear h;go_simp;try rfl) ?_
     refine Mixed.wpMixT_pure rfl (by kernel_rfl) (.pointer (some ⟨D,0,none⟩)) (fun w h=>by clear h;go_simp;try rfl) ?_
     refine Mixed.wpMixT_pure rfl (by kernel_rfl) (.pointer (some ⟨D,4,none⟩)) (fun w h=>by clear h;go_simp;try rfl) ?_
     refine Mixed.wpMixT_pure rfl (by kernel_rfl) (.int .i64 dd) (fun w h=>by obtain ⟨h1,h2⟩:=h;obtain ⟨q0,q1,q2,q3,q4,q5,q6⟩:=h2.cells;clear h1 h2;go_simp;try rfl) ?_
     refine Mixed.wpMixT_pure rfl (by kernel_rfl) (.pointer (some ⟨D,0,none⟩)) (fun w h=>by clear h;go_simp;try rfl) ?_
     refine Mixed.wpMixT_pure rfl (by kernel_rfl) (.pointer (some ⟨D,0,none⟩)) (fun w h=>by clear h;go_simp;try rfl) ?_
     refine Mixed.wpMixT_pure rfl (by kernel_rfl) (.pointer (some ⟨D,5,none⟩)) (fun w h=>by clear h;go_simp;try rfl) ?_
     refine Mixed.wpMixT_pure rfl (by kernel_rfl) (.int .i64 nn) (fun w h=>by obtain ⟨h1,h2⟩:=h;obtain ⟨q0,q1,q2,q3,q4,q5,q6⟩:=h2.cells;clear h1 h2;go_simp;try rfl) ?_
     refine Mixed.wpMixT_both rfl (by kernel_rfl) rfl (by kernel_rfl) ?_ ?_
     ·have C4:=FW.out w4 (UQ.out _ K4.out).2.opsP
      go_wp2_with fail
      refine C4.mono ?_
      rintro e w5 ⟨v,rfl,hO,hb⟩
      obtain ⟨Bc,cc,rfl,-,-⟩:=hO.ops
      rw [HLC.out] at hO ⊢
      have X5:=Lib.hid (X4.out.all hb)
      have K5:=Lib.hid (K4.out.trans (DK.of_below hb))
      have O5:=Lib.hid (show OwnT w5 E (.slice Bc lc cc) C from row_mono hO (by have:=HER.out;omega))
      have z5:nr≤w5.heap.size:=by have:=hb.size;omega
      clear C4 hb hO X4 K4
      go_wp2
      refine ⟨⟨(UQ.out _ K5.out).1,X5.out⟩,?_⟩
      refine Mixed.wpMixT_pure rfl (by kernel_rfl) (.tuple #[.agg #[.string (sB m),.slice Bc lc cc],.bool true]) (fun w h=>by clear h;go_simp;try rfl) ?_
      refine Mixed.wpMixT_pure rfl (by kernel_rfl) (.agg #[.string (sB m),.slice Bc lc cc]) (fun w h=>by clear h;go_simp;try rfl) ?_
      refine Mixed.wpMixT_pure rfl (by kernel_rfl) (.bool true) (fun w h=>by clear h;go_simp;try rfl) ?_
      refine Mixed.wpMixT_loud rfl (by kernel_rfl) ?_
      obtain ⟨c,w6,hc,hw6,S6,y6,z6⟩:=Fr.box (Fr.nil w5) #[.string ⟨#[]⟩,.slice none 0 0] 24
      have b6:w6.heap[c]?=some (.cells #[.string ⟨#[]⟩,.slice none 0 0] 24 (0,0)):=S6.out.1
      have X6:=Lib.hid (X5.out.all y6)
      have K6:=Lib.hid (K5.out.trans (DK.of_below y6))
      have O6:=Lib.hid (O5.out.below y6)
      have hcr:nr≤c:=by omega
      clear S6 y6 X5 K5 O5
      go_wp2
      refine ⟨⟨(UQ.out _ K6.out).1,X6.out⟩,?_⟩
      refine Mixed.wpMixT_loud rfl (by kernel_rfl) ?_
      obtain ⟨w7,hw7,c7,o7,x7,k7⟩:=ins_put X6.out K6.out (by omega) b6 (by omega) O6.out (.string (sB m))
      obtain ⟨b60,b61⟩:=Fr.cells2 b6
      have fz:=fun i=>Lib.frozen_of_heap b6 i
      have F:=Lib.hid (⟨c7,o7,x7,k7⟩:w7.heap[c]?=some (.cells #[.string (sB m),.slice Bc lc cc] 24 (0,0))∧OwnT w7 E (.slice Bc lc cc) C∧Dec w0 D (.slice A l cap) w7 kk p sz dd nn∧DK D wr w7)
      clear c7 o7 x7 k7 X6 K6 O6 b6
      go_wp2
      refine ⟨⟨(UQ.out _ F.out.2.2.2).1,F.out.2.2.1⟩,?_⟩
      simp only [Mixed.wpMixT,List.drop_succ_cons,List.drop_zero]
      go_wp2
      go_meet
      exact ⟨c,Bc,cc,rfl,F⟩
     ·obtain ⟨c,w6,hc,hw6,S6,y6,z6⟩:=Fr.box (Fr.nil w4) #[.string ⟨#[]⟩,.slice none 0 0] 24
      have b6:w6.heap[c]?=some (.cells #[.string ⟨#[]⟩,.slice none 0 0] 24 (0,0)):=S6.out.1
      have X6:=Lib.hid (X4.out.all y6)
      have K6:=Lib.hid (K4.out.trans (DK.of_below y6))
      obtain rfl:c=nr:=by omega
      have hcr:c≤c:=Nat.le_refl _
      have hE6:Hid (E≤w6.heap.size):=by have:=HER.out;show _≤_;omega
      have C4:=FW.out w6 (UQ.out _ K6.out).2.opsP
      clear S6 y6 X4 K4
      go_wp2
      refine ⟨⟨(UQ.out _ K6.out).1,X6.out⟩,?_⟩
      refine Mixed.wpMixT_loud rfl (by kernel_rfl) ?_
      go_wp2_with fail
      refine C4.mono ?_
      rintro e w5 ⟨v,rfl,hO,hb⟩
      obtain ⟨Bc,cc,rfl,-,-⟩:=hO.ops
      rw [HLC.out] at hO ⊢
      have X5:=Lib.hid (X6.out.all hb)
      have K5:=Lib.hid (K6.out.trans (DK.of_below hb))
      have O5:=Lib.hid (show OwnT w5 E (.slice Bc lc cc) C from row_mono hO hE6.out)
      have b5:w5.heap[c]?=some (.cells #[.string ⟨#[]⟩,.slice none 0 0] 24 (0,0)):=(hb.block c (by omega)).trans b6
      clear C4 hb hO X6 K6 b6
      go_wp2
      refine ⟨⟨(UQ.out _ K5.out).1,X5.out⟩,?_⟩
      refine Mixed.wpMixT_pure rfl (by kernel_rfl) (.tuple #[.agg #[.string (sB m),.slice Bc lc cc],.bool true]) (fun w h=>by clear h;go_simp;try rfl) ?_
      refine Mixed.wpMixT_pure rfl (by kernel_rfl) (.agg #[.string (sB m),.slice Bc lc cc]) (fun w h=>by clear h;go_simp;try rfl) ?_
      refine Mixed.wpMixT_pure rfl (by kernel_rfl) (.bool true) (fun w h=>by clear h;go_simp;try rfl) ?_
      refine Mixed.wpMixT_loud rfl (by kernel_rfl) ?_
      obtain ⟨w7,hw7,c7,o7,x7,k7⟩:=ins_put X5.out K5.out (by omega) b5 (by omega) O5.out (.string (sB m))
      obtain ⟨b60,b61⟩:=Fr.cells2 b5
      have fz:=fun i=>Lib.frozen_of_heap b5 i
      have F:=Lib.hid (⟨c7,o7,x7,k7⟩:w7.heap[c]?=some (.cells #[.string (sB m),.slice Bc lc cc] 24 (0,0))∧OwnT w7 E (.slice Bc lc cc) C∧Dec w0 D (.slice A l cap) w7 kk p sz dd nn∧DK D wr w7)
      clear c7 o7 x7 k7 X5 K5 O5 b5
      go_wp2
      refine ⟨⟨(UQ.out _ F.out.2.2.2).1,F.out.2.2.1⟩,?_⟩
      simp only [Mixed.wpMixT,List.drop_succ_cons,List.drop_zero]
      go_wp2
      go_meet
      exact ⟨c,Bc,cc,rfl,F⟩
    case rest=>
     obtain ⟨c,Bc,cc,rfl,R⟩:=hcut
     obtain ⟨cE,cI,-,kW⟩:=UP.out wc (K9.out.trans R.out.2.2.2)
     obtain ⟨b0,b1⟩:=Fr.cells2 R.out.1
     obtain ⟨q0,q1,q2,q3,q4,q5⟩:=Fr.cells6 cE
     obtain ⟨f0,f1,f2,f3,f4,f5⟩:=cI.cells
     obtain ⟨wz,hwz,i1,i2,i3,i4,i5,i6⟩:=cI.put 1 (.slice none 0 0) (sB m) (.slice Bc lc cc) al
     have F:Hid (RetDI w0 D (.slice A l cap) b l w k p sz s2 m C al (.returned (.agg #[.int .i64 1,.slice none 0 0,.string (sB m),.slice Bc lc cc,.bool al])) wz):=
      .inl ⟨by rw [HKK.out];exact hkl,⟨Bc,cc,by rw [HLC.out],by rw [HLC.out,HE.out];exact it_ownT cI R.out.2.1 i6⟩,⟨dd,nn,by rw [HKK.out];exact ⟨(i2.block D (by omega)).trans R.out.2.2.1.blk,R.out.2.2.1.bel.trans (i2.mono (by omega))⟩⟩,
       ⟨Nat.le_trans kW.size i2.size,fun k hk hb=>(i6 k (by omega)).trans (kW.same k hk hb)⟩⟩
     obtain ⟨j0,j1,j2,j3,j4,j5⟩:=i1.cells
     clear R cE cI kW i1 i2 i3 i4 i5 i6 UP K9 X9 FW q0 q1 q2 q3 q4
     go_wp2
     refine bodyPost_ret (v:=.agg #[.int .i64 1,.slice none 0 0,.string (sB m),.slice Bc lc cc,.bool al]) ?_ rfl F.out
     simp [results,Tryz.results160,go_sem,j0,j1,j2,j3,j4]
end Go.Proofs.YtajlleeonddinaaGreatDoor
namespace Go.Proofs.YtajlleeonddinaaGreatDoor
open Go.RowKit Go.Shelf
attribute [local go_sem] Oper.semAt_some
def kkP (p:Int):Nat:=(preS p).length+if 5≤p then 2 else 1
theorem missB {p:Int} (hp:0≤p∧p≤6) {b r:Str} (hb:b=preS p++r) (h:b.length<kkP p):itR b=iteO 4 b∧needR b=kkP p:=by
 subst hb
 unfold kkP at h ⊢
 rw [List.length_append] at h
 by_cases h5:5≤p
 ·rw [if_pos h5] at h ⊢
  rw [pre_5 ⟨h5,hp.2⟩]
  exact miss5 ⟨h5,hp.2⟩ (by omega)
 ·rw [if_neg h5] at h ⊢
  obtain rfl:r=[]:=List.length_eq_zero_iff.1 (by omega)
  rw [List.append_nil]
  exact miss4 ⟨hp.1,by omega⟩
theorem hasB {p:Int} (hp:0≤p∧p≤6) {b r:Str} (hb:b=preS p++r) (h:kkP p≤b.length) :
  ∃ o t,b.getD (kkP p - 1) 0=o∧(p≤4→b=preS p++o :: t∧b.drop (kkP p)=t)∧(5≤p→hdB b=some (p,o,t)∧∃ u,t=b.getD (preS p).length 0 :: u):=by
 subst hb
 unfold kkP at h ⊢
 rw [List.length_append] at h
 by_cases h5:5≤p
 ·rw [if_pos h5] at h ⊢
  match r,h with
  | [],h=>exact absurd h (by simp only [List.length_nil];omega)
  | [x],h=>exact absurd h (by simp only [List.length_nil,List.length_cons];omega)
  | x :: o :: u,h=>
   refine ⟨o,x :: u,?_,fun h4=>by omega,fun _=>⟨hd_at5 ⟨h5,hp.2⟩ x o u,u,?_⟩⟩
   ·rw [List.getD_eq_getElem?_getD,List.getElem?_append_right (by omega),show (preS p).length+2 - 1 - (preS p).length=1 by omega];rfl
   ·rw [List.getD_eq_getElem?_getD,List.getElem?_append_right (by omega),Nat.sub_self];rfl
 ·rw [if_neg h5] at h ⊢
  match r,h with
  | [],h=>exact absurd h (by simp only [List.length_nil];omega)
  | o :: t,h=>
   refine ⟨o,t,?_,fun _=>⟨rfl,?_⟩,fun h=>absurd h h5⟩
   ·rw [List.getD_eq_getElem?_getD,List.getElem?_append_right (by omega),show (preS p).length+1 - 1 - (preS p).length=0 by omega];rfl
   ·rw [List.drop_append]
    simp
theorem sz_kk {p:Int} {i:Nat} {ex:Str} (hx:ExP p i ex):kkP p+sumN (behS p ex) (behS p ex).length=sizeT p ex:=by
 unfold kkP behS sizeT
 by_cases h5:5≤p
 ·rw [if_pos h5,if_pos h5,hx.hi h5]
  rfl
 ·rw [if_neg h5,if_neg h5]
def ddP (b:Str) (p d:Int):Int:=if 5≤p then sgB (b.getD (preS p).length 0) else d
theorem num_kk {p:Int} {i:Nat} {ex:Str} (hx:ExP p i ex) {b t:Str} (h4:p≤4→b.drop (kkP p)=t) (h5:5≤p→∃ u,t=b.getD (preS p).length 0 :: u) :
  mS (ddP b p 0,0) (behS p ex) b (kkP p) (behS p ex).length=numB ex t:=by
 unfold ddP behS
 by_cases hp:5≤p
 ·obtain ⟨u,rfl⟩:=h5 hp
  rw [if_pos hp,if_pos hp,hx.hi hp,num_d]
  rfl
 ·rw [if_neg hp,if_neg hp,mS_num hx,h4 (by omega)]
theorem opcode_any {w0:World} {D:Nat} {b:Str} {A:Option Addr} {l cap:Nat} (H:DH w0 D b A l cap) {w:World} {p nd d n:Int} (hk:(preS p).length≤l) (X:Dec w0 D (.slice A l cap) w (preS p).length p nd d n) (hp:0≤p∧p≤6) :
  Calls Tryz.prog 159 #[.pointer (some ⟨D,0,none⟩)] w fun e w'=>
   (kkP p≤l∧DOk w0 D (.slice A l cap) w e w' (.int .u8 ((b.getD (kkP p - 1) 0).toNat:Int)) (kkP p) p (kkP p:Nat) (ddP b p d) n)∨(l<kkP p∧DMiss w0 D (.slice A l cap) w e w' l p (kkP p:Nat)):=by
 unfold kkP ddP
 by_cases h5:5≤p
 ·rw [if_pos h5,if_pos h5]
  refine (opcode5_any H hk X (by omega)).mono ?_
  rintro e w' (⟨h,h1⟩ | ⟨h,h1⟩)
  ·exact .inl ⟨h,h1⟩
  ·exact .inr ⟨by omega,h1⟩
 ·rw [if_neg h5,if_neg h5]
  refine (opcode4_any H hk X (by omega)).mono ?_
  rintro e w' (⟨h,h1⟩ | ⟨h,h1⟩)
  ·exact .inl ⟨h,h1⟩
  ·exact .inr ⟨by omega,h1⟩
theorem tat2_any (page:Int) (o:UInt8) (w:World) (hM:MaxAt w):Calls Tryz.prog 158 #[.int .i64 page,.int .u8 (o.toNat:Int)] w fun e w'=>∃ (pp oo:Int) (m:Str) (Av:Option Addr) (nv cv:Nat) (ex:Str) (al:Bool) (kd:Int),
  e=.returned (.tuple #[.agg #[.int .i64 pp,.int .u8 oo,.string (sB m),.slice Av nv cv,.string (sB ex),.bool al],.int .i64 kd])∧Below w.heap.size w w'∧
  (∀ x,ratT page o.toNat=some x→kd=1∧pp=page∧oo=(o.toNat:Int)∧m=x.1∧ex=x.2.2.1∧al=x.2.2.2∧nv=x.2.1.length∧OwnT w' w.heap.size (.slice Av nv cv) x.2.1)∧(ratT page o.toNat=none→kd=rkindT page o.toNat):=by
 refine (tat_any page (o.toNat:Int) (by omega) (by have:=o.toNat_lt;omega) w hM).mono ?_
 rintro e w' ⟨h,hb⟩
 rw [at_same page o.toNat o.toNat_lt] at h
 cases hx:ratT page o.toNat with
 | some x=>
  rw [hx] at h
  obtain ⟨v,rfl,hO⟩:=h
  obtain ⟨Av,cv,rfl,-,-⟩:=hO.ops
  exact ⟨_,_,_,Av,_,cv,_,_,_,rfl,hb,(fun y hy=>by cases hy;exact ⟨rfl,rfl,rfl,rfl,rfl,rfl,rfl,hO⟩),fun h=>by cases h⟩
 | none=>
  rw [hx] at h
  simp only at h
  subst h
  exact ⟨_,_,_,_,_,_,_,_,_,rfl,hb,(fun y hy=>by cases hy),fun _=>ok_none o.toNat_lt hx⟩
theorem ent_put {w0 wr w:World} {D:Nat} {S:Value} {k:Nat} {p nd d n:Int} {c:Nat} {cur:Array Value} (X:Dec w0 D S w k p nd d n) (K:DK D wr w) (hD:D<wr.heap.size) (h:w.heap[c]?=some (.cells cur 134 (0,0))) (hc:wr.heap.size≤c) (cs:Array Value) :
  ∃ w',w.setRow c cs=w'∧w'.heap[c]?=some (.cells cs 134 (0,0))∧Dec w0 D S w' k p nd d n∧DK D wr w'∧∀ B u L,OwnT w B u L→OwnT w' B u L:=by
 have s:∀ k,k≠c→(w.setRow c cs).heap[k]?=w.heap[k]?:=fun k hk=>setRow_other w c k cs hk
 have b:Below c w (w.setRow c cs):=below_setRow (Below.refl c w) (Nat.le_refl _) cs
 refine ⟨_,rfl,setRow_heap w c cur cs 134 (0,0) h,⟨(s D (by omega)).trans X.blk,X.bel.trans (b.mono (by omega))⟩,⟨Nat.le_trans K.size b.size,fun k hk hb=>(s k (by omega)).trans (K.same k hk hb)⟩,fun B u L O=>⟨O.1,?_⟩⟩
 rcases O.2 with e | ⟨g,cap,cur,e1,e2,e3,e4⟩
 ·exact .inl e
 ·refine .inr ⟨g,cap,cur,e1,e2,(s g (fun e=>?_)).trans e3,e4⟩
  subst e
  rw [h] at e3
  simp at e3
end Go.Proofs.YtajlleeonddinaaGreatDoor
namespace Go.MixE
open Go Go.Mixed
def QE (E:List PanicEntry→List Deferred→World→Prop):Exit→Act→World→Prop
 | .panic ch,a,w=>E ch a.defers w
 | _,_,_=>False
theorem not_letsOut (E:List PanicEntry→List Deferred→World→Prop):¬LetsOut (QE E):=fun ⟨_,_,h⟩=>h
section
variable {P:Program} {ops:Array Oper} {md:Region.Mode} {E:List PanicEntry→List Deferred→World→Prop}
theorem upon_QE {o:Oper} {a:Act} {K K':Act→World→Prop} {Q:Exit→Act→World→Prop} {r:Result Next} (hE:∀ ch a w,E ch a.defers w→Q (.panic ch) a w) (hK:∀ a w,K a w→K' a w) (h:o.upon P a K (QE E) r):o.upon P a K' Q r:=by
 cases r with
 | ok n w'=>
  cases n <;> simp only [Oper.upon] at h ⊢
  case value v=>exact hK _ _ h
  case skip=>exact hK _ _ h
  case defer d=>exact hK _ _ h
  case enter f args=>
   refine h.mono fun e w'' he=>?_
   cases e with
   | returned v=>exact hK _ _ he
   | panicked c=>exact hE _ _ _ he
   | outgrown=>exact absurd he (not_letsOut E)
  case row row args=>exact h.mono fun v w'' hv=>hK _ _ hv
 | halt x w'=>
  cases x <;> simp only [Oper.upon] at h ⊢
  case panic v=>exact hE _ _ _ h
theorem wpOp_QE {i:Nat} {a:Act} {w:World} {K K':Act→World→Prop} {Q:Exit→Act→World→Prop} (hE:∀ ch a w,E ch a.defers w→Q (.panic ch) a w) (hK:∀ a w,K a w→K' a w) (h:wpOp P ops (QE E) i K a w):wpOp P ops Q i K' a w:=by
 unfold wpOp at *
 split
 ·rename_i ho;simp only [ho] at h;exact hK _ _ h
 ·rename_i o ho
  simp only [ho] at h
  split
  ·rename_i hw
   simp only [hw,if_true] at h
   rcases h with h | h
   ·exact .inl (upon_QE hE hK h)
   ·exact absurd h.2 (not_letsOut E)
  ·rename_i hw;simp only [hw] at h;exact hK _ _ h
theorem wpOp_QE' {i:Nat} {a:Act} {w:World} {K K':Act→World→Prop} (hK:∀ a w,K a w→K' a w) (h:wpOp P ops (QE E) i K a w):wpOp P ops (QE E) i K' a w:=wpOp_QE (fun _ _ _ h=>h) hK h
def wpAnyC (P:Program) (md:Region.Mode) (ops:Array Oper) (n:Nat) (C:World→Prop) (E:List PanicEntry→List Deferred→World→Prop) (L:Array Bool→Act→World→Prop):Nat→Array Bool→Act→World→Prop
 | 0,listed,a,w=>C w∧L listed a w
 | f+1,listed,a,w=>C w∧Region.ready md ops listed≠[]∧∀ i∈Region.ready md ops listed,i<n∧wpOp P ops (QE E) i (wpAnyC P md ops n C E L f (listed.setIfInBounds i true)) a w
theorem wpAnyC_C {n:Nat} {C:World→Prop} {L:Array Bool→Act→World→Prop} {f:Nat} {listed:Array Bool} {a:Act} {w:World} (h:wpAnyC P md ops n C E L f listed a w):C w:=by
 cases f <;> exact h.1
theorem wpAny_of_headC {n g:Nat} {C:World→Prop} {L:Array Bool→Act→World→Prop} {Q':Exit→Act→World→Prop} (hE:∀ ch a w,E ch a.defers w→Q' (.panic ch) a w) (hL:∀ listed a w,L listed a w→wpAny P md ops Q' g listed a w) :
  ∀ (f:Nat) (listed:Array Bool) (a:Act) (w:World),wpAnyC P md ops n C E L f listed a w→wpAny P md ops Q' (f+g) listed a w
 | 0,listed,a,w,h=>by rw [Nat.zero_add];exact hL _ _ _ h.2
 | f+1,listed,a,w,h=>by
  rw [show f+1+g=(f+g)+1 by omega]
  exact ⟨fun h0=>absurd h0 h.2.1,fun i hi=>wpOp_QE hE (fun a' w' h'=>wpAny_of_headC hE hL f _ a' w' h') (h.2.2 i hi).2⟩
theorem wpOp_put {C:World→Prop} {j:Nat} {oi oj:Oper} {v:Value} (hj:ops[j]?=some oj) (hap:oi.apart ops oj=true)
  (hsi:∀ cs b,oi.op≠.select cs b) (hsj:∀ cs b,oj.op≠.select cs b) {K:Act→World→Prop} {a:Act} {w:World}
  (hy:Pure P ops C oi v a) (h:wpOp P ops (QE E) j K (a.put oi.dst v) w) :
  wpOp P ops (QE E) j (fun a' w'=>Pure P ops C oi v a'∧K (a'.put oi.dst v) w') a w:=by
 obtain ⟨h1,h2,h3⟩:=Oper.apart_spec hap
 have keep:∀ (a:Act),Pure P ops C oi v a→∀ u,Pure P ops C oi v (a.put oj.dst u):=fun a hy u=>
  hy.of_same (execOp_put oi hsi a oj.dst u h3) (wanted_put oi a oj.dst u h3)
 unfold wpOp at *
 simp only [hj] at *
 rw [wanted_put oj a oi.dst v h1] at h
 split
 ·rename_i hw
  simp only [hw,if_true] at h
  rcases h with h | h
  ·left
   unfold Oper.wp at *
   rw [execOp_put oj hsj a oi.dst v h1] at h
   generalize (execOp a.eval oj).run P w=r at *
   cases r with
   | ok n w'=>
    cases n <;> simp only [Oper.upon] at h ⊢
    case value u=>exact ⟨keep a hy u,by rw [← Act.put_comm a v u h2];exact h⟩
    case skip=>exact ⟨keep a hy _,by rw [← Act.put_comm a v undef h2];exact h⟩
    case defer d=>
     refine ⟨?_,?_⟩
     ·have hy':Pure P ops C oi v {a with defers:=d :: a.defers}:=hy
      exact keep _ hy' _
     ·rw [← Act.put_comm _ v undef h2]
      have e:({a with defers:=d :: a.defers}.put oi.dst v)={(a.put oi.dst v) with defers:=d :: (a.put oi.dst v).defers}:=by rw [defers_put];exact put_defers a _ _ _
      rw [e]
      exact h
    case enter f args=>
     refine h.mono fun e w'' he=>?_
     cases e with
     | returned u=>exact ⟨keep a hy u,by rw [← Act.put_comm a v u h2];exact he⟩
     | panicked c=>exact (show E c a.defers w'' by rw [← defers_put a oi.dst v];exact he)
     | outgrown=>exact he
    case row row args=>exact h.mono fun u w'' hv=>⟨keep a hy u,by rw [← Act.put_comm a v u h2];exact hv⟩
   | halt x w'=>
    cases x <;> simp only [Oper.upon] at h ⊢
    case panic u=>exact (show E [{v:=u,recovered:=false}] a.defers w' by rw [← defers_put a oi.dst v];exact h)
  ·exact absurd h.2 (not_letsOut E)
 ·rename_i hw
  simp only [hw] at h
  exact ⟨keep a hy _,by rw [← Act.put_comm a v undef h2];exact h⟩
theorem wpAnyC_first {C:World→Prop} {n i:Nat} {oi:Oper} {v:Value} {L:Array Bool→Act→World→Prop} (hi:ops[i]?=some oi) (hsel:∀ (j:Nat) (o:Oper) cs b,ops[j]?=some o→o.op≠.select cs b)
  (hs:Region.sinkB md ops n=true) (hc:Region.chainB md ops n=true) (hn:n<ops.size) (hin:i<n)
  (hdone:∀ listed a w,L listed a w→∀ j∈Region.ready md ops listed,n≤j) :
  ∀ (f:Nat) (listed:Array Bool) (a:Act) (w:World),HeadInv md ops n listed→
   (∀ j oj,ops[j]?=some oj→j≠i→listed.getD j true=false→(∀ e∈oj.after,Region.binds md e=true→e.on≠i)→oi.apart ops oj=true)→
   i∈Region.ready md ops listed→Pure P ops C oi v a→C w→
   wpAnyC P md ops n C E L f (listed.setIfInBounds i true) (a.put oi.dst v) w→wpAnyC P md ops n C E L (f+1) listed a w:=by
 intro f
 induction f with
 | zero=>
  intro listed a w inv _ hr hy hCw H
  have hun:=(mem_ready.1 hr).1
  refine ⟨hCw,fun h=>(by rw [h] at hr;cases hr),fun j hj=>?_⟩
  have hjn:j<n:=by
   rcases Nat.lt_or_ge j n with h | h
   ·exact h
   ·exact absurd hj (tail_waits hs hc hn inv _ i rfl hin hun j h)
  refine ⟨hjn,?_⟩
  by_cases hji:j=i
  ·subst hji;exact hy.wpOp hi hCw H
  ·have:=hdone _ _ _ H.2 j (ready_mono hj hji)
   omega
 | succ f ih=>
  intro listed a w inv hfree hr hy hCw H
  have hun:=(mem_ready.1 hr).1
  refine ⟨hCw,fun h=>(by rw [h] at hr;cases hr),fun j hj=>?_⟩
  have hjn:j<n:=by
   rcases Nat.lt_or_ge j n with h | h
   ·exact h
   ·exact absurd hj (tail_waits hs hc hn inv _ i rfl hin hun j h)
  refine ⟨hjn,?_⟩
  by_cases hji:j=i
  ·subst hji;exact hy.wpOp hi hCw H
  ·have h1:=(H.2.2 j (ready_mono hj hji)).2
   obtain ⟨hjun,oj,hoj,hall⟩:=mem_ready.1 hj
   have hnot:∀ e∈oj.after,Region.binds md e=true→e.on≠i:=fun e he hb heq=>by
    have h1:=hall e he hb
    rw [heq,getD_both hun] at h1
    cases h1
   have h2:=wpOp_put hoj (hfree j oj hoj hji hjun hnot) (fun cs b=>hsel i oi cs b hi) (fun cs b=>hsel j oj cs b hoj) hy h1
   have hfree':∀ k ok,ops[k]?=some ok→k≠i→(listed.setIfInBounds j true).getD k true=false→
     (∀ e∈ok.after,Region.binds md e=true→e.on≠i)→oi.apart ops ok=true:=fun k ok hk hki hun hno=>by
    refine hfree k ok hk hki ?_ hno
    by_cases hjk:j=k
    ·subst hjk;exact hjun
    ·rw [getD_set_ne true hjk] at hun;exact hun
   refine wpOp_QE' (fun a' w' h3=>?_) h2
   obtain ⟨h3,h4⟩:=h3
   rw [Array.setIfInBounds_comm _ _ (fun e=>hji e.symm)] at h4
   have hi':=ready_mono hr (Ne.symm hji)
   exact ih (listed.setIfInBounds j true) a' w' (inv.set hj hjn) hfree' hi' h3 (wpAnyC_C h4) h4
def wpMixE (P:Program) (ops:Array Oper) (C:World→Prop) (E:List PanicEntry→List Deferred→World→Prop) (T:Act→World→Prop):Ord→Act→World→Prop
 | .done,a,w=>T a w
 | .pure k r,a,w=>match ops[k]? with
  | none=>False
  | some o=>∃ v,Pure P ops C o v a∧wpMixE P ops C E T r (a.put o.dst v) w
 | .one k r,a,w=>wpOp P ops (QE E) k (fun a' w'=>C w'∧wpMixE P ops C E T r a' w') a w
 | .two k r k2 r2,a,w=>wpOp P ops (QE E) k (fun a' w'=>C w'∧wpMixE P ops C E T r a' w') a w∧wpOp P ops (QE E) k2 (fun a' w'=>C w'∧wpMixE P ops C E T r2 a' w') a w
theorem wpAnyC_ordE {C:World→Prop} {n g:Nat} {T:Act→World→Prop} (hsel:Region.noSelect ops=true) (hs:Region.sinkB md ops n=true) (hc:Region.chainB md ops n=true) (hn:n<ops.size) :
  ∀ (ord:Ord) (listed:Array Bool) (a:Act) (w:World),HeadInv md ops n listed→ordT md ops n g ord listed=true→C w→wpMixE P ops C E T ord a w→
  wpAnyC P md ops n C E (fun listed' a' w'=>Region.seqB md ops g n listed'=true∧T a' w') ord.len listed a w
 | .done,listed,a,w,_,hB,hC,h=>⟨hC,hB,h⟩
 | .pure k r,listed,a,w,inv,hB,hC,h=>by
  simp only [ordT,Bool.and_eq_true,decide_eq_true_eq] at hB
  obtain ⟨⟨⟨hr,hk⟩,hf⟩,hB'⟩:=hB
  have hr':k∈Region.ready md ops listed:=by simpa using hr
  simp only [wpMixE] at h
  cases ho:ops[k]? with
  | none=>rw [ho] at h;exact h.elim
  | some o=>
   rw [ho] at h
   obtain ⟨v,hv,hK⟩:=h
   exact wpAnyC_first ho (Region.noSelect_spec hsel) hs hc hn hk (fun listed' a' w' hL=>seqB_ready hL.1) r.len listed a w inv (Region.free_spec ho hf) hr' hv hC
    (wpAnyC_ordE hsel hs hc hn r _ _ w (inv.set hr' hk) hB' hC hK)
 | .one k r,listed,a,w,inv,hB,hC,h=>by
  simp only [ordT,Bool.and_eq_true,decide_eq_true_eq] at hB
  obtain ⟨⟨hr,hk⟩,hB'⟩:=hB
  simp only [wpMixE] at h
  have hne:Region.ready md ops listed≠[]:=by rw [hr];exact List.cons_ne_nil _ _
  refine ⟨hC,hne,fun i hi=>?_⟩
  rw [hr] at hi
  have hik:i=k:=by simpa using hi
  subst hik
  refine ⟨hk,wpOp_QE' (fun a' w' h'=>?_) h⟩
  exact wpAnyC_ordE hsel hs hc hn r _ a' w' (inv.set (by rw [hr];exact List.mem_singleton.2 rfl) hk) hB' h'.1 h'.2
 | .two k r k2 r2,listed,a,w,inv,hB,hC,h=>by
  simp only [ordT,Bool.and_eq_true,decide_eq_true_eq] at hB
  obtain ⟨⟨⟨⟨⟨hr,hk⟩,hk2⟩,hlen⟩,hB1⟩,hB2⟩:=hB
  simp only [wpMixE] at h
  have hne:Region.ready md ops listed≠[]:=by rw [hr];exact List.cons_ne_nil _ _
  refine ⟨hC,hne,fun i hi=>?_⟩
  have hi0:=hi
  rw [hr] at hi
  have hik:i=k∨i=k2:=by simpa using hi
  rcases hik with rfl | rfl
  ·refine ⟨hk,wpOp_QE' (fun a' w' h'=>?_) h.1⟩
   exact wpAnyC_ordE hsel hs hc hn r _ a' w' (inv.set hi0 hk) hB1 h'.1 h'.2
  ·refine ⟨hk2,wpOp_QE' (fun a' w' h'=>?_) h.2⟩
   have:=wpAnyC_ordE hsel hs hc hn r2 _ a' w' (inv.set hi0 hk2) hB2 h'.1 h'.2
   rwa [hlen] at this
theorem wp_region_mixedE {id:Nat} {Q:Exit→Act→World→Prop} {a:Act} {w:World} {l:List Oper} (C:World→Prop) (E:List PanicEntry→List Deferred→World→Prop) (n:Nat) (ord:Ord) (hm:P.follows .mixedOrders=true) (hB:mixedT .any l.toArray n ord=true)
  (hC:C w.drew) (hE:∀ ch a w,E ch a.defers w→Q (.panic ch) a w) (h:wpMixE P l.toArray C E (fun a' w'=>wpList P l.toArray Q (l.drop n) a' w') ord a w.drew):(Code.region id l.toArray true).wp P Q a w:=by
 simp only [mixedT,Bool.and_eq_true,decide_eq_true_eq] at hB
 obtain ⟨⟨⟨⟨⟨hsel,hn⟩,hlen⟩,hs⟩,hc⟩,hord⟩:=hB
 have hdl:(l.drop n).length=l.toArray.size - n:=by simp
 have inv0:HeadInv .any l.toArray n (Array.replicate l.toArray.size false):=
  ⟨by simp,fun j oj _ hl=>(by rw [getD_replicate_false] at hl;cases hl),fun t _ ht=>getD_in (by simpa using ht) (getD_replicate_false _ _)⟩
 have H:=wpAnyC_ordE hsel hs hc hn ord _ a w.drew inv0 hord hC h
 refine wp_region_any hm ?_
 have:=wpAny_of_headC hE (Q':=Q) (g:=l.toArray.size - n) (fun listed a' w' hL=>by
  have:=wpAny_of_seq (md:=.any) (Q':=Q) (l.drop n) n listed a' w' (fun j=>by simp [List.getElem?_drop]) (by rw [hdl];exact hL.1) hL.2
  rwa [hdl] at this) _ _ _ _ H
 rw [hlen] at this
 exact this
theorem wpMixE_pure {C:World→Prop} {T:Act→World→Prop} {k:Nat} {r:Ord} {a:Act} {w:World} {o:Oper} (ho:ops[k]?=some o) (hw:Region.wanted o (yielded ops a.tmps)=true) (v:Value)
  (hv:∀ w,C w→(execOp a.eval o).run P w=.ok (.value v) w) (h:wpMixE P ops C E T r (a.put o.dst v) w):wpMixE P ops C E T (.pure k r) a w:=by
 simp only [wpMixE,ho]
 exact ⟨v,.inl ⟨hw,hv⟩,h⟩
def QK (E:List PanicEntry→List Deferred→World→Prop) (K:Act→World→Prop):Exit→Act→World→Prop
 | .normal,a,w=>K a w
 | .panic ch,a,w=>E ch a.defers w
 | _,_,_=>False
theorem not_letsOut_QK (K:Act→World→Prop):¬LetsOut (QK E K):=fun ⟨_,_,h⟩=>h
theorem upon_QK {o:Oper} {a:Act} {K:Act→World→Prop} {K':Act→World→Prop} {r:Result Next} (h:o.upon P a K (QK E K') r):o.upon P a K (QE E) r:=by
 cases r with
 | ok n w'=>
  cases n <;> simp only [Oper.upon] at h ⊢
  case value v=>exact h
  case skip=>exact h
  case defer d=>exact h
  case enter f args=>
   refine h.mono fun e w'' he=>?_
   cases e with
   | returned v=>exact he
   | panicked c=>exact he
   | outgrown=>exact absurd he (not_letsOut_QK _)
  case row row args=>exact h
 | halt x w'=>
  cases x <;> simp only [Oper.upon] at h ⊢
  case panic v=>exact h
theorem wpOp_loudE {K:Act→World→Prop} {k:Nat} {a:Act} {w:World} {o:Oper} (ho:ops[k]?=some o) (hw:Region.wanted o (yielded ops a.tmps)=true) (h:wpList P ops (QK E K) [{o with guard:=none}] a w):wpOp P ops (QE E) k K a w:=by
 unfold wpOp
 simp only [ho,hw,if_true]
 have hw2:Region.wanted {o with guard:=none} (yielded ops a.tmps)=true:=rfl
 simp only [wpList,hw2,if_true] at h
 rcases h with h | h
 ·exact .inl (upon_QK h)
 ·exact absurd h.2 (not_letsOut_QK _)
theorem wpMixE_loud {C:World→Prop} {T:Act→World→Prop} {k:Nat} {r:Ord} {a:Act} {w:World} {o:Oper} (ho:ops[k]?=some o) (hw:Region.wanted o (yielded ops a.tmps)=true) (h:wpList P ops (QK E fun a' w'=>C w'∧wpMixE P ops C E T r a' w') [{o with guard:=none}] a w) :
  wpMixE P ops C E T (.one k r) a w:=by
 simp only [wpMixE]
 exact wpOp_loudE ho hw h
theorem wpMixE_both {C:World→Prop} {T:Act→World→Prop} {k k2:Nat} {r r2:Ord} {a:Act} {w:World} {o o2:Oper} (ho:ops[k]?=some o) (hw:Region.wanted o (yielded ops a.tmps)=true) (ho2:ops[k2]?=some o2) (hw2:Region.wanted o2 (yielded ops a.tmps)=true)
  (h:wpList P ops (QK E fun a' w'=>C w'∧wpMixE P ops C E T r a' w') [{o with guard:=none}] a w) (h2:wpList P ops (QK E fun a' w'=>C w'∧wpMixE P ops C E T r2 a' w') [{o2 with guard:=none}] a w) :
  wpMixE P ops C E T (.two k r k2 r2) a w:=by
 simp only [wpMixE]
 exact ⟨wpOp_loudE ho hw h,wpOp_loudE ho2 hw2 h2⟩
end
end Go.MixE
namespace Go.Proofs.YtajlleeonddinaaGreatDoor
open Go.RowKit Go.Shelf
attribute [local go_sem] Oper.semAt_some
attribute [local irreducible] Go.MixE.wpMixE
def cntD (D:Nat) (w:World):Nat:=match w.cell? ⟨D,1,none⟩ with
 | some v=>(intOf v).toNat
 | none=>0
theorem Dec.cnt {w0 w:World} {D:Nat} {S:Value} {k:Nat} {p nd d n:Int} (h:Dec w0 D S w k p nd d n):cntD D w=k:=by
 unfold cntD
 rw [h.cells.2.1]
 simp [intOf]
theorem pre_kk {p:Int} (hp:0≤p∧p≤6):(preS p).length≤2∧kkP p≤4:=by
 rcases page_cases hp with rfl | rfl | rfl | rfl | rfl | rfl | rfl <;> exact ⟨by decide,by decide⟩
def RetWh (w0:World) (D:Nat) (S:Value) (b:Str) (l:Nat) (w:World) (e:Ending) (w':World):Prop:=
 ((itR b).kind≠4∧(∃ B c2,e=.returned (.agg #[.int .i64 (itR b).kind,.slice none 0 0,.string (sB (itR b).m),.slice B (itR b).C.length c2,.bool (itR b).al])∧OwnT w' w.heap.size (.slice B (itR b).C.length c2) (itR b).C)∧(∃ k p nd d n,k≤l∧(itR b).raw=b.take k∧Dec w0 D S w' k p nd d n)∧DK D w w')∨
 (itR b=iteO 4 b∧∃ p,DMiss w0 D S w e w' l p (needR b:Nat))
theorem RetWh.put {w0 w w2 w3:World} {D:Nat} {S:Value} {b:Str} {l I:Nat} {v:Value} {kind:Int} {va vb:Value} {s:ByteArray} {al:Bool} (h:RetWh w0 D S b l w (.returned v) w2) (hI:ItAt w2 I kind va s vb al) (hDI:D<I) (hwI:w.heap.size≤I) (i2:Below I w2 w3) (i6:∀ k,k≠I→w3.heap[k]?=w2.heap[k]?):RetWh w0 D S b l w (.returned v) w3:=by
 rcases h with ⟨h1,⟨B,c2,h2,h3⟩,⟨k,p,nd,d,n,h4,h5,h6⟩,h7⟩ | ⟨h1,p,h2,h3⟩
 ·exact .inl ⟨h1,⟨B,c2,h2,it_ownT hI h3 i6⟩,⟨k,p,nd,d,n,h4,h5,⟨(i2.block D hDI).trans h6.blk,h6.bel.trans (i2.mono (by omega))⟩⟩,⟨Nat.le_trans h7.size i2.size,fun k hk hb=>(i6 k (by omega)).trans (h7.same k hk hb)⟩⟩
 ·cases h2
theorem whole_none {w0 w w':World} {D:Nat} {S:Value} {b:Str} {l:Nat} (kind:Int) (hk4:kind≠4) (k:Nat) (hk:k≤l) (hi:itR b=iteO kind (b.take k)) {p nd d n:Int} (X:Dec w0 D S w' k p nd d n) (K:DK D w w') :
  RetWh w0 D S b l w (.returned (.agg #[.int .i64 kind,.slice none 0 0,.string ⟨#[]⟩,.slice none 0 0,.bool false])) w':=by
 refine .inl ⟨by rw [hi];exact hk4,⟨none,0,by rw [hi];rfl,by rw [hi];exact ownT_nil _ _⟩,⟨k,p,nd,d,n,hk,by rw [hi];rfl,X⟩,K⟩
theorem whole_code {w0 w w1 w':World} {D:Nat} {S:Value} {b:Str} {l:Nat} (hl:b.length=l) (hwb:w.heap.size≤w1.heap.size) (K:DK D w w1) {p:Int} {o:UInt8} {t:Str} {x:En} {C:List Tr} {e:Ending}
  (hd:hdB b=some (p,o,t)) (hx:ratT p o.toNat=some x) (hC:fillV x.2.2.1 x.2.1 (numB x.2.2.1 t).1 (numB x.2.2.1 t).2=some C) (hsz:kkP p+sumN (behS p x.2.2.1) (behS p x.2.2.1).length=sizeT p x.2.2.1)
  (R:RetDI w0 D S b l w1 (kkP p) p (sizeT p x.2.2.1:Nat) (behS p x.2.2.1) x.1 C x.2.2.2 e w'):RetWh w0 D S b l w e w':=by
 have hi:=it_of hd
 have hn:=need_some hd
 rw [hx] at hi hn
 simp only at hi hn
 rcases R with ⟨h1,⟨B,c2,h2,h3⟩,⟨d,n,h4⟩,h5⟩ | ⟨h1,h2⟩
 ·rw [hsz] at h1 h4
  rw [if_neg (by omega),hC] at hi
  have ek:(itR b).kind=1:=by rw [hi]
  have er:(itR b).raw=b.take (sizeT p x.2.2.1):=by rw [hi]
  have em:(itR b).m=x.1:=by rw [hi]
  have ec:(itR b).C=C:=by rw [hi];rfl
  have ea:(itR b).al=x.2.2.2:=by rw [hi]
  refine .inl ⟨by rw [ek];decide,⟨B,c2,?_,?_⟩,⟨_,_,_,_,_,h1,er,h4⟩,K.trans h5⟩
  ·rw [ek,em,ec,ea];exact h2
  ·rw [ec];exact row_mono h3 hwb
 ·rw [hsz] at h1
  rw [if_pos (by omega)] at hi
  refine .inr ⟨hi,p,?_⟩
  rw [hn]
  exact ⟨h2.1,h2.2.1,K.trans h2.2.2⟩
theorem whole_any {w0:World} {D:Nat} {b:Str} {A:Option Addr} {l cap:Nat} (H:DH w0 D b A l cap) (hM:MaxAt w0) {w:World} {nd:Int} (X:Dec w0 D (.slice A l cap) w 0 0 nd 0 0) :
  Calls Tryz.prog 125 #[.pointer (some ⟨D,0,none⟩)] w (RetWh w0 D (.slice A l cap) b l w):=by
 have hl:=H.hl
 obtain ⟨S,hS⟩:∃ z,Value.slice A l cap=z:=⟨_,rfl⟩
 have OP:=Lib.hid (fun w (p nd d n:Int) hk X hp=>opcode_any H (w:=w) (p:=p) (nd:=nd) (d:=d) (n:=n) hk X hp)
 have TK:=Lib.hid (fun w k (p nd d n:Int) hk X=>taken_any H (w:=w) (k:=k) hk (p:=p) (nd:=nd) (d:=d) (n:=n) X)
 have KF:=Lib.hid (fun w k (p nd d n:Int) hk X=>keep_any H (w:=w) (k:=k) hk (p:=p) (nd:=nd) (d:=d) (n:=n) X)
 have IN:=Lib.hid (fun w k (p nd d n:Int) hk X i ex hx op m hm hup Ae ne ce L hne hne2 al B hB O C hC=>dinstr_any H (w:=w) (k:=k) hk (p:=p) (nd:=nd) (d:=d) (n:=n) X (i:=i) (ex:=ex) hx op m hm hup Ae ne ce L hne hne2 al B hB O C hC)
 have MX:Hid (∀ w1,Below D w0 w1→MaxAt w1):=fun w1 h=>hM.belowN h (Nat.lt_of_lt_of_le hM.lt H.hD)
 have hl2:=H.hl2
 rw [hS] at X OP TK KF IN ⊢
 have HL:=Lib.hid hl
 obtain ⟨I,hI⟩:∃ z,w.heap.size=z:=⟨_,rfl⟩
 obtain ⟨wI,hwI,I0,yI,zI⟩:=it_start w I hI
 have XI:=Lib.hid (X.all yI)
 have KI:=Lib.hid (DK.of_below (D:=D) yI)
 have hDI:D<I:=by rw [← hI];exact X.lt
 have UP:Hid (∀ wz,DK D wI wz→ItAt wz I 0 (.slice none 0 0) ⟨#[]⟩ (.slice none 0 0) false∧DK D w wz):=fun wz K=>⟨K.blk I0 (by omega),KI.out.trans K⟩
 have HI:=Lib.hid hI
 clear H hM X I0 yI KI hS hl
 go_enter Tryz.func125,Tryz.ntmps125
 go_wp2
 go_loopw [] (fun wr=>∃ (p:Int) (r:Str) (nd:Int),(0≤p∧p≤6)∧Hid (b=preS p++r)∧Hid (Dec w0 D S wr (preS p).length p nd 0 0∧DK D wI wr)) (fun wr=>3 - cntD D wr)
 case atStart=>exact ⟨0,b,nd,⟨by decide,by decide⟩,rfl,⟨XI.out,DK.refl _ _⟩⟩
 case round=>
  obtain ⟨p,r,nd,hp,HB,XK⟩:=hrel
  obtain ⟨hk2,hkk4⟩:=pre_kk hp
  have hkl:(preS p).length≤l:=by
   have h:=congrArg List.length HB.out
   rw [List.length_append,HL.out] at h
   omega
  have hcnt:cntD D wr=(preS p).length:=XK.out.1.cnt
  have MB:Hid (l<kkP p→itR b=iteO 4 b∧needR b=kkP p):=fun h=>missB hp HB.out (by rw [HL.out];exact h)
  have OPP:=fun w1 X=>OP.out w1 p nd 0 0 hkl X hp
  have X1:=XK.out.1
  obtain ⟨o,ho⟩:∃ z,b.getD (kkP p - 1) 0=z:=⟨_,rfl⟩
  have HA:Hid (kkP p≤l→∃ t,(p≤4→b=preS p++o :: t∧b.drop (kkP p)=t)∧(5≤p→hdB b=some (p,o,t)∧∃ u,t=b.getD (preS p).length 0 :: u)):=fun h=>by
   obtain ⟨o',t,h1,h2⟩:=hasB hp HB.out (by rw [HL.out];exact h)
   rw [ho] at h1
   subst h1
   exact ⟨t,h2⟩
  obtain ⟨kk,hkk⟩:∃ z,kkP p=z:=⟨_,rfl⟩
  obtain ⟨dd,hdd⟩:∃ z,ddP b p 0=z:=⟨_,rfl⟩
  obtain ⟨q,hq⟩:∃ z,(preS p).length=z:=⟨_,rfl⟩
  rw [ho] at OPP
  rw [hkk] at OPP MB hkk4
  rw [hdd] at OPP
  rw [hq] at OPP X1 hcnt hk2 hkl
  have OPP:=Lib.hid OPP
  have HO:=Lib.hid ho
  have HKK:=Lib.hid hkk
  have HDD:=Lib.hid hdd
  have HQ:=Lib.hid hq
  have MS:Hid (∀ w5,l<kk→(∃ d n,Dec w0 D S w5 l p kk d n)→DK D wr w5→RetWh w0 D S b l w (.panicked missE) w5):=fun w5 h h1 h2=>by
   obtain ⟨m1,m2⟩:=MB.out h
   exact .inr ⟨m1,p,rfl,by rw [m2];exact h1,(UP.out w5 (XK.out.2.trans h2)).2⟩
  have hDr:D<wr.heap.size:=X1.lt
  have X1:=Lib.hid X1
  have KR:Hid (DK D wI wr):=XK.out.2
  clear ho hkk hdd hq MB XK
  go_upto_region 1 with fail
  go_cut [3,4] (fun pe pk wx=>∃ (c:Nat) (pp oo:Int) (m:Str) (Av:Option Addr) (nv cv:Nat) (ex:Str) (al:Bool) (kd:Int),pe=.pointer (some ⟨c,0,none⟩)∧pk=.int .i64 kd∧Hid (kk≤l∧wx.heap[c]?=some (.cells #[.int .i64 pp,.int .u8 oo,.string (sB m),.slice Av nv cv,.string (sB ex),.bool al] 134 (0,0))∧Dec w0 D S wx kk p kk dd 0∧DK D wr wx∧
   (∀ x,ratT p o.toNat=some x→kd=1∧pp=p∧oo=(o.toNat:Int)∧m=x.1∧ex=x.2.2.1∧al=x.2.2.2∧nv=x.2.1.length∧OwnT wx (D+1) (.slice Av nv cv) x.2.1)∧(ratT p o.toNat=none→kd=rkindT p o.toNat)))
  case first=>
   obtain ⟨w4,hw4⟩:∃ z,wr.drew=z:=⟨_,rfl⟩
   have dq:Below wr.heap.size wr w4:=by rw [← hw4];exact below_drewN wr _ 1
   have X4:=Lib.hid (X1.out.all dq)
   have K4:=Lib.hid (DK.of_below (D:=D) dq)
   have z4:wr.heap.size≤w4.heap.size:=dq.size
   refine MixE.wp_region_mixedE (fun w'=>w'.cell? ⟨D,2,none⟩=some (.int .i64 p)) (fun ch ds w'=>ds=[]∧RetWh w0 D S b l w (.panicked ch) w') 12
    (.pure 0 (.pure 1 (.pure 2 (.pure 3 (.pure 4 (.two 5 (.two 6 (.pure 7 (.pure 8 (.pure 9 (.one 10 (.one 11 .done))))) 10 (.one 6 (.pure 7 (.pure 8 (.pure 9 (.one 11 .done)))))) 10 (.one 5 (.one 6 (.pure 7 (.pure 8 (.pure 9 (.one 11 .done)))))))))))) (by kernel_rfl) (by kernel_rfl) (by rw [hw4];exact X4.out.cells.2.2.1) (fun ch a w h=>⟨h.1,h.2⟩) ?_
   rw [hw4]
   clear hw4 dq
   refine MixE.wpMixE_pure rfl (by kernel_rfl) (.pointer (some ⟨D,0,none⟩)) (fun w h=>by clear h;go_simp;try rfl) ?_
   refine MixE.wpMixE_pure rfl (by kernel_rfl) (.pointer (some ⟨D,0,none⟩)) (fun w h=>by clear h;go_simp;try rfl) ?_
   refine MixE.wpMixE_pure rfl (by kernel_rfl) (.pointer (some ⟨D,2,none⟩)) (fun w h=>by clear h;go_simp;try rfl) ?_
   refine MixE.wpMixE_pure rfl (by kernel_rfl) (.int .i64 p) (fun w h=>by go_simp;try rfl) ?_
   refine MixE.wpMixE_pure rfl (by kernel_rfl) (.pointer (some ⟨D,0,none⟩)) (fun w h=>by clear h;go_simp;try rfl) ?_
   refine MixE.wpMixE_both rfl (by kernel_rfl) rfl (by kernel_rfl) ?_ ?_
   ·go_wp2_with fail
    refine (OPP.out w4 X4.out).mono ?_
    rintro e w5 (⟨h,rfl,h1,h2⟩ | ⟨h,rfl,h1,h2⟩)
    rotate_left
    ·exact ⟨rfl,MS.out w5 h h1 (K4.out.trans h2)⟩
    have hkl5:=Lib.hid h
    have X4:=Lib.hid h1
    have K4:=Lib.hid (K4.out.trans h2)
    have z5:wr.heap.size≤w5.heap.size:=K4.out.size
    clear h h1 h2
    go_wp2
    refine ⟨X4.out.cells.2.2.1,?_⟩
    refine MixE.wpMixE_both rfl (by kernel_rfl) rfl (by kernel_rfl) ?_ ?_
    ·go_wp2_with fail
     refine (tat2_any p o w5 (MX.out w5 X4.out.bel)).mono ?_
     rintro e w6 ⟨pp,oo,m,Av,nv,cv,ex,al,kd,rfl,hb,f1,f2⟩
     have zz:D+1≤w5.heap.size:=X4.out.lt
     have FE:Hid ((∀ x,ratT p o.toNat=some x→kd=1∧pp=p∧oo=(o.toNat:Int)∧m=x.1∧ex=x.2.2.1∧al=x.2.2.2∧nv=x.2.1.length∧OwnT w6 (D+1) (.slice Av nv cv) x.2.1)∧(ratT p o.toNat=none→kd=rkindT p o.toNat)):=⟨fun x hx=>by
      obtain ⟨g1,g2,g3,g4,g5,g6,g7,g8⟩:=f1 x hx
      exact ⟨g1,g2,g3,g4,g5,g6,g7,row_mono g8 zz⟩,f2⟩
     have X4:=Lib.hid (X4.out.all hb)
     have K4:=Lib.hid (K4.out.trans (DK.of_below hb))
     clear hb f1 f2 zz
     go_wp2
     refine ⟨X4.out.cells.2.2.1,?_⟩
     refine MixE.wpMixE_pure rfl (by kernel_rfl) (.tuple #[.agg #[.int .i64 pp,.int .u8 oo,.string (sB m),.slice Av nv cv,.string (sB ex),.bool al],.int .i64 kd]) (fun w h=>by clear h;go_simp;try rfl) ?_
     refine MixE.wpMixE_pure rfl (by kernel_rfl) (.agg #[.int .i64 pp,.int .u8 oo,.string (sB m),.slice Av nv cv,.string (sB ex),.bool al]) (fun w h=>by clear h;go_simp;try rfl) ?_
     refine MixE.wpMixE_pure rfl (by kernel_rfl) (.int .i64 kd) (fun w h=>by clear h;go_simp;try rfl) ?_
     refine MixE.wpMixE_loud rfl (by kernel_rfl) ?_
     obtain ⟨c,w7,hc,hwa,SB,yb,zb⟩:=Fr.box (Fr.nil w6) #[.int .i64 0,.int .u8 0,.string ⟨#[]⟩,.slice none 0 0,.string ⟨#[]⟩,.bool false] 134
     have bx:Hid (w7.heap[c]?=some (.cells #[.int .i64 0,.int .u8 0,.string ⟨#[]⟩,.slice none 0 0,.string ⟨#[]⟩,.bool false] 134 (0,0))):=SB.out.1
     have FE:Hid ((∀ x,ratT p o.toNat=some x→kd=1∧pp=p∧oo=(o.toNat:Int)∧m=x.1∧ex=x.2.2.1∧al=x.2.2.2∧nv=x.2.1.length∧OwnT w7 (D+1) (.slice Av nv cv) x.2.1)∧(ratT p o.toNat=none→kd=rkindT p o.toNat)):=⟨fun x hx=>by
      obtain ⟨g1,g2,g3,g4,g5,g6,g7,g8⟩:=FE.out.1 x hx
      exact ⟨g1,g2,g3,g4,g5,g6,g7,g8.below yb⟩,FE.out.2⟩
     have hcr:wr.heap.size≤c:=by have:=K4.out.size;omega
     have X4:=Lib.hid (X4.out.all yb)
     have K4:=Lib.hid (K4.out.trans (DK.of_below yb))
     clear SB yb zb
     go_wp2
     refine ⟨X4.out.cells.2.2.1,?_⟩
     refine MixE.wpMixE_loud rfl (by kernel_rfl) ?_
     obtain ⟨wz,hwz,a1,a2,a3,a4⟩:=ent_put X4.out K4.out hDr bx.out hcr #[.int .i64 pp,.int .u8 oo,.string (sB m),.slice Av nv cv,.string (sB ex),.bool al]
     refine wpList_store_row rfl 134 _ _ rfl c #[.int .i64 pp,.int .u8 oo,.string (sB m),.slice Av nv cv,.string (sB ex),.bool al] rfl rfl _ _ bx.out (by kernel_rfl) (by kernel_rfl) (by kernel_rfl) ?_
     rw [hwz]
     have F:Hid (kk≤l∧wz.heap[c]?=some (.cells #[.int .i64 pp,.int .u8 oo,.string (sB m),.slice Av nv cv,.string (sB ex),.bool al] 134 (0,0))∧Dec w0 D S wz kk p kk dd 0∧DK D wr wz∧
      (∀ x,ratT p o.toNat=some x→kd=1∧pp=p∧oo=(o.toNat:Int)∧m=x.1∧ex=x.2.2.1∧al=x.2.2.2∧nv=x.2.1.length∧OwnT wz (D+1) (.slice Av nv cv) x.2.1)∧(ratT p o.toNat=none→kd=rkindT p o.toNat)):=⟨hkl5.out,a1,a2,a3,fun x hx=>by
       obtain ⟨g1,g2,g3,g4,g5,g6,g7,g8⟩:=FE.out.1 x hx
       exact ⟨g1,g2,g3,g4,g5,g6,g7,a4 _ _ _ g8⟩,FE.out.2⟩
     refine ⟨a2.cells.2.2.1,?_⟩
     clear hwz a1 a2 a3 a4 X4 K4 FE bx
     simp only [MixE.wpMixE,List.drop_succ_cons,List.drop_zero]
     go_wp2
     go_meet
     exact ⟨c,pp,oo,m,Av,nv,cv,ex,al,kd,rfl,rfl,F⟩
    ·obtain ⟨c,w6,hc,hwa,SB,yb,zb⟩:=Fr.box (Fr.nil w5) #[.int .i64 0,.int .u8 0,.string ⟨#[]⟩,.slice none 0 0,.string ⟨#[]⟩,.bool false] 134
     have bx:Hid (w6.heap[c]?=some (.cells #[.int .i64 0,.int .u8 0,.string ⟨#[]⟩,.slice none 0 0,.string ⟨#[]⟩,.bool false] 134 (0,0))):=SB.out.1
     have hcr:wr.heap.size≤c:=by have:=K4.out.size;omega
     have X4:=Lib.hid (X4.out.all yb)
     have K4:=Lib.hid (K4.out.trans (DK.of_below yb))
     clear SB yb zb
     go_wp2
     refine ⟨X4.out.cells.2.2.1,?_⟩
     refine MixE.wpMixE_loud rfl (by kernel_rfl) ?_
     go_wp2_with fail
     refine (tat2_any p o w6 (MX.out w6 X4.out.bel)).mono ?_
     rintro e w7 ⟨pp,oo,m,Av,nv,cv,ex,al,kd,rfl,hb,f1,f2⟩
     have zz:D+1≤w6.heap.size:=X4.out.lt
     have FE:Hid ((∀ x,ratT p o.toNat=some x→kd=1∧pp=p∧oo=(o.toNat:Int)∧m=x.1∧ex=x.2.2.1∧al=x.2.2.2∧nv=x.2.1.length∧OwnT w7 (D+1) (.slice Av nv cv) x.2.1)∧(ratT p o.toNat=none→kd=rkindT p o.toNat)):=⟨fun x hx=>by
      obtain ⟨g1,g2,g3,g4,g5,g6,g7,g8⟩:=f1 x hx
      exact ⟨g1,g2,g3,g4,g5,g6,g7,row_mono g8 zz⟩,f2⟩
     have bx:=Lib.hid ((hb.block c (Array.getElem?_eq_some_iff.1 bx.out).1).trans bx.out)
     have X4:=Lib.hid (X4.out.all hb)
     have K4:=Lib.hid (K4.out.trans (DK.of_below hb))
     clear hb f1 f2 zz
     go_wp2
     refine ⟨X4.out.cells.2.2.1,?_⟩
     refine MixE.wpMixE_pure rfl (by kernel_rfl) (.tuple #[.agg #[.int .i64 pp,.int .u8 oo,.string (sB m),.slice Av nv cv,.string (sB ex),.bool al],.int .i64 kd]) (fun w h=>by clear h;go_simp;try rfl) ?_
     refine MixE.wpMixE_pure rfl (by kernel_rfl) (.agg #[.int .i64 pp,.int .u8 oo,.string (sB m),.slice Av nv cv,.string (sB ex),.bool al]) (fun w h=>by clear h;go_simp;try rfl) ?_
     refine MixE.wpMixE_pure rfl (by kernel_rfl) (.int .i64 kd) (fun w h=>by clear h;go_simp;try rfl) ?_
     refine MixE.wpMixE_loud rfl (by kernel_rfl) ?_
     obtain ⟨wz,hwz,a1,a2,a3,a4⟩:=ent_put X4.out K4.out hDr bx.out hcr #[.int .i64 pp,.int .u8 oo,.string (sB m),.slice Av nv cv,.string (sB ex),.bool al]
     refine wpList_store_row rfl 134 _ _ rfl c #[.int .i64 pp,.int .u8 oo,.string (sB m),.slice Av nv cv,.string (sB ex),.bool al] rfl rfl _ _ bx.out (by kernel_rfl) (by kernel_rfl) (by kernel_rfl) ?_
     rw [hwz]
     have F:Hid (kk≤l∧wz.heap[c]?=some (.cells #[.int .i64 pp,.int .u8 oo,.string (sB m),.slice Av nv cv,.string (sB ex),.bool al] 134 (0,0))∧Dec w0 D S wz kk p kk dd 0∧DK D wr wz∧
      (∀ x,ratT p o.toNat=some x→kd=1∧pp=p∧oo=(o.toNat:Int)∧m=x.1∧ex=x.2.2.1∧al=x.2.2.2∧nv=x.2.1.length∧OwnT wz (D+1) (.slice Av nv cv) x.2.1)∧(ratT p o.toNat=none→kd=rkindT p o.toNat)):=⟨hkl5.out,a1,a2,a3,fun x hx=>by
       obtain ⟨g1,g2,g3,g4,g5,g6,g7,g8⟩:=FE.out.1 x hx
       exact ⟨g1,g2,g3,g4,g5,g6,g7,a4 _ _ _ g8⟩,FE.out.2⟩
     refine ⟨a2.cells.2.2.1,?_⟩
     clear hwz a1 a2 a3 a4 X4 K4 FE bx
     simp only [MixE.wpMixE,List.drop_succ_cons,List.drop_zero]
     go_wp2
     go_meet
     exact ⟨c,pp,oo,m,Av,nv,cv,ex,al,kd,rfl,rfl,F⟩
   ·obtain ⟨c,w5,hc,hwa,SB,yb,zb⟩:=Fr.box (Fr.nil w4) #[.int .i64 0,.int .u8 0,.string ⟨#[]⟩,.slice none 0 0,.string ⟨#[]⟩,.bool false] 134
    have bx:Hid (w5.heap[c]?=some (.cells #[.int .i64 0,.int .u8 0,.string ⟨#[]⟩,.slice none 0 0,.string ⟨#[]⟩,.bool false] 134 (0,0))):=SB.out.1
    have hcr:wr.heap.size≤c:=by have:=K4.out.size;omega
    have X4:=Lib.hid (X4.out.all yb)
    have K4:=Lib.hid (K4.out.trans (DK.of_below yb))
    clear SB yb zb
    go_wp2
    refine ⟨X4.out.cells.2.2.1,?_⟩
    refine MixE.wpMixE_loud rfl (by kernel_rfl) ?_
    go_wp2_with fail
    refine (OPP.out w5 X4.out).mono ?_
    rintro e w6 (⟨h,rfl,h1,h2⟩ | ⟨h,rfl,h1,h2⟩)
    rotate_left
    ·exact ⟨rfl,MS.out w6 h h1 (K4.out.trans h2)⟩
    have hkl5:=Lib.hid h
    have X4:=Lib.hid h1
    have K4:=Lib.hid (K4.out.trans h2)
    have z5:wr.heap.size≤w6.heap.size:=K4.out.size
    have bx:=Lib.hid (h2.blk bx.out (by omega))
    clear h h1 h2
    go_wp2
    refine ⟨X4.out.cells.2.2.1,?_⟩
    refine MixE.wpMixE_loud rfl (by kernel_rfl) ?_
    go_wp2_with fail
    refine (tat2_any p o w6 (MX.out w6 X4.out.bel)).mono ?_
    rintro e w7 ⟨pp,oo,m,Av,nv,cv,ex,al,kd,rfl,hb,f1,f2⟩
    have zz:D+1≤w6.heap.size:=X4.out.lt
    have FE:Hid ((∀ x,ratT p o.toNat=some x→kd=1∧pp=p∧oo=(o.toNat:Int)∧m=x.1∧ex=x.2.2.1∧al=x.2.2.2∧nv=x.2.1.length∧OwnT w7 (D+1) (.slice Av nv cv) x.2.1)∧(ratT p o.toNat=none→kd=rkindT p o.toNat)):=⟨fun x hx=>by
     obtain ⟨g1,g2,g3,g4,g5,g6,g7,g8⟩:=f1 x hx
     exact ⟨g1,g2,g3,g4,g5,g6,g7,row_mono g8 zz⟩,f2⟩
    have bx:=Lib.hid ((hb.block c (Array.getElem?_eq_some_iff.1 bx.out).1).trans bx.out)
    have X4:=Lib.hid (X4.out.all hb)
    have K4:=Lib.hid (K4.out.trans (DK.of_below hb))
    clear hb f1 f2 zz
    go_wp2
    refine ⟨X4.out.cells.2.2.1,?_⟩
    refine MixE.wpMixE_pure rfl (by kernel_rfl) (.tuple #[.agg #[.int .i64 pp,.int .u8 oo,.string (sB m),.slice Av nv cv,.string (sB ex),.bool al],.int .i64 kd]) (fun w h=>by clear h;go_simp;try rfl) ?_
    refine MixE.wpMixE_pure rfl (by kernel_rfl) (.agg #[.int .i64 pp,.int .u8 oo,.string (sB m),.slice Av nv cv,.string (sB ex),.bool al]) (fun w h=>by clear h;go_simp;try rfl) ?_
    refine MixE.wpMixE_pure rfl (by kernel_rfl) (.int .i64 kd) (fun w h=>by clear h;go_simp;try rfl) ?_
    refine MixE.wpMixE_loud rfl (by kernel_rfl) ?_
    obtain ⟨wz,hwz,a1,a2,a3,a4⟩:=ent_put X4.out K4.out hDr bx.out hcr #[.int .i64 pp,.int .u8 oo,.string (sB m),.slice Av nv cv,.string (sB ex),.bool al]
    refine wpList_store_row rfl 134 _ _ rfl c #[.int .i64 pp,.int .u8 oo,.string (sB m),.slice Av nv cv,.string (sB ex),.bool al] rfl rfl _ _ bx.out (by kernel_rfl) (by kernel_rfl) (by kernel_rfl) ?_
    rw [hwz]
    have F:Hid (kk≤l∧wz.heap[c]?=some (.cells #[.int .i64 pp,.int .u8 oo,.string (sB m),.slice Av nv cv,.string (sB ex),.bool al] 134 (0,0))∧Dec w0 D S wz kk p kk dd 0∧DK D wr wz∧
     (∀ x,ratT p o.toNat=some x→kd=1∧pp=p∧oo=(o.toNat:Int)∧m=x.1∧ex=x.2.2.1∧al=x.2.2.2∧nv=x.2.1.length∧OwnT wz (D+1) (.slice Av nv cv) x.2.1)∧(ratT p o.toNat=none→kd=rkindT p o.toNat)):=⟨hkl5.out,a1,a2,a3,fun x hx=>by
      obtain ⟨g1,g2,g3,g4,g5,g6,g7,g8⟩:=FE.out.1 x hx
      exact ⟨g1,g2,g3,g4,g5,g6,g7,a4 _ _ _ g8⟩,FE.out.2⟩
    refine ⟨a2.cells.2.2.1,?_⟩
    clear hwz a1 a2 a3 a4 X4 K4 FE bx
    simp only [MixE.wpMixE,List.drop_succ_cons,List.drop_zero]
    go_wp2
    go_meet
    exact ⟨c,pp,oo,m,Av,nv,cv,ex,al,kd,rfl,rfl,F⟩
  case rest=>
   obtain ⟨c,pp,oo,m,Av,nv,cv,ex,al,kd,rfl,rfl,R⟩:=hcut
   obtain ⟨hkl5,bx,XC,KC,f1,f2⟩:=R.out
   obtain ⟨t,ht4,ht5⟩:=HA.out (by rw [HKK.out];exact hkl5)
   have KC2:=Lib.hid (KR.out.trans KC)
   clear OPP MS X1 R
   cases hx:ratT p o.toNat with
   | some x=>
    obtain ⟨rfl,e2,e3,e4,e5,e6,e7,O⟩:=f1 x hx
    have hd:hdB b=some (p,o,t):=by
     by_cases h5:5≤p
     ·exact (ht5 h5).1
     ·rw [(ht4 (by omega)).1];exact hd_some ⟨hp.1,by omega⟩ t hx
    have hxp:=exP_of o.toNat_lt hx
    have nk:=num_kk hxp (fun h=>(ht4 h).2) (fun h=>(ht5 h).2)
    obtain ⟨C,hC⟩:=fill_in hxp (plc_of o.toNat_lt hx) (numB_in hxp t)
    have hsz:=sz_kk hxp
    have OKS:=InTab.ok (k:=(p,(o.toNat:Int),x.1,x.2.1,x.2.2.1,x.2.2.2)) ⟨o.toNat,o.toNat_lt,rfl,hx⟩
    have hm10:=OKS.m
    have hup:=OKS.up
    have hl3:=OKS.len
    simp only at hm10 hup hl3
    rw [e7] at O
    have CI:=IN.out wc kk p kk dd 0 hkl5 XC o.toNat x.2.2.1 hxp (o.toNat:Int) x.1 (by omega) hup Av x.2.1.length cv x.2.1 rfl (by omega) x.2.2.2 (D+1) (by omega) O C (fun _=>by rw [← HDD.out,← HKK.out,nk];exact hC)
    have W:=Lib.hid (fun e w' R=>whole_code (w0:=w0) (w:=w) (w1:=wc) (w':=w') (D:=D) (S:=S) (b:=b) HL.out (UP.out wc KC2.out).2.size (UP.out wc KC2.out).2 (C:=C) (e:=e) hd hx hC hsz (by rw [HKK.out];exact R))
    unfold enV at CI
    obtain ⟨q0,q1,q2,q3,q4,q5⟩:=Fr.cells6 bx
    rw [e2] at q0
    rw [e3] at q1
    rw [e4] at q2
    rw [e7] at q3
    rw [e5] at q4
    rw [e6] at q5
    clear bx XC KC f1 f2 hd hxp nk hC hsz OKS hup O e2 e3 e4 e5 e6 e7 ht4 ht5 HA hx
    go_wp2_with fail
    refine CI.mono ?_
    rintro e w2 hR
    have HW:=W.out e w2 hR
    rcases hR with ⟨h1,⟨B,c2,rfl,hO⟩,-,h5⟩ | ⟨h1,rfl,h2⟩
    ·have I2:=(UP.out w2 (KC2.out.trans h5)).1
     obtain ⟨w3,hw3,i1,i2,-,-,-,i6⟩:=I2.put 1 (.slice none 0 0) (sB x.1) (.slice B C.length c2) x.2.2.2
     have F:=Lib.hid (HW.put I2 hDI (Nat.le_of_eq HI.out) i2 i6)
     obtain ⟨k0,k1,k2,k3,k4,k5⟩:=I2.cells
     obtain ⟨j0,j1,j2,j3,j4,j5⟩:=i1.cells
     clear CI W HW h1 hO h5 I2 i1 i2 i6 q0 q1 q2 q3 q4 q5
     go_wp2
     refine bodyPost_ret (v:=.agg #[.int .i64 1,.slice none 0 0,.string (sB x.1),.slice B C.length c2,.bool x.2.2.2]) ?_ rfl F.out
     simp [results,Tryz.results125,go_sem,j0,j1,j2,j3,j4]
    ·exact ⟨rfl,HW⟩
   | none=>
    obtain rfl:=f2 hx
    rcases knd_of hp hx with ⟨h2,hp4,p',hpg,hpre,hp'⟩ | ⟨h03,hat⟩
    ·rw [h2]
     obtain ⟨hb4,hdr⟩:=ht4 hp4
     have hkq:kk=q+1:=by rw [← HKK.out,← HQ.out];unfold kkP;rw [if_neg (by omega)]
     have htk:b.take kk=preS p':=by
      rw [hpre,hkq,← HQ.out,hb4,List.take_append,List.take_of_length_le (by omega),show (preS p).length+1 - (preS p).length=1 by omega]
      rfl
     have hk':(preS p').length=kk:=by rw [hpre,hkq,← HQ.out,List.length_append];rfl
     have hdd0:dd=0:=by rw [← HDD.out];unfold ddP;rw [if_neg (by omega)]
     have hq2:=(pre_kk hp').1
     have TK2:=TK.out wc kk p kk dd 0 hkl5 XC
     obtain ⟨e0,e1,e2,e3,e4,e5,e6⟩:=XC.cells
     have PO:=Lib.hid (fun A' c' w' h=>pageOf_any A' c' (preS p') (by unfold maxLen;omega) w' h)
     rw [hk',hpre,hpg] at PO
     rw [← hpre] at PO
     rw [htk] at TK2
     have hb5:Hid (b=preS p'++t):=by show b=_;rw [hpre,hb4];simp
     have XC:=Lib.hid XC
     subst hdd0
     have HK':=Lib.hid hk'
     have hqk:q<kk:=by omega
     clear bx KC f1 f2 hx ht4 ht5 HA hpg htk hdr hb4 hpre h2 hk' hkq
     go_wp2_with fail
     refine TK2.mono ?_
     rintro e w2 ⟨A',c',rfl,hO,hb⟩
     obtain ⟨A2,c2,e7,hP⟩:=hO.bytes
     simp only [Value.slice.injEq] at e7
     obtain ⟨rfl,-,rfl⟩:=e7
     have PO2:=PO.out A' c' w2 hP
     have X2:=XC.out.all hb
     have K2:=KC2.out.trans (DK.of_below (D:=D) hb)
     clear TK2 hO hb hP PO
     go_wp2_with fail
     refine PO2.mono ?_
     rintro e w3 ⟨rfl,hb⟩
     have X3:=X2.all hb
     obtain ⟨g0,g1,g2,g3,g4,g5,g6⟩:=X3.cells
     have X4:=Lib.hid (X3.set2 p')
     have K4:=Lib.hid ((K2.trans (DK.of_below (D:=D) hb)).set 2 (.int .i64 p'))
     clear PO2 hb X2 X3 K2 e0 e1 e2 e3 e4 e5 e6
     go_wp2
     go_roundw
     case rel=>exact ⟨p',t,kk,hp',hb5,by show _∧_;rw [HK'.out];exact ⟨X4.out,K4.out⟩⟩
     case measure=>rw [X4.out.cnt,hcnt];omega
    ·have hd:hdB b=some (p,o,t):=by
      by_cases h5:5≤p
      ·exact (ht5 h5).1
      ·have h:=hat (by omega) t
       rw [← (ht4 (by omega)).1] at h
       exact h
     have hi:=it_of hd
     rw [hx] at hi
     simp only at hi
     have I2:=(UP.out wc KC2.out).1
     have KW:=Lib.hid (UP.out wc KC2.out).2
     rcases h03 with h0 | ⟨h3,hp2⟩
     ·rw [h0] at hi ⊢
      rw [if_pos rfl] at hi
      have KP:=KF.out wc kk p kk dd 0 hkl5 XC
      have hl1:1≤l:=by
       have:1≤kk:=by rw [← HKK.out];unfold kkP;split <;> omega
       omega
      have HIT:=Lib.hid hi
      clear bx XC KC f1 f2 hx ht4 ht5 HA hd hi hat h0
      go_wp2_with fail
      refine KP.mono ?_
      rintro e w2 ⟨rfl,h1,h2⟩
      have I3:ItAt w2 I _ _ _ _ _:=(UP.out w2 (KC2.out.trans h2)).1
      obtain ⟨w3,hw3,i1,i2,-,-,-,i6⟩:=I3.put 2 (.slice none 0 0) ⟨#[]⟩ (.slice none 0 0) false
      have F:=Lib.hid ((whole_none (b:=b) 2 (by decide) 1 hl1 HIT.out h1 (KW.out.trans h2)).put I3 hDI (Nat.le_of_eq HI.out) i2 i6)
      obtain ⟨k0,k1,k2,k3,k4,k5⟩:=I3.cells
      obtain ⟨j0,j1,j2,j3,j4,j5⟩:=i1.cells
      clear KP h1 h2 I3 I2 i1 i2 i6
      go_wp2
      refine bodyPost_ret (v:=.agg #[.int .i64 2,.slice none 0 0,.string ⟨#[]⟩,.slice none 0 0,.bool false]) ?_ rfl F.out
      simp [results,Tryz.results125,go_sem,j0,j1,j2,j3,j4]
     ·rw [h3] at hi ⊢
      rw [if_neg (by decide)] at hi
      obtain rfl:kk=2:=by rw [← HKK.out,hp2];rfl
      obtain ⟨w3,hw3,i1,i2,-,-,-,i6⟩:=I2.put 3 (.slice none 0 0) ⟨#[]⟩ (.slice none 0 0) false
      have F:=Lib.hid ((whole_none (b:=b) 3 (by decide) 2 hkl5 hi XC KW.out).put I2 hDI (Nat.le_of_eq HI.out) i2 i6)
      obtain ⟨k0,k1,k2,k3,k4,k5⟩:=I2.cells
      obtain ⟨j0,j1,j2,j3,j4,j5⟩:=i1.cells
      clear bx XC KC f1 f2 hx ht4 ht5 HA hd hi hat h3 I2 i1 i2 i6
      go_wp2
      refine bodyPost_ret (v:=.agg #[.int .i64 3,.slice none 0 0,.string ⟨#[]⟩,.slice none 0 0,.bool false]) ?_ rfl F.out
      simp [results,Tryz.results125,go_sem,j0,j1,j2,j3,j4]
end Go.Proofs.YtajlleeonddinaaGreatDoor
