/-
  CoF, CoG, SeK, SeL, MixT, SeG.
-/
import Derived.Test.YtajlleeonddinaaGreatDoorGAU
import Derived.Deep.CutBlock
import Derived.Test.YtajlleeonddinaaGreatDoorGAP
import Derived.Test.YtajlleeonddinaaGreatDoorGAH
import Derived.Test.YtajlleeonddinaaGreatDoorGAT
import Derived.Test.YtajlleeonddinaaGreatDoorGAF
import Derived.Test.YtajlleeonddinaaGreatDoorGAA
import Derived.Test.YtajlleeonddinaaGreatDoorGAB
set_option linter.all false
set_option maxRecDepth 100000
set_option maxHeartbeats 4000000
namespace Go.Proofs.YtajlleeonddinaaGreatDoor
open Go.RowKit Go.Shelf
attribute [local go_sem] Oper.semAt_some
attribute [local irreducible] Go.Mixed.wpMix
def RetXT (w:World) (K:List Ke) (e:Ending) (w':World):Prop:=∃ A cap R,e=.returned (.slice A R.length cap)∧OwnXT w' w.heap.size (.slice A R.length cap) R∧R.map Ee.k=K∧Below w.heap.size w w'
def pagesL (L:List Int):List Int:=if L=[] then [0,1,2,3,4,5,6] else L
theorem ints7 (w:World):IntsP (w.alloc (.cells #[.int .i64 0,.int .i64 1,.int .i64 2,.int .i64 3,.int .i64 4,.int .i64 5,.int .i64 6] 3)) (some ⟨w.heap.size,0,none⟩) [0,1,2,3,4,5,6]:=by
 refine .inr ⟨_,_,rfl,fun k hk=>?_⟩
 rw [Nat.zero_add,Lib.cell_of_heap (heap_alloc_new w _)]
 have h:k<7:=hk
 rcases (by omega:k=0∨k=1∨k=2∨k=3∨k=4∨k=5∨k=6) with rfl | rfl | rfl | rfl | rfl | rfl | rfl <;> rfl
theorem OwnXT.grown {X Y:World} {n:Nat} {v:Value} {R:List Ee} {row:Option Nat} (h:OwnXT X n v R) (hg:X.grownBy Y row) (hr:∀ r,row=some r→∃ o:Obj,X.heap[r]?=some o∧o.isCells=false):OwnXT Y n v R:=by
 have ne:∀ (u:Value) (T:TypeId) (k m:Nat) (C:List Value),X.ownsRow n T k u m C→u.ownBlock=none∨u.ownBlock≠row:=fun u T k m C ho=>by
  cases e:u.ownBlock with
  | none=>exact .inl rfl
  | some q=>
   refine .inr fun e'=>?_
   obtain ⟨o,h1,h2⟩:=hr q e'.symm
   rcases ho.2 with ⟨rfl,_⟩ | ⟨g',cap,cur',rfl,_,hg',_⟩
   ·simp [Value.ownBlock] at e
   ·simp only [Value.ownBlock,Option.some.injEq] at e
    subst e
    rw [hg'] at h1
    cases h1
    cases h2
 exact ⟨World.ownsRow.kept h.1 hg (ne _ _ _ _ _ h.1),fun r hr'=>World.ownsRow.kept (h.2 r hr') hg (ne _ _ _ _ _ (h.2 r hr'))⟩
theorem keyC_len (wnt:Str→Bool) (page:Int) (x:Pat×Int):(keyC wnt page x).length≤1:=by
 unfold keyC
 split
 ·unfold keyE
  split <;> simp
 ·simp
theorem keysC_len (wnt:Str→Bool) (page:Int):∀ xs:List (Pat×Int),(keysC wnt page xs).length≤xs.length
 | []=>Nat.le_refl _
 | x :: t=>by
  have h:=keysC_len wnt page t
  have h2:=keyC_len wnt page x
  show (keyC wnt page x++keysC wnt page t).length≤t.length+1
  rw [List.length_append]
  omega
theorem keysAll_len (wnt:Str→Bool):∀ ps:List Int,(keysAll wnt ps).length≤256*ps.length
 | []=>Nat.le_refl _
 | x :: t=>by
  have h:=keysAll_len wnt t
  have h2:=Nat.le_trans (keysC_len wnt x (codesK (patsOf (listS x)) 256)) (codesK_len _ _)
  show (keysPg wnt x++keysAll wnt t).length≤256*(t.length+1)
  rw [List.length_append]
  unfold keysPg
  omega
def CInv (w2:World) (q:Nat) (Ds:List Nat) (K:List Ke) (X:World):Prop:=
 ∃ A5 c5 R,Boxed X q 203 (.slice A5 R.length c5)∧OwnXT X (q+1) (.slice A5 R.length c5) R∧R.map Ee.k=K∧Below q w2 X∧q+1≤X.heap.size∧∀ D∈Ds,X.heap[D]?=some (.deferred (some []))
theorem CInv.own {w2 X Y:World} {q:Nat} {Ds:List Nat} {K:List Ke} {row:Option Nat} (h:CInv w2 q Ds K X) (hq:q≤w2.heap.size) (hg:X.grownBy Y row) (hr:∀ r,row=some r→q<r∧r∉Ds∧∃ o:Obj,X.heap[r]?=some o∧o.isCells=false):CInv w2 q Ds K Y:=by
 obtain ⟨A5,c5,R,h1,h2,h3,h4,h5,h6⟩:=h
 refine ⟨A5,c5,R,h1.kept hg fun e=>?_,h2.grown hg fun r e=>(hr r e).2.2,h3,h4.grown hg (by have:=h4.size;omega) fun r e=>by have:=(hr r e).1;omega,Nat.le_trans h5 hg.size,fun D hD=>?_⟩
 ·have:=(hr q e.symm).1;omega
 ·refine (hg.block D (Array.getElem?_eq_some_iff.1 (h6 D hD)).1 fun e=>?_).trans (h6 D hD)
  exact (hr D e.symm).2.1 hD
theorem CInv.below {w2 X Y:World} {q:Nat} {Ds:List Nat} {K:List Ke} (h:CInv w2 q Ds K X) (hq:q≤w2.heap.size) (hb:Below X.heap.size X Y):CInv w2 q Ds K Y:=
 h.own hq (row:=none) ⟨hb.os,hb.tape,hb.output,hb.size,fun i hi _=>hb.block i hi⟩ (fun r e=>by cases e)
theorem OwnXT.type {X:World} {n:Nat} {v:Value} {R:List Ee} (h:OwnXT X n v R) {k:Nat} (e:v.ownBlock=some k):∃ cur,X.heap[k]?=some (.cells cur 134 (0,0))∧n≤k:=by
 have h9:=h.1.2
 rcases h9 with ⟨rfl,_⟩ | ⟨g',cap,cur',rfl,hn,hg',_⟩
 ·simp [Value.ownBlock] at e
 ·simp only [Value.ownBlock,Option.some.injEq] at e
  subst e
  exact ⟨_,hg',(World.ownsRow.lt h.1 _ rfl).1⟩
theorem wpListIn_run_append {F:Fence} {n:Nat} {w w1:World} {t ty:TypeId} {v y v':Value} (h1:(Builtin.append_ #[t,t] ty #[v,y]).run Tryz.prog w=.ok v' w1) {ops:Array Oper} {rest:List Oper} {o:Oper} {a:Act} {Q:Exit→Act→World→Prop} (hgd:o.guard=none) (s x:Operand)
  (ho:o.op=.call {callee:=.builtin .append,args:=#[s,x],argTypes:=#[t,t]}) (hty:o.type=ty) (hs:a.eval s=v) (hx:a.eval x=y) (hk:wpListIn F n Tryz.prog ops Q rest (a.put o.dst v') w1):wpListIn F n Tryz.prog ops Q (o :: rest) a w:=by
 subst hty
 refine wpListIn_plain hgd fun K hK=>?_
 unfold Oper.wpIn
 refine ⟨?_,?_⟩
 ·simp [Oper.about,ho,resolve,Target.leads,Sem.run_pure]
 ·rw [Oper.semAt_plain F _ _ (by rw [ho];intro c hc;cases hc)]
  simp [execOp,ho,resolve,invoke,builtin,hs,hx,h1,Result.andThen]
  exact hK _ _ hk
theorem OwnXT.other {X:World} {n:Nat} {v:Value} {R:List Ee} (h:OwnXT X n v R) {b:Nat} (hb:b<n) (u:Value):OwnXT (X.setCell ⟨b,0,none⟩ u) n v R:=by
 have ne:∀ (u:Value) (T:TypeId) (k m:Nat) (C:List Value),X.ownsRow n T k u m C→u.ownBlock=none∨u.ownBlock≠some b:=fun u T k m C ho=>by
  cases e:u.ownBlock with
  | none=>exact .inl rfl
  | some q=>exact .inr fun e'=>by cases e';have:=(World.ownsRow.lt ho _ e).1;omega
 exact ⟨World.ownsRow.kept h.1 (grownBy_setCell' X b u) (ne _ _ _ _ _ h.1),fun r hr'=>World.ownsRow.kept (h.2 r hr') (grownBy_setCell' X b u) (ne _ _ _ _ _ (h.2 r hr'))⟩
theorem keeps_below {W W':World} (h:Below W.heap.size W W'):KeepsOthers W W':=⟨h.size,fun k o hk _=>(h.block k (Array.getElem?_eq_some_iff.1 hk).1).trans hk⟩
theorem keepD_loop (W:World) (l:Nat) (r r':Loop) (h:W.heap[l]?=some (.loop r)):KeepD W (W.putObj l (.loop r')):=fun D o e=>by
 have hne:D≠l:=fun e'=>by rw [e',h] at e;cases e
 exact (World.putObj_heap_other hne).trans e
theorem KeepD.others {W W':World} (h:KeepsOthers W W'):KeepD W W':=fun D o e=>h.same D _ e rfl
theorem collect_any (g:Nat) (lb:Array Value) (eg:∀ args w,(callFunc g args).run Tryz.prog w=.ok (.enter g args) w) (wnt:Str→Bool) (w:World) (hM:MaxAt w) (A:Option Addr) (cap:Nat) (L:List Int) (hP:IntsP w A L) (hL:L.length≤10)
  (hw:∀ (m:Str) (w':World),Below w.heap.size w w'→Calls Tryz.prog g (#[.string (sB m)]++lb) w' fun e w2=>e=.returned (.bool (wnt m))∧w2=w') :
  Calls Tryz.prog 172 #[.slice A L.length cap,.func (.func g) #[] lb] w (RetXT w (keysAll wnt (pagesL L))):=by
 obtain ⟨n,hn⟩:∃ n,w.heap.size=n:=⟨_,rfl⟩
 have hgn:0 < n:=by rw [← hn];exact hM.lt
 obtain ⟨w1,hw1⟩:∃ w1,w.alloc (.cells #[.func (.func g) #[] lb] 139)=w1:=⟨_,rfl⟩
 have b1:Below n w w1:=by rw [← hw1,← hn];exact (Below.refl _ _).alloc (Nat.le_refl _) _
 have z1:w1.heap.size=n+1:=by rw [← hw1,← hn];simp
 have x1:Boxed w1 n 139 (.func (.func g) #[] lb):=by rw [← hw1,← hn];exact Boxed.new _ _ _
 have P1:Hid (IntsP w1 A L):=hP.below (by rw [hn];exact b1)
 have HW:=Lib.hid hw
 have B1:=Lib.hid b1
 have X1:=Lib.hid x1
 have HN:=Lib.hid hn
 have HMM:=Lib.hid hM
 clear hP hw b1 x1 hM
 refine callsIn_wide.1 (callsIn_of_wp_marks (n:=8) Tryz.func172 rfl trivial ?_ rfl)
 simp only [Tryz.ntmps172,List.size_toArray,List.length_cons,List.length_nil,Nat.reduceAdd,Nat.reduceSub,Array.replicate_succ,Array.replicate_zero,List.push_toArray,List.append_toArray,List.nil_append,List.cons_append]
 refine wpIn_wide.2 ?_
 obtain ⟨PL,hPL⟩:∃ z,pagesL L=z:=⟨_,rfl⟩
 rw [hPL]
 have HPL:=Lib.hid hPL
 have hPl:PL.length≤10:=by
  rw [← hPL]
  unfold pagesL
  split
  ·decide
  ·exact hL
 clear hPL
 go_upto_if 13 with fail
 go_cut [0] from 11 to 14 (fun v wx=>∃ A' cap',v=.slice A' PL.length cap'∧Hid (IntsP wx A' PL)∧Hid (Below (n+1) w1 wx))
 case first=>
  by_cases hL0:L=[]
  ·subst hL0
   obtain rfl:PL=[0,1,2,3,4,5,6]:=HPL.out.symm
   clear hPl
   go_wp2
   go_meet
   exact ⟨_,_,rfl,(by have h:=ints7 w1;rw [z1] at h;exact h),(Below.refl _ _).alloc (by omega) _⟩
  ·have hl:0<L.length:=List.length_pos_iff.2 hL0
   have hl2:¬((L.length:Int)=0):=by omega
   obtain rfl:PL=L:=by rw [← HPL.out];unfold pagesL;rw [if_neg hL0]
   clear hL0
   go_wp2
   go_meet
   exact ⟨_,_,rfl,P1.out,Below.refl _ _⟩
 case rest=>
  obtain ⟨A',cap',rfl,PP,BX⟩:=hcut
  clear P1 HPL hL
  obtain ⟨q,hq⟩:∃ q,wc.heap.size=q:=⟨_,rfl⟩
  obtain ⟨w2,hw2⟩:∃ w2,wc.alloc (.cells #[.slice none 0 0] 203)=w2:=⟨_,rfl⟩
  have hnq:n+1≤q:=by have:=BX.out.size;omega
  have b2:Below q wc w2:=by rw [← hw2,← hq];exact (Below.refl _ _).alloc (Nat.le_refl _) _
  have z2:w2.heap.size=q+1:=by rw [← hw2,← hq];simp
  have Q2:Hid (Boxed w2 q 203 (.slice none 0 0)):=by rw [← hw2,← hq];exact Boxed.new _ _ _
  have P2:Hid (∀ k (h:k<PL.length),∃ b off,A'=some ⟨b,off,none⟩∧b<q∧w2.cell? ⟨b,off+k,none⟩=some (.int .i64 PL[k])):=fun k h=>by
   rcases PP.out with h0 | ⟨b,off,rfl,hc⟩
   ·rw [h0] at h;cases h
   ·have hb:=World.block_lt_of_cell? wc _ (hc k h)
    exact ⟨b,off,rfl,by rw [← hq];exact hb,(b2.cell (by rw [← hq];exact hb)).trans (hc k h)⟩
  have X2:Hid (Boxed w2 n 139 (.func (.func g) #[] lb)):=(b2.block n (by omega)).trans ((BX.out.block n (by omega)).trans X1.out)
  have B2:Hid (Below n w w2):=(B1.out.trans (BX.out.mono (by omega))).trans (b2.mono (by omega))
  have HQ:=Lib.hid hq
  have HW2:=Lib.hid hw2
  clear PP BX B1 X1 b2 z1 hw1 w1
  go_upto_block 0 with fail
  apply wp_block
  have I2:Hid (CInv w2 q [] (keysAll wnt (PL.take 0)) w2):=⟨none,0,[],Q2.out,ownXT_nil _ _,rfl,Below.refl _ _,by omega,fun D hD=>absurd hD List.not_mem_nil⟩
  refine wp_loop (fun a' X=>∃ (j:Nat) (Ds:List Nat) (v7 v18 v19 v20 v21 v22 v23 v41:Value),a'={tmps:=#[.slice A' PL.length cap',.func (.func g) #[] lb,undef,.pointer (some ⟨n,0,none⟩),.slice none 0 0,.pointer (some ⟨q,0,none⟩),undef,v7,undef,undef,undef,u11,u12,u13,u14,.slice A' PL.length cap',.int .i64 (PL.length:Int),.int .i64 (j:Int),v18,v19,v20,v21,v22,v23,undef,undef,undef,undef,undef,undef,undef,undef,undef,undef,undef,undef,undef,undef,undef,undef,undef,v41,undef],defers:=Each.marks Ds}∧j≤PL.length∧Hid (CInv w2 q Ds (keysAll wnt (PL.take j)) X)∧Hid (Ds.Nodup∧∀ D∈Ds,q<D∧D<X.heap.size)) (fun a' X=>PL.length - (intOf (a'.tmps.getD 17 undef)).toNat) ?_ ?_
  ·exact ⟨0,[],_,_,_,_,_,_,_,_,rfl,Nat.zero_le _,I2.out,List.nodup_nil,fun D hD=>absurd hD List.not_mem_nil⟩
  ·clear I2 Q2
   rintro a' X ⟨j,Ds,v7,v18,v19,v20,v21,v22,v23,v41,rfl,hj,CI,ND⟩
   by_cases hje:j=PL.length
   ·have hz:¬((j:Int)<(PL.length:Int)):=by omega
    obtain ⟨A5,c5,R,h1,h2,h3,h4,h5,h6⟩:=CI.out
    have c1:=h1.cell
    have H:=Lib.hid (And.intro h2 (And.intro h3 (And.intro h4 h6)))
    clear h1 h2 h3 h4 h5 h6 CI
    go_wp2_with fail
    refine Each.leaves_all (fun Z=>OwnXT Z (q+1) (.slice A5 R.length c5) R∧Below n w Z) (fun D=>q<D) ?_ Ds X ND.out.1 (fun D hD=>⟨(ND.out.2 D hD).1,H.out.2.2.2 D hD⟩) ⟨H.out.1,B2.out.trans (H.out.2.2.1.mono (by omega))⟩ ?_
    ·rintro Z D hD ⟨z1,z2⟩ hz3
     exact ⟨z1.grown (grownBy_putObj' Z D _) fun r e=>by cases e;exact ⟨_,hz3,rfl⟩,z2.grown (grownBy_putObj' Z D _) (by have:=z2.size;omega) fun r e=>by cases e;omega⟩
    ·rintro Z ⟨z1,z2⟩
     refine ⟨.slice A5 R.length c5,by simp [results,Tryz.results172,go_sem],A5,c5,R,rfl,by rw [HN.out];exact z1.lift (by omega),?_,by rw [HN.out];exact z2⟩
     have h3:=H.out.2.1
     rwa [hje,List.take_length] at h3
   ·have hjl:j<PL.length:=by omega
    have hjz:(j:Int)<(PL.length:Int):=by omega
    obtain ⟨page,hpg⟩:∃ x,PL[j]=x:=⟨_,rfl⟩
    have BQ:Hid (Below q w2 X):=by obtain ⟨A5,c5,R,h1,h2,h3,h4,h5,h6⟩:=CI.out;exact h4
    have ZQ:q+1≤X.heap.size:=by obtain ⟨A5,c5,R,h1,h2,h3,h4,h5,h6⟩:=CI.out;exact h5
    have hMX:MaxAt X:=(HMM.out.belowN B2.out hgn).belowN BQ.out (by omega)
    have hTK:Hid (PL.take (j+1)=PL.take j++[page]):=by show _=_;rw [List.take_succ_eq_append_getElem hjl,hpg]
    have hIX:∃ b off,A'=some ⟨b,off,none⟩∧X.cell? ⟨b,off+j,none⟩=some (.int .i64 page):=by
     obtain ⟨b,off,rfl,hb,hc⟩:=P2.out j hjl
     exact ⟨b,off,rfl,((BQ.out.cell hb).trans hc).trans (by rw [hpg])⟩
    obtain ⟨bp,off,rfl,hcp⟩:=hIX
    obtain ⟨r7,hr7⟩:∃ z,X.heap.size=z:=⟨_,rfl⟩
    obtain ⟨Xa,hXa⟩:∃ z,X.alloc (.cells #[.int .i64 page] 3)=z:=⟨_,rfl⟩
    have ba:Below r7 X Xa:=by rw [← hXa,← hr7];exact up_alloc _ _
    have ca:Boxed Xa r7 3 (.int .i64 page):=by rw [← hXa,← hr7];exact Boxed.new _ _ _
    have za:Xa.heap.size=r7+1:=by rw [← hXa,← hr7];simp
    have hla:=listOf_any page Xa
    have hca:=codes_any (listS page) Xa
    rw [za] at hca
    have hMa:MaxAt Xa:=hMX.belowN ba (by omega)
    have pa:=ca.cell
    have CA:=Lib.hid ca
    have BA:=Lib.hid ba
    have IA:Hid (CInv w2 q Ds (keysAll wnt (PL.take j)) Xa):=CI.out.below (by omega) (by rw [hr7];exact ba)
    have HMa:=Lib.hid hMa
    have HJE:=Lib.hid hje
    have ND7:Hid (Ds.Nodup∧∀ D∈Ds,q<D∧D<r7):=by rw [← hr7];exact ND.out
    clear ca ba hMa hMX CI hpg hje ND
    go_wp2_with fail
    refine hla.mono ?_
    rintro e Xb ⟨rfl,rfl⟩
    go_wp2_with fail
    refine hca.mono ?_
    rintro e W0 ⟨rfl,hW0⟩
    have hs:Boxed W0 (r7+1) 9 (.string (sB (listS page))):=by
     have h:=Boxed.new Xb 9 (.string (sB (listS page)))
     rwa [hW0,za] at h
    have bW:Below Xb.heap.size Xb W0:=by rw [← hW0];exact up_alloc _ _
    have zW:W0.heap.size=r7+1+1:=by rw [← hW0];simp;omega
    have hMW:MaxAt W0:=HMa.out.below bW
    have c7:Boxed W0 r7 3 (.int .i64 page):=(bW.block r7 (by omega)).trans CA.out
    have IW:Hid (CInv w2 q Ds (keysAll wnt (PL.take j)) W0):=IA.out.below (by omega) bW
    have C7:=Lib.hid c7
    have hseq:=codes1_gives 7 (r7+1) (listS page) (listS_len page) (pages_ok page) W0 hs hMW
    clear hla hca hs bW hMW c7 hW0 za pa CA BA IA hXa
    go_wp2_with fail
    have KQ:Hid (keysC wnt page (codesK (patsOf (listS page)) 256)=keysPg wnt page):=rfl
    refine wpIn_wide.1 (Each.wpIn_eachO (F:=Fence.wide) (n:=8) rfl (by omega) (gf:=208) (lb:=#[.pointer (some ⟨r7+1,0,none⟩)]) rfl trivial (enters_of Tryz.func208 (by kernel_rfl) rfl)
     hseq (fun h k=>h.trans k) (fun W l r r' _ h=>keepD_loop W l r r' h) (fun _=>rfl)
     (fun pre Z=>CInv w2 q Ds (keysAll wnt (PL.take j)++keysC wnt page pre) Z∧Boxed Z r7 3 (.int .i64 page)∧r7+2≤Z.heap.size)
     (fun s Y Z row h hg hr=>⟨h.1.own (by omega) hg fun r e=>⟨by have:=(hr r e).1;omega,fun hD=>by have:=(ND7.out.2 r hD).2;have:=(hr r e).1;omega,(hr r e).2⟩,h.2.1.kept hg fun e=>by have:=(hr _ e.symm).1;omega,Nat.le_trans h.2.2 hg.size⟩)
     ⟨by rw [show keysC wnt page []=[] from rfl,List.append_nil];exact IW.out,C7.out,by omega⟩
     (fun x a' Z=>IsCode (patsOf (listS page)) x∧∃ b,r7+2≤b∧Z.heap[b]?=some (.cells #[.string (sB x.1.1),.string (sB x.1.2),.int .u8 x.2] 242 (0,0))∧a'={tmps:=#[.slice (some ⟨bp,off,none⟩) PL.length cap',.func (.func g) #[] lb,undef,.pointer (some ⟨n,0,none⟩),.slice none 0 0,.pointer (some ⟨q,0,none⟩),undef,.pointer (some ⟨r7,0,none⟩),.pointer (some ⟨b,0,none⟩),undef,undef,u11,u12,u13,u14,.slice (some ⟨bp,off,none⟩) PL.length cap',.int .i64 (PL.length:Int),.int .i64 (j:Int),.bool true,.pointer (some ⟨bp,off+j,none⟩),.int .i64 page,.int .i64 page,.string (sB (listS page)),.func (.func 208) #[] #[.pointer (some ⟨r7+1,0,none⟩)],.agg #[.string (sB x.1.1),.string (sB x.1.2),.int .u8 x.2],undef,undef,undef,undef,undef,undef,undef,undef,undef,undef,undef,undef,undef,undef,undef,undef,v41,undef],defers:=[]})
     (fun x s Y Z row h hg hr=>by
      obtain ⟨h0,b,h1,h2,h3⟩:=h
      exact ⟨h0,b,h1,(grownBy_keeps_cells hg (fun r e=>(hr r e).2) h2 rfl).trans h2,h3⟩)
     ?assign ?body ?done)
    case assign=>
     rintro lq pre x Z K ⟨z1,z2,z3⟩ hE hK
     simp only [codeV]
     gi_wp2
     refine hK _ _ ((KeepsOthers.alloc _ _).from _) (KeepD.below (up_alloc _ _)) ⟨z1.below (by omega) (up_alloc _ _),z2.alloc _,by simp;omega⟩ ⟨hE,Z.heap.size,by omega,World.alloc_heap_new Z _,rfl⟩
    case body=>
     rintro lq pre x a' Z ⟨z1,z2,z3⟩ ⟨hE,b,hb,hc,rfl⟩ hlen
     obtain ⟨A5,c5,R,h1,h2,h3,h4,h5,h6⟩:=z1
     have G:=good2_of (pages_ok page _ (isCode_mem hE)) x.2 hE.2.2.1 (by have:=hE.2.2.2;omega)
     have G6:=good2_of (pages_ok page _ (isCode_mem hE)) (op6 x.2) (op6_bd x.2 hE.2.2.1 (by have:=hE.2.2.2;omega)).1 (op6_bd x.2 hE.2.2.1 (by have:=hE.2.2.2;omega)).2
     have MZ:MaxAt Z:=(HMM.out.belowN B2.out hgn).belowN h4 (by omega)
     obtain ⟨Zd,hZd⟩:∃ z,Z.drew=z:=⟨_,rfl⟩
     have bd:Below Z.heap.size Z Zd:=by rw [← hZd];exact below_drewN _ _ 1
     have hmn:=mnemonic_any x.1 x.2 G.good Zd (MZ.below bd)
     have hen:=fun Y (h:MaxAt Y)=>entry_any x.1 page x.2 G G6 Y h
     unfold codeV at hmn hen
     have XF:Hid (∀ Y,Below Z.heap.size Z Y→Y.cell? ⟨n,0,none⟩=some (.func (.func g) #[] lb)∧Y.cell? ⟨b,0,none⟩=some (.string (sB x.1.1))∧Y.cell? ⟨b,1,none⟩=some (.string (sB x.1.2))∧Y.cell? ⟨b,2,none⟩=some (.int .u8 x.2)):=fun Y hY=>by
      have e1:=((hY.block n (by omega)).trans (h4.block n (by omega))).trans X2.out
      have e2:=(hY.block b (Array.getElem?_eq_some_iff.1 hc).1).trans hc
      exact ⟨Boxed.cell e1,Lib.cell_of_heap e2 0,Lib.cell_of_heap e2 1,Lib.cell_of_heap e2 2⟩
     have HZ:=Lib.hid (And.intro h1 (And.intro h2 (And.intro h3 (And.intro h4 h6))))
     have HC:=Lib.hid hc
     have Z2:=Lib.hid z2
     have HMZ:=Lib.hid MZ
     have HEN:=Lib.hid hen
     have BD:=Lib.hid bd
     have BWZ:Hid (∀ Y,Below Z.heap.size Z Y→Below w.heap.size w Y):=fun Y hY=>by rw [HN.out];exact (B2.out.trans (h4.mono (by omega))).trans (hY.mono (by omega))
     have FIN:Hid (∀ Y,Below Z.heap.size Z Y→keysC wnt page (pre++[x])=keysC wnt page pre→KeepsFrom W0.heap.size Z Y∧KeepD Z Y∧CInv w2 q Ds (keysAll wnt (PL.take j)++keysC wnt page (pre++[x])) Y∧Boxed Y r7 3 (.int .i64 page)∧r7+2≤Y.heap.size):=fun Y hY hK=>
      ⟨(keeps_below hY).from _,KeepD.below hY,by rw [hK];exact CInv.below ⟨A5,c5,R,h1,h2,h3,h4,h5,h6⟩ (by omega) hY,(hY.block r7 (by omega)).trans z2,Nat.le_trans z3 hY.size⟩
     clear h1 h2 h3 h4 h6 hc G G6 MZ hen bd hE z2 hseq
     gi_wp2_with fail
     refine Mixed.wpIn_region_mixed (fun w'=>w'.cell? ⟨n,0,none⟩=some (.func (.func g) #[] lb)∧w'.cell? ⟨b,0,none⟩=some (.string (sB x.1.1))∧w'.cell? ⟨b,1,none⟩=some (.string (sB x.1.2))∧w'.cell? ⟨b,2,none⟩=some (.int .u8 x.2)) 3 [(0,true),(1,true),(2,false)] (by kernel_rfl) (fun ⟨_,_,h⟩=>h) (by kernel_rfl) (by kernel_rfl) (by rw [hZd];exact XF.out _ BD.out) ?_
     rw [hZd]
     clear hZd
     refine Mixed.wpMix_pure rfl (by kernel_rfl) (.func (.func g) #[] lb) (fun w h=>by obtain ⟨h1,h2,h3,h4⟩:=h;go_simp;try rfl) ?_
     refine Mixed.wpMix_pure rfl (by kernel_rfl) (.agg #[.string (sB x.1.1),.string (sB x.1.2),.int .u8 x.2]) (fun w h=>by obtain ⟨h1,h2,h3,h4⟩:=h;go_simp;try rfl) ?_
     refine Mixed.wpMix_loud rfl ?_
     go_wp2_with fail
     refine hmn.mono ?_
     rintro e Z1 ⟨rfl,hb1⟩
     have B1:Hid (Below Z.heap.size Z Z1):=BD.out.trans (hb1.mono BD.out.size)
     have F1:=XF.out _ B1.out
     have hwn:=HW.out (wordsT x.1 x.2).1 Z1 (BWZ.out _ B1.out)
     clear hmn hb1 BD XF
     have FF1:=Lib.hid F1
     obtain ⟨f1,f2,f3,f4⟩:=F1
     obtain ⟨m,hm⟩:∃ z,(wordsT x.1 x.2).1=z:=⟨_,rfl⟩
     rw [hm] at hwn ⊢
     have HM:=Lib.hid hm
     clear hm
     go_wp2
     refine ⟨FF1.out,?_⟩
     simp only [Mixed.wpMix,List.drop_succ_cons,List.drop_zero]
     go_wp2_with fail
     refine hwn.mono ?_
     rintro e Z3 ⟨rfl,rfl⟩
     clear hwn
     cases hwt:wnt m with
     | false=>
      have KC:Hid (keysC wnt page (pre++[x])=keysC wnt page pre):=by
       show _=_
       rw [keysC_snoc,keyC,HM.out,hwt,if_neg (by decide),List.append_nil]
      clear hwt
      go_wp2
      gi_wp2
      exact FIN.out _ B1.out KC.out
     | true=>
      have KC:Hid (keysC wnt page (pre++[x])=keysC wnt page pre++keyE page x.2 (entryT x.1 page x.2)):=by
       show _=_
       rw [keysC_snoc,keyC,HM.out,hwt,if_pos rfl]
      have p7:Z3.cell? ⟨r7,0,none⟩=some (.int .i64 page):=Boxed.cell ((B1.out.block r7 (by omega)).trans Z2.out)
      have hen:=HEN.out Z3 (HMZ.out.below B1.out)
      clear hwt
      go_wp2
      gi_wp2_with fail
      refine ⟨trivial,CallsIn.inRound lq (callsIn_wide.2 hen) |>.mono ?_⟩
      rintro e Z4 ⟨hres,hb4⟩
      have B4:Hid (Below Z.heap.size Z Z4):=B1.out.trans (hb4.mono B1.out.size)
      have S4:Hid (Z.heap.size≤Z4.heap.size):=B4.out.size
      have S3:Hid (q+1≤Z3.heap.size):=by have:=B1.out.size;show _≤_;omega
      clear hen p7 f1 f2 f3 f4
      cases hx:entryT x.1 page x.2 with
      | none=>
       rw [hx] at hres
       subst hres
       have KC2:Hid (keysC wnt page (pre++[x])=keysC wnt page pre):=by
        show _=_
        rw [KC.out,hx]
        exact List.append_nil _
       simp only [enV]
       clear hx hb4
       gi_wp2
       exact FIN.out _ (B4.out.trans ((up_alloc _ _).mono S4.out)) KC2.out
      | some y=>
       obtain ⟨m',L',ex,al⟩:=y
       rw [hx] at hres
       obtain ⟨v,rfl,hO⟩:=hres
       simp only at hO ⊢
       obtain ⟨A9,c9,rfl,hP9,-⟩:=hO.ops
       have KC2:Hid (keysC wnt page (pre++[x])=keysC wnt page pre++[(page,x.2,m',L',ex,al)]):=by
        show _=_
        rw [KC.out,hx]
        rfl
       simp only [enV]
       obtain ⟨h1,h2,h3,h4,h6⟩:=HZ.out
       have hT4:=hO.lift S3.out
       obtain ⟨b9,hb9⟩:∃ z,Z4.heap.size=z:=⟨_,rfl⟩
       obtain ⟨Z5,hZ5⟩:∃ z,Z4.alloc (.cells #[.int .i64 page,.int .u8 x.2,.string (sB m'),.slice A9 L'.length c9,.string (sB ex),.bool al] 134)=z:=⟨_,rfl⟩
       have E5:Hid (EnAt Z5 b9 page x.2 m' (.slice A9 L'.length c9) ex al):=by rw [← hZ5,← hb9];exact World.alloc_heap_new Z4 _
       have B45:Below Z4.heap.size Z4 Z5:=by rw [← hZ5];exact up_alloc _ _
       obtain ⟨b10,hb10⟩:∃ z,Z5.heap.size=z:=⟨_,rfl⟩
       obtain ⟨Z6,hZ6⟩:∃ z,Z5.alloc (.cells #[.int .i64 page,.int .u8 x.2,.string (sB m'),.slice A9 L'.length c9,.string (sB ex),.bool al] 134)=z:=⟨_,rfl⟩
       have B56:Below Z5.heap.size Z5 Z6:=by rw [← hZ6];exact up_alloc _ _
       have B46:Below Z4.heap.size Z4 Z6:=B45.trans (B56.mono B45.size)
       have B6:Below Z.heap.size Z Z6:=B4.out.trans (B46.mono S4.out)
       have ES6:=es_oneT Z5 ⟨page,x.2,m',A9,c9,L',ex,al⟩ (hP9.below B45)
       simp only [Ee.v] at ES6
       rw [hZ6,hb10] at ES6
       have Q5:Boxed Z5 q 203 (.slice A5 R.length c5):=(B45.block q (by have:=B4.out.size;omega)).trans ((B4.out.block q (by omega)).trans h1)
       have Q6:Boxed Z6 q 203 (.slice A5 R.length c5):=(B6.block q (by omega)).trans h1
       have O6:=h2.below B6
       have RL:R.length≤5000:=by
        have e1:R.length=(keysAll wnt (PL.take j)++keysC wnt page pre).length:=by rw [← h3,List.length_map]
        have e2:=keysAll_len wnt (PL.take j)
        have e3:=keysC_len wnt page pre
        rw [List.length_take] at e2
        rw [List.length_append] at e1
        omega
       obtain ⟨v',Z7,k1,k2,k3,k4⟩:=run_appXT Z6 (q+1) (.slice A5 R.length c5) R O6 (some ⟨b10,0,none⟩) 1 [(⟨page,x.2,m',A9,c9,L',ex,al⟩:Ee)] ES6 (fun r hr=>by
        obtain rfl:=List.mem_singleton.1 hr
        exact hT4.below B46) (by have:=B6.size;omega) (by simp;omega)
       have k2':=k2
       obtain ⟨A7,c7,rfl,-,-⟩:=k2'.es
       have Q7:Boxed Z7 q 203 (.slice A5 R.length c5):=Q6.kept k4 fun e=>by
        have:=(World.ownsRow.lt O6.1 _ e.symm).1
        omega
       have ND2:∀ k o,Z6.heap[k]?=some o→(∀ cur,o≠Obj.cells cur 134 (0,0))→Z7.heap[k]?=some o:=fun k o hk ho=>(k4.block k (Array.getElem?_eq_some_iff.1 hk).1 fun e=>by
        obtain ⟨cur,hc,-⟩:=O6.type e.symm
        rw [hk] at hc
        exact ho cur (Option.some.inj hc)).trans hk
       have KO:KeepsOthers Z (Z7.setCell ⟨q,0,none⟩ (.slice A7 (R++[(⟨page,x.2,m',A9,c9,L',ex,al⟩:Ee)]).length c7)):=
        (keeps_below B6).trans (KeepsOthers.trans ⟨k4.size,fun k o hk ho=>ND2 k o hk fun cur e=>by rw [e] at ho;cases ho⟩ (KeepsOthers.setCell _ _ _))
       have FIN2:Hid (KeepsFrom W0.heap.size Z (Z7.setCell ⟨q,0,none⟩ (.slice A7 (R++[(⟨page,x.2,m',A9,c9,L',ex,al⟩:Ee)]).length c7))∧KeepD Z (Z7.setCell ⟨q,0,none⟩ (.slice A7 (R++[(⟨page,x.2,m',A9,c9,L',ex,al⟩:Ee)]).length c7))∧CInv w2 q Ds (keysAll wnt (PL.take j)++keysC wnt page (pre++[x])) (Z7.setCell ⟨q,0,none⟩ (.slice A7 (R++[(⟨page,x.2,m',A9,c9,L',ex,al⟩:Ee)]).length c7))∧Boxed (Z7.setCell ⟨q,0,none⟩ (.slice A7 (R++[(⟨page,x.2,m',A9,c9,L',ex,al⟩:Ee)]).length c7)) r7 3 (.int .i64 page)∧r7+2≤(Z7.setCell ⟨q,0,none⟩ (.slice A7 (R++[(⟨page,x.2,m',A9,c9,L',ex,al⟩:Ee)]).length c7)).heap.size):=by
        refine ⟨KO.from _,KeepD.others KO,⟨A7,c7,R++[(⟨page,x.2,m',A9,c9,L',ex,al⟩:Ee)],Q7.set _,k2.other (by omega) _,?_,?_,?_,fun D hD=>KO.same D _ (h6 D hD) rfl⟩,?_,?_⟩
        ·rw [List.map_append,h3,KC2.out,List.append_assoc];rfl
        ·exact (h4.trans (B6.mono (by omega))).trans ((show Below q Z6 Z7 from k3.mono (Nat.le_succ q)).setCell (p:=⟨q,0,none⟩) (Nat.le_refl _) _)
        ·have e1:=k4.size;have e2:=B6.size;rw [World.size_setCell];omega
        ·refine (heap_setCell_other _ ⟨q,0,none⟩ r7 _ (by simp;omega)).trans (ND2 r7 _ ((B6.block r7 (by omega)).trans Z2.out) fun cur e=>?_)
         simp at e
        ·have e1:=k4.size;have e2:=B6.size;rw [World.size_setCell];omega
       have K1:=Lib.hid k1
       have q5:=Q5.cell
       have q6:=Q6.cell
       have q7:=Q7.cell
       have q8:=Q7.frozen
       obtain ⟨e0,e1,e2,e3,e4,e5,e6⟩:=E5.out.cells
       obtain ⟨ln,hln⟩:∃ z,(R++[(⟨page,x.2,m',A9,c9,L',ex,al⟩:Ee)]).length=z:=⟨_,rfl⟩
       rw [hln] at K1 FIN2
       obtain ⟨lr,hlr⟩:∃ z,R.length=z:=⟨_,rfl⟩
       rw [hlr] at K1 q5 q6 q7
       obtain ⟨ll,hll⟩:∃ z,L'.length=z:=⟨_,rfl⟩
       rw [hll] at hZ5 hZ6 e3 ⊢
       clear hx hb4 hO hP9 h1 h2 h3 h4 h6 hT4 E5 B45 B56 B46 B6 ES6 Q5 Q6 Q7 O6 RL k1 k2 k2' k3 k4 ND2 KO hln hlr hll
       gi_wp2_with (gi_at_builtin;refine wpListIn_run_append K1.out rfl _ _ rfl rfl rfl rfl ?_)
       exact FIN2.out
    case done=>
     rintro D xs Z hD hxs ⟨z1,z2,z3⟩ hZ
     rw [show xs=_ from hxs,KQ.out,← keysAll_snoc,← hTK.out] at z1
     obtain ⟨A5,c5,R,h1,h2,h3,h4,h5,h6⟩:=z1
     have hDl:D<Z.heap.size:=(Array.getElem?_eq_some_iff.1 hZ).1
     have P:Hid (CInv w2 q (D :: Ds) (keysAll wnt (PL.take (j+1))) Z):=⟨A5,c5,R,h1,h2,h3,h4,h5,fun E hE=>by
      rcases List.mem_cons.1 hE with rfl | hE
      ·exact hZ
      ·exact h6 E hE⟩
     have P2:Hid ((D :: Ds).Nodup∧∀ E∈D :: Ds,q<E∧E<Z.heap.size):=by
      refine ⟨List.nodup_cons.2 ⟨fun hE=>by have:=(ND7.out.2 D hE).2;omega,ND7.out.1⟩,fun E hE=>?_⟩
      rcases List.mem_cons.1 hE with rfl | hE
      ·exact ⟨by omega,hDl⟩
      ·have:=ND7.out.2 E hE
       exact ⟨this.1,by omega⟩
     have HJL:=Lib.hid hjl
     clear h1 h2 h3 h4 h5 h6 hZ z2 z3 hD hDl hxs hseq
     go_wp2
     refine ⟨⟨j+1,D :: Ds,_,_,_,_,_,_,_,_,rfl,HJL.out,P.out,P2.out⟩,?_⟩
     have:=HJL.out
     show PL.length - ((j:Int)+1).toNat<PL.length - (j:Int).toNat
     omega
end Go.Proofs.YtajlleeonddinaaGreatDoor
namespace Go.Proofs.YtajlleeonddinaaGreatDoor
open Go.RowKit Go.Shelf
attribute [local go_sem] Oper.semAt_some
theorem find_fst (page:Int) (i:Nat):((fstF (patsOf (listS page)) i).1=[]→findP (listS page) (i:Int)=none)∧((fstF (patsOf (listS page)) i).1≠[]→findP (listS page) (i:Int)=some (fstF (patsOf (listS page)) i)):=by
 unfold findP fstF
 cases hf:(patsOf (listS page)).find? fun p=>fitsP p.1 (i:Int) with
 | none=>exact ⟨fun _=>rfl,fun h=>absurd rfl h⟩
 | some q=>
  have hq:=(ops_fit q (pages_ok page q (List.mem_of_find?_eq_some hf))).2.1
  exact ⟨fun h=>absurd h hq,fun _=>rfl⟩
def entsW (wnt:Str→Bool) (page:Int) (k:Nat):List Ke:=(entsR page k).filter fun e=>wnt e.2.2.1
theorem keysC_ents (wnt:Str→Bool) (page:Int) (hw:∀ (i:Nat) (p:Pat) (y:En),i<256→findP (listS page) (i:Int)=some p→entryT p page (i:Int)=some y→wnt (wordsT p (i:Int)).1=wnt y.1):∀ k,k≤256→keysC wnt page (codesK (patsOf (listS page)) k)=entsW wnt page k
 | 0,_=>rfl
 | k+1,hk=>by
  have ih:=keysC_ents wnt page hw k (by omega)
  have ha:=at_same page k (by omega)
  obtain ⟨h1,h2⟩:=find_fst page k
  unfold atT at ha
  unfold codesK
  by_cases he:(fstF (patsOf (listS page)) k).1=[]
  ·rw [if_pos he,ih]
   rw [h1 he] at ha
   unfold entsW
   rw [entsR,← ha]
  ·rw [if_neg he,keysC_snoc,ih]
   rw [h2 he] at ha
   simp only at ha
   unfold entsW keyC
   rw [entsR,← ha]
   cases hx:entryT (fstF (patsOf (listS page)) k) page (k:Int) with
   | none=>split <;> simp [keyE]
   | some y=>
    have h3:=hw k _ y (by omega) (h2 he) hx
    simp only [List.filter_append,List.filter_cons,List.filter_nil,keyE]
    rw [h3]
theorem num6:∀ p∈mainP++cbP++edP,p∈cbP→∀ n<256,numN p.1 (n / 8*8+6) 97 8=numN p.1 n 97 8∧numN p.1 (n / 8*8+6) 111 8=numN p.1 n 111 8:=by decide +kernel
theorem numP6 {p:Pat} (h:p∈mainP++cbP++edP) (hc:p∈cbP) (n:Nat) (hn:n<256):numP p.1 (op6 (n:Int)) 97=numP p.1 (n:Int) 97∧numP p.1 (op6 (n:Int)) 111=numP p.1 (n:Int) 111:=by
 have h6:=op6_all ⟨n,hn⟩
 simp only at h6
 obtain ⟨e1,e2⟩:=num6 p h hc n hn
 rw [h6,numP_eq _ _ (by omega),numP_eq _ _ hn,numP_eq _ _ (by omega),numP_eq _ _ hn]
 omega
theorem words6 {p:Pat} (h:p∈mainP++cbP++edP) (hc:p∈cbP) (n:Nat) (hn:n<256):(wordsT p (op6 (n:Int))).1=(wordsT p (n:Int)).1:=by
 obtain ⟨e1,e2⟩:=numP6 h hc n hn
 unfold wordsT
 rw [e1,e2]
theorem shift_name (p:Pat) (page op ix:Int):(shiftT p page op ix).1=(wordsT p (op6 op)).1:=by
 unfold shiftT
 simp only
 split
 ·rfl
 ·split <;> rfl
theorem entry_name {page:Int} {p:Pat} {y:En} (n:Nat) (hn:n<256) (hf:findP (listS page) (n:Int)=some p) (hy:entryT p page (n:Int)=some y):(wordsT p (n:Int)).1=y.1:=by
 have hm:=find_mem hf
 unfold entryT at hy
 by_cases h3:page=3
 ·rw [if_pos h3] at hy
  obtain ⟨z,-,rfl⟩:=Option.map_eq_some_iff.1 hy
  rfl
 rw [if_neg h3] at hy
 by_cases h4:page=4
 ·rw [if_pos h4] at hy
  obtain ⟨z,-,rfl⟩:=Option.map_eq_some_iff.1 hy
  rfl
 rw [if_neg h4] at hy
 have hcb:(page=5∨page=6)→p∈cbP:=fun h=>by
  have h1:=List.mem_of_find?_eq_some hf
  rw [patsOf_page] at h1
  unfold pagePats at h1
  rw [if_neg (by omega),if_pos (by omega)] at h1
  exact h1
 by_cases h5:page=5
 ·rw [if_pos h5] at hy
  obtain rfl:=Option.some.inj hy
  rw [shift_name]
  exact (words6 hm (hcb (.inl h5)) n hn).symm
 rw [if_neg h5] at hy
 by_cases h6:page=6
 ·rw [if_pos h6] at hy
  obtain rfl:=Option.some.inj hy
  rw [shift_name]
  exact (words6 hm (hcb (.inr h6)) n hn).symm
 rw [if_neg h6] at hy
 obtain rfl:=Option.some.inj hy
 rfl
theorem keysPg_named (op:Str) (page:Int):keysPg (fun m=>decide (m=op)) page=(entsR page 256).filter fun e=>decide (e.2.2.1=op):=by
 unfold keysPg
 rw [keysC_ents _ page (fun i p y hi hf hy=>congrArg (fun m=>decide (m=op)) (entry_name i hi hf hy)) 256 (Nat.le_refl _)]
 rfl
theorem named_any (op:Str) (w:World) (hM:MaxAt w) (A:Option Addr) (cap:Nat) (L:List Int) (hP:IntsP w A L) (hL:L.length≤10) :
  Calls Tryz.prog 145 #[.string (sB op),.slice A L.length cap] w (RetXT w (keysAll (fun m=>decide (m=op)) (pagesL L))):=by
 obtain ⟨w1,hw1⟩:∃ z,w.alloc (.cells #[.string (sB op)] 9)=z:=⟨_,rfl⟩
 have b1:Below w.heap.size w w1:=by rw [← hw1];exact up_alloc _ _
 have x1:Boxed w1 w.heap.size 9 (.string (sB op)):=by rw [← hw1];exact Boxed.new _ _ _
 have hc:=collect_any 173 #[.pointer (some ⟨w.heap.size,0,none⟩)] (enters_of Tryz.func173 (by kernel_rfl) rfl) (fun m=>decide (m=op)) w1 (hM.below b1) A cap L (hP.below b1) hL
  (fun m w' h=>wantOne_any m op w.heap.size w' ((h.block _ x1.lt).trans x1))
 have HB:=Lib.hid b1
 clear hP hM b1 x1
 go_enter Tryz.func145,Tryz.ntmps145
 go_wp2_with fail
 refine hc.mono ?_
 rintro e w' ⟨A1,c1,R,rfl,h1,h2,h3⟩
 have H:=Lib.hid (And.intro (h1.lift HB.out.size) (And.intro h2 (HB.out.trans (h3.mono HB.out.size))))
 clear h1 h2 h3 hc
 go_wp2
 go_ret
 exact ⟨A1,c1,R,rfl,H.out.1,H.out.2.1,H.out.2.2⟩
end Go.Proofs.YtajlleeonddinaaGreatDoor
namespace Go.Proofs.YtajlleeonddinaaGreatDoor
open Go.RowKit Go.Shelf
attribute [local go_sem] Oper.semAt_some
def KeepC (cb:Nat) (W W':World):Prop:=W.heap.size≤W'.heap.size∧∀ k o,k≠cb→W.heap[k]?=some o→o.isCells=true→W'.heap[k]?=some o
theorem KeepC.trans {cb:Nat} {A B C:World} (h:KeepC cb A B) (k:KeepC cb B C):KeepC cb A C:=⟨Nat.le_trans h.1 k.1,fun x o hx ho hc=>k.2 x o hx (h.2 x o hx ho hc) hc⟩
theorem KeepC.refl (cb:Nat) (W:World):KeepC cb W W:=⟨Nat.le_refl _,fun _ _ _ h _=>h⟩
theorem KeepC.of_below {cb:Nat} {W W':World} (h:Below W.heap.size W W'):KeepC cb W W':=⟨h.size,fun k o _ ho _=>(h.block k (Array.getElem?_eq_some_iff.1 ho).1).trans ho⟩
theorem KeepC.put {cb:Nat} (W:World) (l:Nat) (o o':Obj) (hl:W.heap[l]?=some o) (ho:o.isCells=false):KeepC cb W (W.putObj l o'):=⟨by simp,fun k x _ hx hc=>by
 have hne:k≠l:=by
  rintro rfl
  rw [hl] at hx
  obtain rfl:=Option.some.inj hx
  rw [ho] at hc
  cases hc
 exact (World.putObj_heap_other hne).trans hx⟩
theorem KeepC.cell {cb:Nat} {W W':World} (h:KeepC cb W W') {a:Addr} {v:Value} (hv:W.cell? a=some v) (ha:a.block≠cb):W'.cell? a=some v:=by
 obtain ⟨o,ho,hc⟩:=cells_of_cell hv
 exact (World.cell?_of_block ((h.2 _ o ha ho hc).trans ho.symm)).trans hv
theorem KeepC.boxed {cb:Nat} {W W':World} (h:KeepC cb W W') {b:Nat} {t:TypeId} {v:Value} (hv:Boxed W b t v) (hb:b≠cb):Boxed W' b t v:=h.2 b _ hb hv rfl
theorem OpsP.keepC {cb:Nat} {W W':World} {A:Option Addr} {L:List Tr} (h:OpsP W A L) (k:KeepC cb W W') (hA:∀ a,A=some a→L≠[]→a.block≠cb):OpsP W' A L:=by
 by_cases hL:L=[]
 ·exact .inl hL
 rcases h with h | ⟨b,off,rfl,hc⟩
 ·exact absurd h hL
 ·have hb:b≠cb:=hA _ rfl hL
  refine .inr ⟨b,off,rfl,fun j hj=>?_⟩
  obtain ⟨h1,h2,h3⟩:=hc j hj
  exact ⟨k.cell h1 hb,k.cell h2 hb,k.cell h3 hb⟩
theorem KsP.keepC {cb:Nat} {W W':World} {A:Option Addr} {L:List Int} (h:KsP W A L) (k:KeepC cb W W') (hA:∀ a,A=some a→L≠[]→a.block≠cb):KsP W' A L:=by
 by_cases hL:L=[]
 ·exact .inl hL
 rcases h with h | ⟨b,off,rfl,hc⟩
 ·exact absurd h hL
 ·have hb:b≠cb:=hA _ rfl hL
  exact .inr ⟨b,off,rfl,fun j hj=>k.cell (hc j hj) hb⟩
theorem MaxAt.keepC {cb:Nat} {W W':World} (h:MaxAt W) (k:KeepC cb W W') (hb:0≠cb):MaxAt W':=by
 obtain ⟨m,hm⟩:=h
 exact ⟨m,k.cell hm hb⟩
def EsN (N:Nat) (W:World) (A:Option Addr) (R:List Ee):Prop:=EsP W A R∧(∀ a,A=some a→R≠[]→N≤a.block)∧∀ r∈R,∀ a,r.A=some a→r.L≠[]→N≤a.block
theorem EsN.keepC {cb N:Nat} {W W':World} {A:Option Addr} {R:List Ee} (h:EsN N W A R) (k:KeepC cb W W') (hN:cb<N):EsN N W' A R:=by
 obtain ⟨h1,h2,h3⟩:=h
 refine ⟨?_,h2,h3⟩
 by_cases hR:R=[]
 ·exact .inl hR
 rcases h1 with h | ⟨b,off,rfl,hc⟩
 ·exact absurd h hR
 ·have hb:b≠cb:=by have:=h2 _ rfl hR;simp at this;omega
  refine .inr ⟨b,off,rfl,fun j hj=>⟨fun i u hu=>k.cell ((hc j hj).1 i u hu) hb,(hc j hj).2.keepC k fun a ha hL=>?_⟩⟩
  have:=h3 _ (List.getElem_mem hj) a ha hL
  omega
theorem own_block_ge {w:World} {n:Nat} {v:Value} {L:List Tr} {A:Option Addr} {m c:Nat} (h:OwnT w n v L) (e:v=.slice A m c) (a:Addr) (ha:A=some a):n≤a.block:=by
 subst e ha
 rcases h.2 with ⟨h,_⟩ | ⟨g,cap,cur,h,hg,_⟩
 ·cases h
 ·cases h
  exact hg
theorem OwnXT.esN {w:World} {n:Nat} {A:Option Addr} {cap:Nat} {R:List Ee} (h:OwnXT w n (.slice A R.length cap) R):EsN n w A R:=by
 obtain ⟨A',cap',e,hE,-⟩:=h.es
 simp only [Value.slice.injEq] at e
 obtain ⟨rfl,-,-⟩:=e
 refine ⟨hE,fun a ha _=>?_,fun r hr a ha _=>own_block_ge (h.2 r hr) rfl a ha⟩
 subst ha
 rcases h.1.2 with ⟨h,_⟩ | ⟨g,cap,cur,h,hg,_⟩
 ·cases h
 ·cases h
  exact hg
def shpE (C:List Tr) (k:Ke):Bool:=decide (k.2.2.2.1.map ks2=C.map ks2)
def candP (op:Str) (C:List Tr) (l:List Int):List Ke:=(keysAll (fun m=>decide (m=op)) l).filter (shpE C)
def candK (op:Str) (C:List Tr):List Ke:=candP op C (pagesC C)
def candE (C:List Tr) (R:List Ee) (k:Nat):List Ke:=((R.take k).map Ee.k).filter (shpE C)
theorem candE_succ (C:List Tr) (R:List Ee) (k:Nat) (h:k<R.length):candE C R (k+1)=candE C R k++(if shpE C R[k].k=true then [R[k].k] else []):=by
 unfold candE
 rw [List.take_succ_eq_append_getElem h,List.map_append,List.filter_append]
 simp only [List.map_cons,List.map_nil,List.filter_cons,List.filter_nil]
theorem candP_snoc (op:Str) (C:List Tr) (l:List Int) (p:Int):candP op C (l++[p])=candP op C l++(keysPg (fun m=>decide (m=op)) p).filter (shpE C):=by
 unfold candP
 rw [keysAll_snoc,List.filter_append]
theorem candP_pre (op:Str) (C:List Tr) (l:List Int) (j:Nat):candP op C (l.take j) <+: candP op C l:=by
 have h:keysAll (fun m=>decide (m=op)) (l.take j) <+: keysAll (fun m=>decide (m=op)) l:=by
  conv=>rhs;rw [← List.take_append_drop j l]
  unfold keysAll
  rw [List.flatMap_append]
  exact List.prefix_append _ _
 exact h.filter _
theorem ofShape_any (s:ByteArray) (A:Option Addr) (n cap:Nat) (w:World):Calls Tryz.prog 105 #[.agg #[.string s,.slice A n cap]] w fun e w'=>e=.returned (.func (.func 143) #[] #[.pointer (some ⟨w.heap.size,0,none⟩)])∧w.alloc (.cells #[.string s,.slice A n cap] 24)=w':=by
 go_enter Tryz.func105,Tryz.ntmps105
 go_wp2
 go_ret
 exact ⟨rfl,rfl⟩
def eeV (x:Ee):Value:=enV x.g x.o x.m x.v x.ex x.al
def ShE (op:Str) (C:List Tr) (pre:List Ee) (x:Ee) (W:World):Prop:=(pre++[x]).map Ee.k <+: candK op C∧OpsP W x.A x.L
end Go.Proofs.YtajlleeonddinaaGreatDoor
namespace Go.Proofs.YtajlleeonddinaaGreatDoor
open Go.RowKit Go.Shelf
attribute [local go_sem] Oper.semAt_some
theorem entsR_le (page:Int):∀ K,(entsR page K).length≤K
 | 0=>Nat.le_refl _
 | K+1=>by
  have ih:=entsR_le page K
  unfold entsR
  cases ratT page K with
  | none=>exact Nat.le_succ_of_le ih
  | some y=>simp;exact ih
def smallR (page:Int) (n:Nat):Bool:=match ratT page n with
 | some x=>decide (x.2.1.length≤3)
 | none=>true
theorem small_k:∀ g:Fin 7,∀ n:Fin 256,smallR (g.val:Int) n.val=true:=by decide +kernel
theorem small_all (page:Int) (n:Nat) (hn:n<256):smallR page n=true:=by
 by_cases hp:0≤page∧page≤6
 ·obtain ⟨g,rfl⟩:∃ g:Nat,page=(g:Int):=⟨page.toNat,by omega⟩
  exact small_k ⟨g,by omega⟩ ⟨n,hn⟩
 ·unfold smallR
  rw [ratT_no hp]
theorem entsR_small (page:Int):∀ K,K≤256→∀ y∈entsR page K,y.2.2.2.1.length≤3
 | 0,_,y,hy=>by cases hy
 | K+1,hK,y,hy=>by
  have ih:=entsR_small page K (by omega)
  have hs:=small_all page K (by omega)
  unfold smallR at hs
  unfold entsR at hy
  cases hx:ratT page K with
  | none=>rw [hx] at hy;exact ih y hy
  | some x=>
   rw [hx] at hy hs
   rcases List.mem_append.1 hy with h | h
   ·exact ih y h
   ·obtain rfl:=List.mem_singleton.1 h
    exact of_decide_eq_true hs
theorem keysPg_small (op:Str) (p:Int):∀ y∈keysPg (fun m=>decide (m=op)) p,y.2.2.2.1.length≤3:=fun y hy=>by
 rw [keysPg_named] at hy
 exact entsR_small p 256 (Nat.le_refl _) y (List.mem_filter.1 hy).1
theorem keysPg_len (op:Str) (p:Int):(keysPg (fun m=>decide (m=op)) p).length≤256:=by
 rw [keysPg_named]
 exact Nat.le_trans (List.length_filter_le _ _) (entsR_le p 256)
theorem keysAll_one (wnt:Str→Bool) (p:Int):keysAll wnt (pagesL [p])=keysPg wnt p:=by
 unfold keysAll pagesL
 rw [if_neg (by simp)]
 simp
theorem ints_onep (w:World) (p:Int):IntsP (w.alloc (.cells #[.int .i64 p] 3)) (some ⟨w.heap.size,0,none⟩) [p]:=by
 refine .inr ⟨_,0,rfl,fun k hk=>?_⟩
 have:k=0:=by simp at hk;omega
 subst this
 simp [go_sem]
theorem shape_tells (n:Nat) (Bs cb:Nat) (op:Str) (A:Option Addr) (cap lc:Nat) (C:List Tr) (hlc:C.length=lc) (hLc:lc≤1000) (w:World) (hs:w.heap[Bs]?=some (.cells #[.string (sB op),.slice A lc cap] 24 (0,0))) (hP:OpsP w A C) (hM:MaxAt w) (hcb:cb<w.heap.size) (h1:Bs≠cb) (h2:∀ a,A=some a→C≠[]→a.block≠cb) (h3:0≠cb) :
  Stops.TellsW Fence.wide n Tryz.prog 143 #[.pointer (some ⟨Bs,0,none⟩)] (fun x:Ee=>#[eeV x]) (ShE op C) (KeepC cb) (fun ys=>ys.map Ee.k=candK op C) w:=fun lp J Jx W hW hJ hY hJx h0=>by
 have hJd:∀ (z:List Ee) (X Y:World),J z X→Below X.heap.size X Y→J z Y:=fun z X Y h hb=>hJ z X Y none h (grow_below hb none) (fun r e=>by cases e)
 have hs1:=(hW.block Bs (Array.getElem?_eq_some_iff.1 hs).1).trans hs
 have pg:=pages_any (sB op) A cap lc C hlc hLc W (hP.below hW)
 have hcW:Hid (cb<W.heap.size):=by have:=hW.size;show cb<_;omega
 have k0:=Lib.cell_of_heap hs1 0
 have k1:=Lib.cell_of_heap hs1 1
 have KB:=Lib.hid (And.intro hs1 (And.intro (hP.below hW) (hM.below hW)))
 have J0:=Lib.hid h0
 have HY:=Lib.hid hY
 have HL:=Lib.hid hlc
 have HA:=Lib.hid (And.intro h1 (And.intro h2 h3))
 have HJd:=Lib.hid hJd
 clear h0 hY hJ hJx hW hs hP hs1 hlc h1 h2 h3 hJd hM hcb
 refine callsIn_wide.2 ?_
 show Calls Tryz.prog 143 #[.func (.yield lp) #[] #[],.pointer (some ⟨Bs,0,none⟩)] W _
 go_enter Tryz.func143,Tryz.ntmps143
 go_wp2_with fail
 refine pg.mono ?_
 rintro e W0 ⟨Ap,rfl,hks,hb,hrow⟩
 have KS:=Lib.hid hks
 obtain ⟨P,hPP⟩:∃ P,pagesC C=P:=⟨_,rfl⟩
 rw [hPP] at KS ⊢
 have HPP:=Lib.hid hPP
 have HPL:P.length≤3:=by rw [← hPP];unfold pagesC;split <;> (try split) <;> simp
 have KB1:Hid (W0.heap[Bs]?=some (.cells #[.string (sB op),.slice A lc cap] 24 (0,0))∧OpsP W0 A C∧MaxAt W0):=⟨(hb.block Bs (Array.getElem?_eq_some_iff.1 KB.out.1).1).trans KB.out.1,KB.out.2.1.below hb,KB.out.2.2.below hb⟩
 have J1:=Lib.hid (HJd.out _ _ _ J0.out hb)
 have HC1:Hid (cb<W0.heap.size):=by have:=hb.size;have:=hcW.out;show cb<_;omega
 have HPB:Hid (∀ a,Ap=some a→P≠[]→a.block≠cb):=fun a ha _=>by have:=hrow a ha;have:=hcW.out;omega
 obtain ⟨np,hnp⟩:∃ z,P.length=z:=⟨_,rfl⟩
 have HNP:=Lib.hid hnp
 rw [hnp] at HPL ⊢
 clear hks hb hrow KB J0 hcW pg hPP k0 k1 hnp
 go_wp2
 go_loopw [10] (fun i wr=>∃ (j:Nat) (pre:List Ee),j≤np∧i=.int .i64 j∧Hid (KeepC cb W0 wr)∧Hid (J pre wr)∧Hid (pre.map Ee.k=candP op C (P.take j))) (fun i _=>np - (intOf i).toNat)
 case atStart=>exact ⟨0,[],Nat.zero_le _,rfl,KeepC.refl _ _,J1.out,rfl⟩
 case round=>
  clear J1
  obtain ⟨j,pre,hj,rfl,KK,JJ,PK⟩:=hrel
  by_cases hlt:j<np
  ·have hjP:j<P.length:=by rw [HNP.out];exact hlt
   obtain ⟨b1,o1,rfl,p0⟩:=(KS.out.keepC KK.out HPB.out).at_ hjP
   obtain ⟨pg,hpg⟩:∃ z,P[j]=z:=⟨_,rfl⟩
   have PT:Hid (P.take (j+1)=P.take j++[pg]):=by show P.take (j+1)=_;rw [List.take_succ_eq_append_getElem hjP,hpg]
   rw [hpg] at p0
   have fb:=KK.out.2 Bs _ HA.out.1 KB1.out.1 rfl
   have k0:=Lib.cell_of_heap fb 0
   have ma:=KB1.out.2.2.keepC KK.out HA.out.2.2
   have ba:=up1 wr (.cells #[.int .i64 pg] 3)
   have nm:=named_any op _ (ma.below ba) (some ⟨wr.heap.size,0,none⟩) 1 [pg] (ints_onep wr pg) (by simp)
   rw [keysAll_one] at nm
   have BA:=Lib.hid ba
   clear hjP fb hpg
   go_wp2_with fail
   refine nm.mono ?_
   rintro e W2 ⟨Ae,ce,R,rfl,hO,hK,hb⟩
   have hb':Below wr.heap.size wr W2:=ba.trans (hb.mono ba.size)
   have K2:Hid (KeepC cb W0 W2):=KK.out.trans (KeepC.of_below hb')
   have J2:=Lib.hid (HJd.out _ _ _ JJ.out hb')
   have hsz:cb<(wr.alloc (.cells #[.int .i64 pg] 3)).heap.size:=by have h8:=KK.out.1;have:=HC1.out;simp;omega
   have ES:=Lib.hid hO.esN
   obtain ⟨N,hN⟩:∃ N,(wr.alloc (.cells #[.int .i64 pg] 3)).heap.size=N:=⟨_,rfl⟩
   rw [hN] at ES hsz
   have HNc:=Lib.hid hsz
   have KR:Hid (R.map Ee.k=keysPg (fun m=>decide (m=op)) pg):=hK
   have PK2:Hid (candP op C (P.take (j+1))=pre.map Ee.k++(R.map Ee.k).filter (shpE C)):=by
    show _=_
    rw [PT.out,candP_snoc,PK.out,KR.out]
   have RL:R.length≤256:=by
    have h1:(R.map Ee.k).length=_:=congrArg List.length hK
    rw [List.length_map] at h1
    rw [h1]
    exact keysPg_len op pg
   have PF:Hid (candP op C (P.take (j+1)) <+: candK op C):=by
    show _ <+: _
    unfold candK
    rw [HPP.out]
    exact candP_pre op C P (j+1)
   obtain ⟨nr,hnr⟩:∃ z,R.length=z:=⟨_,rfl⟩
   have HNR:=Lib.hid hnr
   have HJ1:Hid (j+1≤np):=by show _≤_;omega
   rw [hnr] at RL ⊢
   clear nm hO hK hb hb' hN hsz k0 p0 ma ba KK JJ PK hnr
   go_wp2
   go_loopw [20] (fun i wr=>∃ (k:Nat) (pr:List Ee),k≤nr∧i=.int .i64 k∧Hid (KeepC cb W0 wr)∧Hid (KeepC cb W2 wr)∧Hid (J pr wr)∧Hid (pr.map Ee.k=pre.map Ee.k++candE C R k)) (fun i _=>nr - (intOf i).toNat)
   case atStart=>exact ⟨0,pre,Nat.zero_le _,rfl,K2.out,KeepC.refl _ _,J2.out,by show _=_;simp [candE]⟩
   case round=>
    clear K2 J2
    obtain ⟨k,pr,hk,rfl,KA,KK,JJ,PK⟩:=hrel
    by_cases hlt2:k<nr
    ·have hkR:k<R.length:=by rw [HNR.out];exact hlt2
     have hat:=(ES.out.keepC KK.out HNc.out).1.at_ hkR
     have CS:=candE_succ C R k hkR
     obtain ⟨r,hr⟩:∃ r,R[k]=r:=⟨_,rfl⟩
     have hmem:r.k∈keysPg (fun m=>decide (m=op)) pg:=by rw [← KR.out,← hr];exact List.mem_map_of_mem (List.getElem_mem hkR)
     rw [hr] at hat CS
     have HCS:=Lib.hid CS
     have PKL:Hid (∀ k',k'≤R.length→pre.map Ee.k++candE C R k' <+: candK op C):=fun k' hk'=>by
      refine List.IsPrefix.trans ?_ PF.out
      rw [PK2.out]
      refine (List.prefix_append_right_inj _).2 ?_
      unfold candE
      conv=>rhs;rw [← List.take_append_drop k' (R.map Ee.k),List.filter_append,← List.map_take]
      exact List.prefix_append _ _
     have HPK1:=Lib.hid (PKL.out (k+1) (by omega))
     obtain ⟨g,o,m,Ar,cr,Lr,ex,al⟩:=r
     simp only [Ee.v] at hat
     obtain ⟨be,oe,rfl,hbe,e0,e1,e2,e3,e4,e5,eO⟩:=hat
     obtain ⟨ll,hll⟩:∃ z,Lr.length=z:=⟨_,rfl⟩
     rw [hll] at e3
     have HLL:=Lib.hid hll
     have fb:=KA.out.2 Bs _ HA.out.1 KB1.out.1 rfl
     have k1:=Lib.cell_of_heap fb 1
     have cO:=KB1.out.2.1.keepC KA.out HA.out.2.1
     obtain ⟨wa,hwa⟩:∃ z,wr.alloc (.cells #[.int .i64 g,.int .u8 o,.string (sB m),.slice Ar ll cr,.string (sB ex),.bool al] 134)=z:=⟨_,rfl⟩
     have ba:Below wr.heap.size wr wa:=by rw [← hwa];exact up1 _ _
     have nb:wa.heap[wr.heap.size]?=some (.cells #[.int .i64 g,.int .u8 o,.string (sB m),.slice Ar ll cr,.string (sB ex),.bool al] 134 (0,0)):=by rw [← hwa];exact World.alloc_heap_new _ _
     have k1':=(ba.cell (p:=⟨Bs,1,none⟩) (Array.getElem?_eq_some_iff.1 fb).1).trans k1
     have s0:=Lib.cell_of_heap nb 0
     have s1:=Lib.cell_of_heap nb 1
     have s2:=Lib.cell_of_heap nb 2
     have s3:=Lib.cell_of_heap nb 3
     have s4:=Lib.cell_of_heap nb 4
     have s5:=Lib.cell_of_heap nb 5
     have eq:=equalK_any Ar A cr cap ll lc Lr C hll HL.out (by have h:=keysPg_small op pg _ hmem;simp only [Ee.k] at h;omega) hLc wa (eO.below ba) (cO.below ba)
     have BA:=Lib.hid ba
     have NB:=Lib.hid nb
     have EO:=Lib.hid (eO.below ba)
     have SH:shpE C (Ee.k ⟨g,o,m,Ar,cr,Lr,ex,al⟩)=decide (Lr.map ks2=C.map ks2):=rfl
     obtain ⟨tt,htt⟩:∃ z,decide (Lr.map ks2=C.map ks2)=z:=⟨_,rfl⟩
     rw [htt] at eq SH
     rw [SH] at HCS CS
     have HCS:=Lib.hid CS
     clear CS hkR hmem eO fb k1 cO hll htt SH hbe ba nb hr
     go_upto_region 6 with fail
     clear e0 e1 e2 e3 e4 e5
     have KA2:Hid (KeepC cb W0 wa):=KA.out.trans (KeepC.of_below BA.out)
     have KK2:Hid (KeepC cb W2 wa):=KK.out.trans (KeepC.of_below BA.out)
     have J2:=Lib.hid (HJd.out _ _ _ JJ.out BA.out)
     clear KA KK JJ
     cases tt with
     | false=>
      have PS:Hid (pr.map Ee.k=pre.map Ee.k++candE C R (k+1)):=by show _=_;rw [HCS.out,PK.out,if_neg (by decide),List.append_nil]
      go_wp2_with fail
      refine eq.mono ?_
      rintro e W5 ⟨rfl,hb⟩
      have KA5:Hid (KeepC cb W0 W5):=KA2.out.trans (KeepC.of_below hb)
      have KK5:Hid (KeepC cb W2 W5):=KK2.out.trans (KeepC.of_below hb)
      have J5:=Lib.hid (HJd.out _ _ _ J2.out hb)
      clear eq hb KA2 KK2 J2
      go_wp2
      go_roundw
      case rel=>exact ⟨k+1,pr,by omega,by go_num,KA5.out,KK5.out,J5.out,PS.out⟩
      case measure=>simp [intOf];omega
     | true=>
      have PS:Hid ((pr++[(⟨g,o,m,Ar,cr,Lr,ex,al⟩:Ee)]).map Ee.k=pre.map Ee.k++candE C R (k+1)):=by
       show _=_
       rw [HCS.out,List.map_append,PK.out,if_pos rfl,List.append_assoc]
       rfl
      have PX:Hid ((pr++[(⟨g,o,m,Ar,cr,Lr,ex,al⟩:Ee)]).map Ee.k <+: candK op C):=by show _ <+: _;rw [PS.out];exact HPK1.out
      refine (wpIn_wide (n:=n)).1 ?_
      gi_wp2_with fail
      refine ⟨trivial,fun h=>(by cases h),(callsIn_wide.2 eq).mono ?_⟩
      rintro e W5 ⟨rfl,hb⟩
      have KA5:Hid (KeepC cb W0 W5):=KA2.out.trans (KeepC.of_below hb)
      have KK5:Hid (KeepC cb W2 W5):=KK2.out.trans (KeepC.of_below hb)
      have J5:=Lib.hid (HJd.out _ _ _ J2.out hb)
      have hyd:=HY.out pr ⟨g,o,m,Ar,cr,Lr,ex,al⟩ W5 J5.out ⟨PX.out,EO.out.below hb⟩
      obtain ⟨fn,tmps,assign,body,hy,hR⟩:=hyd
      have nb5:=(hb.block _ (Array.getElem?_eq_some_iff.1 NB.out).1).trans NB.out
      have s0:=Lib.cell_of_heap nb5 0
      have s1:=Lib.cell_of_heap nb5 1
      have s2:=Lib.cell_of_heap nb5 2
      have s3:=Lib.cell_of_heap nb5 3
      have s4:=Lib.cell_of_heap nb5 4
      have s5:=Lib.cell_of_heap nb5 5
      simp only [eeV,enV,Ee.v] at hy
      rw [HLL.out] at hy
      clear eq hb KA2 KK2 J2 nb5
      gi_wp2
      refine ⟨fun h=>(by cases h),hR.mono ?_⟩
      rintro e3 W3 (⟨rfl,hJ3,hk3⟩ | ⟨rfl,hJx3⟩)
      ·have KA6:Hid (KeepC cb W0 W3):=KA5.out.trans hk3
       have KK6:Hid (KeepC cb W2 W3):=KK5.out.trans hk3
       have J6:=Lib.hid hJ3
       clear hJ3 hk3 hR hy KA5 KK5 J5
       gi_wp2
       go_wp2
       go_roundw
       case rel=>exact ⟨k+1,_,by omega,by go_num,KA6.out,KK6.out,J6.out,PS.out⟩
       case measure=>simp [intOf];omega
      ·clear hR hy
       gi_wp2
       go_wp2
       refine bodyPost_ret (results_none rfl _ _ _) rfl ?_
       exact ⟨⟨_,rfl⟩,.inr ⟨_,hJx3⟩⟩
    ·have PE:Hid (pr.map Ee.k=candP op C (P.take (j+1))):=by
      show _=_
      rw [PK2.out,PK.out]
      unfold candE
      rw [List.take_of_length_le (by have:=HNR.out;omega)]
     go_wp2
     go_roundw
     case rel=>exact ⟨j+1,pr,HJ1.out,by go_num,KA.out,JJ.out,PE.out⟩
     case measure=>simp [intOf];omega
  ·have PE:Hid (pre.map Ee.k=candK op C):=by
    show _=_
    unfold candK
    rw [HPP.out,PK.out,List.take_of_length_le (by have:=HNP.out;omega)]
   go_wp2
   go_end0
   have h:=JJ.out
   exact ⟨⟨_,rfl⟩,.inl ⟨_,PE.out,h⟩⟩
end Go.Proofs.YtajlleeonddinaaGreatDoor
namespace Go.Mixed
open Go
inductive Ord where
 | done:Ord
 | pure:Nat→Ord→Ord
 | one:Nat→Ord→Ord
 | two:Nat→Ord→Nat→Ord→Ord
section
variable {P:Program} {ops:Array Oper} {md:Region.Mode}
def Ord.len:Ord→Nat
 | .done=>0
 | .pure _ t=>t.len+1
 | .one _ t=>t.len+1
 | .two _ t _ _=>t.len+1
def ordT (md:Region.Mode) (ops:Array Oper) (n g:Nat):Ord→Array Bool→Bool
 | .done,listed=>Region.seqB md ops g n listed
 | .pure k r,listed=>(Region.ready md ops listed).contains k&&decide (k<n)&&Region.free md ops listed k&&ordT md ops n g r (listed.setIfInBounds k true)
 | .one k r,listed=>decide (Region.ready md ops listed=[k])&&decide (k<n)&&ordT md ops n g r (listed.setIfInBounds k true)
 | .two k r k2 r2,listed=>decide (Region.ready md ops listed=[k,k2])&&decide (k<n)&&decide (k2<n)&&decide (r2.len=r.len)&&ordT md ops n g r (listed.setIfInBounds k true)&&ordT md ops n g r2 (listed.setIfInBounds k2 true)
def mixedT (md:Region.Mode) (ops:Array Oper) (n:Nat) (ord:Ord):Bool:=
 Region.noSelect ops&&decide (n<ops.size)&&decide (ord.len+(ops.size - n)=ops.size)&&Region.sinkB md ops n&&Region.chainB md ops n&&ordT md ops n (ops.size - n) ord (Array.replicate ops.size false)
def wpMixT (P:Program) (ops:Array Oper) (C:World→Prop) (T:Act→World→Prop):Ord→Act→World→Prop
 | .done,a,w=>T a w
 | .pure k r,a,w=>match ops[k]? with
  | none=>False
  | some o=>∃ v,Pure P ops C o v a∧wpMixT P ops C T r (a.put o.dst v) w
 | .one k r,a,w=>wpOp P ops QF k (fun a' w'=>C w'∧wpMixT P ops C T r a' w') a w
 | .two k r k2 r2,a,w=>wpOp P ops QF k (fun a' w'=>C w'∧wpMixT P ops C T r a' w') a w∧wpOp P ops QF k2 (fun a' w'=>C w'∧wpMixT P ops C T r2 a' w') a w
theorem wpAnyC_ordT {C:World→Prop} {n g:Nat} {T:Act→World→Prop} (hsel:Region.noSelect ops=true) (hs:Region.sinkB md ops n=true) (hc:Region.chainB md ops n=true) (hn:n<ops.size) :
  ∀ (ord:Ord) (listed:Array Bool) (a:Act) (w:World),HeadInv md ops n listed→ordT md ops n g ord listed=true→C w→wpMixT P ops C T ord a w→
  wpAnyC P md ops n C (fun listed' a' w'=>Region.seqB md ops g n listed'=true∧T a' w') ord.len listed a w
 | .done,listed,a,w,_,hB,hC,h=>⟨hC,hB,h⟩
 | .pure k r,listed,a,w,inv,hB,hC,h=>by
  simp only [ordT,Bool.and_eq_true,decide_eq_true_eq] at hB
  obtain ⟨⟨⟨hr,hk⟩,hf⟩,hB'⟩:=hB
  have hr':k∈Region.ready md ops listed:=by simpa using hr
  simp only [wpMixT] at h
  cases ho:ops[k]? with
  | none=>rw [ho] at h;exact h.elim
  | some o=>
   rw [ho] at h
   obtain ⟨v,hv,hK⟩:=h
   exact wpAnyC_first ho (Region.noSelect_spec hsel) hs hc hn hk (fun listed' a' w' hL=>seqB_ready hL.1) r.len listed a w inv (Region.free_spec ho hf) hr' hv hC
    (wpAnyC_ordT hsel hs hc hn r _ _ w (inv.set hr' hk) hB' hC hK)
 | .one k r,listed,a,w,inv,hB,hC,h=>by
  simp only [ordT,Bool.and_eq_true,decide_eq_true_eq] at hB
  obtain ⟨⟨hr,hk⟩,hB'⟩:=hB
  simp only [wpMixT] at h
  have hne:Region.ready md ops listed≠[]:=by rw [hr];exact List.cons_ne_nil _ _
  refine ⟨hC,hne,fun i hi=>?_⟩
  rw [hr] at hi
  have hik:i=k:=by simpa using hi
  subst hik
  refine ⟨hk,wpOp_QF (fun a' w' h'=>?_) h⟩
  exact wpAnyC_ordT hsel hs hc hn r _ a' w' (inv.set (by rw [hr];exact List.mem_singleton.2 rfl) hk) hB' h'.1 h'.2
 | .two k r k2 r2,listed,a,w,inv,hB,hC,h=>by
  simp only [ordT,Bool.and_eq_true,decide_eq_true_eq] at hB
  obtain ⟨⟨⟨⟨⟨hr,hk⟩,hk2⟩,hlen⟩,hB1⟩,hB2⟩:=hB
  simp only [wpMixT] at h
  have hne:Region.ready md ops listed≠[]:=by rw [hr];exact List.cons_ne_nil _ _
  refine ⟨hC,hne,fun i hi=>?_⟩
  have hi0:=hi
  rw [hr] at hi
  have hik:i=k∨i=k2:=by simpa using hi
  rcases hik with rfl | rfl
  ·refine ⟨hk,wpOp_QF (fun a' w' h'=>?_) h.1⟩
   exact wpAnyC_ordT hsel hs hc hn r _ a' w' (inv.set hi0 hk) hB1 h'.1 h'.2
  ·refine ⟨hk2,wpOp_QF (fun a' w' h'=>?_) h.2⟩
   have:=wpAnyC_ordT hsel hs hc hn r2 _ a' w' (inv.set hi0 hk2) hB2 h'.1 h'.2
   rwa [hlen] at this
theorem wp_region_mixedT {id:Nat} {Q:Exit→Act→World→Prop} {a:Act} {w:World} {l:List Oper} (C:World→Prop) (n:Nat) (ord:Ord) (hm:P.follows .mixedOrders=true) (hB:mixedT .any l.toArray n ord=true)
  (hC:C w.drew) (h:wpMixT P l.toArray C (fun a' w'=>wpList P l.toArray Q (l.drop n) a' w') ord a w.drew):(Code.region id l.toArray true).wp P Q a w:=by
 simp only [mixedT,Bool.and_eq_true,decide_eq_true_eq] at hB
 obtain ⟨⟨⟨⟨⟨hsel,hn⟩,hlen⟩,hs⟩,hc⟩,hord⟩:=hB
 have hdl:(l.drop n).length=l.toArray.size - n:=by simp
 have inv0:HeadInv .any l.toArray n (Array.replicate l.toArray.size false):=
  ⟨by simp,fun j oj _ hl=>(by rw [getD_replicate_false] at hl;cases hl),fun t _ ht=>getD_in (by simpa using ht) (getD_replicate_false _ _)⟩
 have H:=wpAnyC_ordT hsel hs hc hn ord _ a w.drew inv0 hord hC h
 refine wp_region_any hm ?_
 have:=wpAny_of_headC (Q':=Q) (g:=l.toArray.size - n) (fun listed a' w' hL=>by
  have:=wpAny_of_seq (md:=.any) (Q':=Q) (l.drop n) n listed a' w' (fun j=>by simp [List.getElem?_drop]) (by rw [hdl];exact hL.1) hL.2
  rwa [hdl] at this) _ _ _ _ H
 rw [hlen] at this
 exact this
theorem wpMixT_pure {C:World→Prop} {T:Act→World→Prop} {k:Nat} {r:Ord} {a:Act} {w:World} {o:Oper} (ho:ops[k]?=some o) (hw:Region.wanted o (yielded ops a.tmps)=true) (v:Value)
  (hv:∀ w,C w→(execOp a.eval o).run P w=.ok (.value v) w) (h:wpMixT P ops C T r (a.put o.dst v) w):wpMixT P ops C T (.pure k r) a w:=by
 simp only [wpMixT,ho]
 exact ⟨v,.inl ⟨hw,hv⟩,h⟩
theorem wpOp_loudT {K:Act→World→Prop} {k:Nat} {a:Act} {w:World} {o:Oper} (ho:ops[k]?=some o) (hw:Region.wanted o (yielded ops a.tmps)=true) (h:wpList P ops (QK K) [{o with guard:=none}] a w):wpOp P ops QF k K a w:=by
 unfold wpOp
 simp only [ho,hw,if_true]
 have hw2:Region.wanted {o with guard:=none} (yielded ops a.tmps)=true:=rfl
 simp only [wpList,hw2,if_true] at h
 rcases h with h | h
 ·exact .inl (upon_QK h)
 ·exact absurd h.2 (not_letsOut_QK _)
theorem wpMixT_loud {C:World→Prop} {T:Act→World→Prop} {k:Nat} {r:Ord} {a:Act} {w:World} {o:Oper} (ho:ops[k]?=some o) (hw:Region.wanted o (yielded ops a.tmps)=true) (h:wpList P ops (QK fun a' w'=>C w'∧wpMixT P ops C T r a' w') [{o with guard:=none}] a w) :
  wpMixT P ops C T (.one k r) a w:=by
 simp only [wpMixT]
 exact wpOp_loudT ho hw h
theorem wpMixT_both {C:World→Prop} {T:Act→World→Prop} {k k2:Nat} {r r2:Ord} {a:Act} {w:World} {o o2:Oper} (ho:ops[k]?=some o) (hw:Region.wanted o (yielded ops a.tmps)=true) (ho2:ops[k2]?=some o2) (hw2:Region.wanted o2 (yielded ops a.tmps)=true)
  (h:wpList P ops (QK fun a' w'=>C w'∧wpMixT P ops C T r a' w') [{o with guard:=none}] a w) (h2:wpList P ops (QK fun a' w'=>C w'∧wpMixT P ops C T r2 a' w') [{o2 with guard:=none}] a w) :
  wpMixT P ops C T (.two k r k2 r2) a w:=by
 simp only [wpMixT]
 exact ⟨wpOp_loudT ho hw h,wpOp_loudT ho2 hw2 h2⟩
end
end Go.Mixed
namespace Go.Proofs.YtajlleeonddinaaGreatDoor
open Go.RowKit Go.Shelf
attribute [local go_sem] Oper.semAt_some
attribute [local irreducible] Go.Mixed.wpMixT
attribute [local irreducible] Go.Mixed.wpMix
theorem isame2_any (s1 s2:ByteArray) (A1 A2:Option Addr) (c1 c2 n1 n2:Nat) (L1 L2:List Tr) (hn1:L1.length=n1) (hn2:L2.length=n2) (h1:n1≤1000) (h2:n2≤1000) (w:World) (H1:OpsP w A1 L1) (H2:OpsP w A2 L2) :
  Calls Tryz.prog 151 #[.agg #[.string s1,.slice A1 n1 c1],.agg #[.string s2,.slice A2 n2 c2]] w fun e w'=>e=.returned (.bool (decide (s1=s2)&&decide (L1=L2)))∧Below w.heap.size w w':=by
 have hal:Below w.heap.size w ((w.alloc (.cells #[.string s1,.slice A1 n1 c1] 24)).alloc (.cells #[.string s2,.slice A2 n2 c2] 24)):=((Below.refl _ _).alloc (Nat.le_refl _) _).alloc (by simp) _
 have eq:=equalO_any A1 A2 c1 c2 L1 L2 (by unfold maxLen;omega) (by unfold maxLen;omega) _ (H1.below hal) (H2.below hal)
 rw [hn1,hn2] at eq
 have EQ:=Lib.hid eq
 have B0:=Lib.hid hal
 obtain ⟨b,hb⟩:∃ b,decide (L1=L2)=b:=⟨_,rfl⟩
 rw [hb] at EQ
 rw [hb]
 clear H1 H2 hal hn1 hn2 hb eq
 by_cases hs:s1=s2
 ·subst hs
  have hq:=strB_eq s1
  rw [decide_eq_true rfl,Bool.true_and]
  go_enter Tryz.func151,Tryz.ntmps151
  go_wp2_with fail
  refine EQ.out.mono ?_
  rintro e w1 ⟨rfl,hb⟩
  have B1:=Lib.hid (B0.out.trans (hb.mono B0.out.size))
  clear hb
  go_wp2
  go_ret
  exact ⟨rfl,B1.out⟩
 ·have hq:=strB_ne hs
  rw [decide_eq_false hs,Bool.false_and]
  clear hs EQ
  go_enter Tryz.func151,Tryz.ntmps151
  go_wp2
  go_ret
  exact ⟨rfl,B0.out⟩
theorem OpsP.put_ins {w:World} {A:Option Addr} {L:List Tr} (h:OpsP w A L) {c:Nat} {s:ByteArray} {Ai:Option Addr} {n cap:Nat} (hc:w.heap[c]?=some (.cells #[.string s,.slice Ai n cap] 24 (0,0))) (j:Nat) (u:Value):OpsP (w.setCell ⟨c,j,none⟩ u) A L:=by
 rcases h with rfl | ⟨g,off,rfl,hh⟩
 ·exact .inl rfl
 ·refine .inr ⟨g,off,rfl,fun k hk=>?_⟩
  obtain ⟨h1,h2,h3⟩:=hh k hk
  have hne:g≠c:=by
   rintro rfl
   rw [Lib.cell_of_heap hc] at h1
   have h9:=(Array.getElem?_eq_some_iff.1 h1).1
   have:off+k*3=0∨off+k*3=1:=by simp at h9;omega
   rcases this with e | e
   ·rw [e] at h1;cases h1
   ·rw [e] at h1;cases h1
  have e:∀ (p:Nat) (v:Value),w.cell? ⟨g,p,none⟩=some v→(w.setCell ⟨c,j,none⟩ u).cell? ⟨g,p,none⟩=some v:=fun p v hp=>(World.cell?_of_block (a:=⟨g,p,none⟩) (heap_setCell_other w ⟨c,j,none⟩ g u hne)).trans hp
  exact ⟨e _ _ h1,e _ _ h2,e _ _ h3⟩
end Go.Proofs.YtajlleeonddinaaGreatDoor
