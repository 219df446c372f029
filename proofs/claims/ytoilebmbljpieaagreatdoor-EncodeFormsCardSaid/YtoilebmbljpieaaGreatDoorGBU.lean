/-
  SeAl, WrH, WrK, EnQ.
-/
import Derived.Test.YtoilebmbljpieaaGreatDoorMSeM
import Derived.Test.YtoilebmbljpieaaGreatDoorGBT
import Derived.Test.YtoilebmbljpieaaGreatDoorGBO
import Derived.Test.YtoilebmbljpieaaGreatDoorGAQ
import Derived.Laws.CopyOwn
import Derived.Laws.Tables
import Derived.Test.YtoilebmbljpieaaGreatDoorGBP
import Derived.Test.YtoilebmbljpieaaGreatDoorGAP
import Derived.Test.YtoilebmbljpieaaGreatDoorGAG
set_option linter.all false
set_option maxRecDepth 100000
set_option maxHeartbeats 4000000
namespace Go.Proofs.YtoilebmbljpieaaGreatDoor
open Go.RowKit Go.Shelf
attribute [local go_sem] Oper.semAt_some
theorem own_ne {w w':World} {base n size:Nat} {e:TypeId} {v:Value} {xs:List Value} {row:Option Nat} (h:w.ownsRow base e size v n xs) (hr:∀ r,row=some r→∃ o:Obj,w.heap[r]?=some o∧o.isCells=false):v.ownBlock=none∨v.ownBlock≠row:=by
 rcases h.2 with ⟨rfl,_⟩ | ⟨g,cap,cur,rfl,_,hg,_⟩
 ·exact .inl rfl
 ·refine .inr fun e'=>?_
  obtain ⟨o,ho,hc⟩:=hr g e'.symm
  rw [hg] at ho
  obtain rfl:=Option.some.inj ho
  cases hc
theorem KeepL.grown {cb:Nat} {W W':World} {row:Option Nat} (hg:W.grownBy W' row) (hr:∀ r,row=some r→∃ o:Obj,W.heap[r]?=some o∧o.isCells=false):KeepL cb W W':=by
 refine ⟨hg.size,fun c=>?_⟩
 have other:∀ k (x:Obj),W.heap[k]?=some x→x.isCells=true→W'.heap[k]?=W.heap[k]?:=fun k x hx hc=>hg.block k (Array.getElem?_eq_some_iff.1 hx).1 fun e=>by
  obtain ⟨o,ho,hc2⟩:=hr k e.symm
  rw [hx] at ho
  obtain rfl:=Option.some.inj ho
  rw [hc] at hc2
  cases hc2
 obtain ⟨q,hq,hqc⟩:=c.1
 have e:=other cb q hq hqc
 exact ⟨⟨⟨q,e.trans hq,hqc⟩,fun g hg'=>Nat.lt_of_lt_of_le (c.2 g (hg'.of_heap e)) hg.size⟩,fun k x _ _ hx hc=>(other k x hx hc).trans hx,fun g hg'=>.inl (hg'.of_heap e)⟩
theorem KeepL.store {cb:Nat} {W W1:World} {T:TypeId} {v:Value} {A':Option Addr} {l c:Nat} (hb:Boxed W cb T v) (hg:W.grownBy W1 v.ownBlock) (h1:Boxed W1 cb T v) (hw:∀ p,A'=some p→v.ownBlock=some p.block∨W.heap.size≤p.block) (hlt:∀ p,A'=some p→p.block<W1.heap.size) :
  KeepL cb W (W1.setCell ⟨cb,0,none⟩ (.slice A' l c)):=by
 have rho:∀ g,Rho cb (W1.setCell ⟨cb,0,none⟩ (.slice A' l c)) g→∃ p,A'=some p∧p.block=g:=fun g hr=>by
  obtain ⟨a,n,c',e1,e2⟩:=hr
  rw [(Boxed.set _ h1).cell] at e1
  cases e1
  exact ⟨a,rfl,e2⟩
 have rv:∀ g,v.ownBlock=some g→Rho cb W g:=fun g hv=>by
  cases v with
  | slice A n c'=>
   cases A with
   | none=>cases hv
   | some a=>exact ⟨a,n,c',hb.cell,Option.some.inj hv⟩
  | _=>cases hv
 refine ⟨by simpa using hg.size,fun c=>⟨⟨⟨_,Boxed.set _ h1,rfl⟩,fun g hr=>?_⟩,fun k o hk hr ho hc=>?_,fun g hr=>?_⟩⟩
 ·obtain ⟨p,e1,rfl⟩:=rho g hr
  simpa using hlt p e1
 ·exact (heap_setCell_other W1 ⟨cb,0,none⟩ k _ hk).trans ((hg.block k (Array.getElem?_eq_some_iff.1 ho).1 fun e=>hr (rv k e.symm)).trans ho)
 ·obtain ⟨p,e1,rfl⟩:=rho g hr
  rcases hw p e1 with h | h
  ·exact .inl (rv _ h)
  ·exact .inr h
theorem cand_len (op:Str) (C:List Tr):(candK op C).length≤768:=by
 unfold candK candP keysAll
 refine Nat.le_trans (List.length_filter_le _ _) ?_
 have h:∀ l:List Int,(l.flatMap (keysPg fun m=>decide (m=op))).length≤256*l.length:=fun l=>by
  induction l with
  | nil=>exact Nat.le_refl _
  | cons p l ih=>
   rw [List.flatMap_cons,List.length_append,List.length_cons]
   have:=keysPg_len op p
   omega
 have h3:(pagesC C).length≤3:=by unfold pagesC;split <;> (try split) <;> simp
 have:=h (pagesC C)
 omega
def RetAllS (w:World) (Ks:List Ke) (e:Ending) (w':World):Prop:=∃ A cap R,e=.returned (.slice A R.length cap)∧OwnXT w' w.heap.size (.slice A R.length cap) R∧R.map Ee.k=Ks∧Below w.heap.size w w'
theorem sall_any (op:Str) (hop:op.length≤1000) (Ai:Option Addr) (capi li:Nat) (I:List Tr) (hli:I.length=li) (hLi:li≤900) (w:World) (hM:MaxAt w) (HF:OpsP w Ai I) :
  Calls Tryz.prog 46 #[.agg #[.string (sB op),.slice Ai li capi]] w (RetAllS w (allK op (canL (opc (sB op)) I))):=by
 have hof:=fun w h=>of_any (sB op) Ai capi I (by omega) w h
 rw [hli] at hof
 have hcl:=canL_len (opc (sB op)) I
 obtain ⟨C,hC⟩:∃ C,canL (opc (sB op)) I=C:=⟨_,rfl⟩
 rw [hC] at hof hcl ⊢
 obtain ⟨lc,hlc⟩:∃ z,C.length=z:=⟨_,rfl⟩
 have hLc:lc≤1000:=by omega
 have HLC:=Lib.hid hlc
 obtain ⟨n,hn⟩:∃ n,w.heap.size=n:=⟨_,rfl⟩
 have HN:=Lib.hid hn
 obtain ⟨b0,w0,hb0,hw0,S0,y0,z0⟩:=Fr.box (Fr.start w n hn) #[.string (sB op),.slice Ai li capi] 26
 rw [hn] at hb0
 subst hb0
 have of0:=hof w0 (HF.below y0)
 have hgn:0 < n:=by rw [← hn];exact hM.lt
 have hM0:=Lib.hid (hM.below y0)
 obtain ⟨k0,k1⟩:=Fr.cells2 S0.out.1
 refine callsIn_wide.1 (callsIn_of_wp_marks (n:=3) Tryz.func46 rfl trivial ?_ rfl)
 simp only [Tryz.ntmps46,List.size_toArray,List.length_cons,List.length_nil,Nat.reduceAdd,Nat.reduceSub,Array.replicate_succ,Array.replicate_zero,List.push_toArray,List.append_toArray,List.nil_append,List.cons_append]
 refine wpIn_wide.2 ?_
 clear hof HF hM hC y0
 go_wp2_with fail
 refine of0.mono ?_
 rintro e w1 ⟨v,rfl,hO,hb1⟩
 obtain ⟨Ac,cc,rfl,hPc,-,-⟩:=hO.ops
 rw [hlc]
 have S1:=Fr.up S0 hb1
 have M1:=Lib.hid (hM0.out.below hb1)
 obtain ⟨b,w2,hbs,hw2,S2,y2,z2⟩:=Fr.box S1 #[.string (sB op),.slice Ac lc cc] 26
 obtain ⟨b',w3,hbs3,hw3,S3,y3,z3⟩:=Fr.box S2 #[.slice none 0 0] 91
 rw [z2] at hbs3
 subst hbs3
 have hnb:n+1≤b:=by have:=Fr.lt_of_blk S1.out.1;omega
 have hsh:=ofShape_any (sB op) Ac lc cc w3
 rw [z3] at hsh
 obtain ⟨m0,m1⟩:=Fr.cells2 S3.out.2.1
 go_wp2_with fail
 refine hsh.mono ?_
 rintro e W0 ⟨rfl,hW0⟩
 have zW:W0.heap.size=b+1+1+1:=by rw [← hW0];simp;omega
 have bW:Below w3.heap.size w3 W0:=by rw [← hW0];exact (Below.refl _ _).alloc (Nat.le_refl _) _
 have hs:W0.heap[b+1+1]?=some (.cells #[.string (sB op),.slice Ac lc cc] 26 (0,0)):=by
  rw [← hW0,← z3]
  exact World.alloc_heap_new w3 _
 have S4:=Fr.up S3 bW
 have BL:Hid (Boxed W0 (b+1) 91 (.slice none 0 0)):=S4.out.1
 have DF:=Lib.hid S4.out.2.1
 have BN:Hid (Below n w W0):=S4.out.2.2.2.1.1
 have MW:Hid (MaxAt W0):=((M1.out.below y2).below y3).below bW
 have OC:Hid (OpsP W0 Ac C):=((hPc.below y2).below y3).below bW
 have hAc:∀ a,Ac=some a→C≠[]→a.block≠b+1:=fun a ha hne=>by
  rcases hPc with h | ⟨bb,off,e,hc⟩
  ·exact absurd h hne
  ·rw [ha] at e
   obtain rfl:=Option.some.inj e
   have h9:bb<w1.heap.size:=World.block_lt_of_cell? w1 _ (hc 0 (List.length_pos_iff.2 hne)).1
   show bb≠b+1
   omega
 have HAC:=Lib.hid hAc
 have RH:Hid (∀ g,¬Rho (b+1) W0 g):=fun g hg=>by
  obtain ⟨a,n',c',e,-⟩:=hg
  rw [BL.out.cell] at e
  cases e
 have CK:Hid (CbOk (b+1) W0):=⟨⟨_,BL.out,rfl⟩,fun g hg=>absurd hg (RH.out g)⟩
 have hseq:=shape_tellsL 2 (b+1+1) (b+1) op Ac cc lc C hlc hLc W0 hs OC.out MW.out (by omega) (by omega) hAc (by omega) CK.out RH.out
 have HB:Hid (n+1≤b):=hnb
 have HE:Hid (∀ (x:Ee) (w':World),InTab x.k→OpsP w' x.A x.L→OpsP w' Ac C→Calls Tryz.prog 86 #[.agg #[.string (sB op),.slice Ac lc cc],eeV x] w' fun e w''=>e=.returned (.bool (hasK op C x.k))∧Below w'.heap.size w' w''):=fun x w' hin h1 h2=>by
  have h:=hin.ok
  exact hasEntry_any x.g x.o x.m (by have:=h.m;simp only [Ee.k] at this;omega) h.up x.A x.cap x.L.length x.L rfl (by have:=h.len;simp only [Ee.k] at this;omega) x.ex (by have:=h.ex;simp only [Ee.k] at this;omega) x.al (sB op) Ac cc lc C HLC.out hLc w' h1 h2
 have ZB:Hid (w.heap.size≤b∧n≤b):=by show _∧_;have:=HN.out;omega
 clear hsh hs bW S0 S1 S2 S3 S4 hW0 hn of0 k0 k1 m0 m1 hM0 hb1 hO hPc hbs hw2 hw3 y2 y3 z0 z2 z3 hAc hop hcl hw0 M1 hnb hgn
 go_wp2_with fail
 refine wpIn_wide.1 (Stops.wpIn_tellsW (F:=Fence.wide) (n:=3) rfl (by omega) (gf:=117) (lb:=#[.pointer (some ⟨b+1+1,0,none⟩)]) rfl trivial (enters_of Tryz.func117 (by kernel_rfl) rfl)
  hseq (fun h k=>h.trans k) (fun W l o o' _ hl ho=>KeepL.put W l o o' hl ho) (fun _=>rfl)
  (fun pre W=>∃ A cap R,Boxed W (b+1) 91 (.slice A (List.length R) cap)∧OwnXT W (b+3) (.slice A R.length cap) R∧R.map Ee.k=(pre.map Ee.k).filter (hasK op C)∧Below n w W∧KeepL (b+1) W0 W)
  (fun _ _=>False)
  (fun s X Y row h hg hr=>by
   obtain ⟨A,cap,R,h1,h2,h3,h4,h5⟩:=h
   exact ⟨A,cap,R,h1.kept hg (fun e=>by have:=(hr _ e.symm).1;omega),h2.grown hg (fun r e=>(hr r e).2),h3,h4.grown hg (by have:=h4.size;have:=h5.1;have:=ZB.out;omega) (fun r e=>by have:=(hr r e).1;have:=ZB.out;omega),h5.trans (KeepL.grown hg fun r e=>(hr r e).2)⟩)
  (fun s X Y row h hg hr=>h)
  ⟨none,0,[],BL.out,ownXT_nil _ _,rfl,BN.out,KeepL.refl _ _⟩
  (fun pre x a' W=>ShT W0.heap.size op C pre x W∧∃ q,b+3≤q∧W.heap[q]?=some (.cells #[.int .i64 x.g,.int .u8 x.o,.string (sB x.m),x.v,.string (sB x.ex),.bool x.al] 38 (0,0))∧a'={tmps:=#[.agg #[.string (sB op),.slice Ai li capi],.pointer (some ⟨n,0,none⟩),.slice none 0 0,.pointer (some ⟨b,0,none⟩),.pointer (some ⟨b+1,0,none⟩),.pointer (some ⟨q,0,none⟩),.agg #[.string (sB op),.slice Ai li capi],.agg #[.string (sB op),.slice Ac lc cc],.agg #[.string (sB op),.slice Ac lc cc],.func (.func 117) #[] #[.pointer (some ⟨b+1+1,0,none⟩)],eeV x,undef,undef,undef,undef,undef,undef,undef,undef],defers:=[]})
  (fun pre x s X Y row h hg hr=>by
   obtain ⟨h0,q,h1,h2,h3⟩:=h
   exact ⟨⟨⟨h0.1.1,ops_grown h0.1.2 hg fun r e=>(hr r e).2⟩,World.ownsRow.kept h0.2 hg (own_ne (w':=Y) h0.2 fun r e=>(hr r e).2)⟩,q,h1,(grownBy_keeps_cells hg (fun r e=>(hr r e).2) h2 rfl).trans h2,h3⟩)
  ?assign ?body ?done ?stop)
 case assign=>
  rintro lp pre x W K ⟨A,cap,R,i1,i2,i3,i4,i5⟩ hE hK
  have hz:=i5.1
  have hz2:=ZB.out
  obtain ⟨g,o,m,Ar,cr,Lr,ex,al⟩:=x
  obtain ⟨ll,hll⟩:∃ z,Lr.length=z:=⟨_,rfl⟩
  simp only [eeV,enV,Ee.v,hll] at hK ⊢
  gi_wp2
  exact hK _ _ ((KeepsOthers.alloc _ _).from _) (KeepL.of_below (up1 _ _)) ⟨A,cap,R,i1.alloc _,i2.below (up1 _ _),i3,i4.trans ((up1 _ _).mono (by omega)),i5.trans (KeepL.of_below (up1 _ _))⟩ ⟨⟨⟨hE.1.1,hE.1.2.below (up1 _ _)⟩,hE.2.below (up1 _ _)⟩,W.heap.size,by omega,World.alloc_heap_new W _,rfl⟩
 case body=>
  rintro lp pre x a' W ⟨A,cap,R,i1,i2,i3,i4,i5⟩ ⟨hE,q,hq,hc,rfl⟩
  have hin:InTab x.k:=(cand_in (hE.1.1.subset (by simp))).1
  have ks:=i5.s CK.out
  have he:=HE.out x W hin hE.1.2 (OC.out.keepS ks fun a ha hne=>⟨HAC.out a ha hne,RH.out _⟩)
  have fb:=ks.2 b _ ⟨by omega,RH.out _⟩ DF.out rfl
  have HZ:Hid (b+3≤W.heap.size):=by have:=i5.1;show _≤_;omega
  have hmap:((pre++[x]).map Ee.k).filter (hasK op C)=(pre.map Ee.k).filter (hasK op C)++(if hasK op C x.k=true then [x.k] else []):=by
   rw [List.map_append,List.filter_append]
   congr 1
   simp only [List.map_cons,List.map_nil,List.filter_cons,List.filter_nil]
  have LR0:Hid (R.length≤768):=by
   have h1:R.length=((pre.map Ee.k).filter (hasK op C)).length:=by rw [← i3,List.length_map]
   have h2:=List.length_filter_le (hasK op C) (pre.map Ee.k)
   have h3:=hE.1.1.length_le
   have h4:=cand_len op C
   rw [List.length_map,List.length_append] at h3
   rw [List.length_map] at h2
   show _≤_
   omega
  have I1:=Lib.hid i1
  have I2:=Lib.hid i2
  have I3:=Lib.hid i3
  have I4:=Lib.hid i4
  have I5:=Lib.hid i5
  have HT:=Lib.hid hE.2
  have HO:=Lib.hid hE.1.2
  obtain ⟨g,o,m,Ar,cr,Lr,ex,al⟩:=x
  obtain ⟨ll,hll⟩:∃ z,Lr.length=z:=⟨_,rfl⟩
  have HLL:=Lib.hid hll
  simp only [eeV,enV,Ee.v,hll] at he hc ⊢
  have CQ:=Lib.hid hc
  obtain ⟨s0,s1,s2,s3,s4,s5⟩:=Fr.cells6 hc
  obtain ⟨m0,m1⟩:=Fr.cells2 fb
  obtain ⟨tt,htt⟩:∃ z,hasK op C (Ee.k ⟨g,o,m,Ar,cr,Lr,ex,al⟩)=z:=⟨_,rfl⟩
  have HM:Hid (((pre++[(⟨g,o,m,Ar,cr,Lr,ex,al⟩:Ee)]).map Ee.k).filter (hasK op C)=(pre.map Ee.k).filter (hasK op C)++(if tt=true then [Ee.k ⟨g,o,m,Ar,cr,Lr,ex,al⟩] else [])):=by rw [← htt];exact hmap
  rw [htt] at he
  clear i1 i2 i3 i4 i5 hE hin ks fb hc hmap hll htt
  gi_wp2_with fail
  refine ⟨trivial,CallsIn.inRound lp (callsIn_wide.2 he) |>.mono ?_⟩
  rintro e W5 ⟨rfl,hb⟩
  have hzw:=HZ.out
  have hzb:=ZB.out
  cases tt with
  | false=>
   have P:Hid (KeepsFrom W0.heap.size W W5∧KeepL (b+1) W W5∧∃ A cap R,Boxed W5 (b+1) 91 (.slice A (List.length R) cap)∧OwnXT W5 (b+3) (.slice A R.length cap) R∧R.map Ee.k=((pre++[(⟨g,o,m,Ar,cr,Lr,ex,al⟩:Ee)]).map Ee.k).filter (hasK op C)∧Below n w W5∧KeepL (b+1) W0 W5):=
    ⟨keepsFrom_below hb _,KeepL.of_below hb,A,cap,R,(hb.block _ I1.out.lt).trans I1.out,I2.out.below hb,by rw [HM.out,I3.out];simp,I4.out.trans (hb.mono (by omega)),I5.out.trans (KeepL.of_below hb)⟩
   clear he hb
   gi_wp2
   have h:=P.out
   exact h
  | true=>
   have hbx:=(hb.block _ I1.out.lt).trans I1.out
   have J1:Hid (Boxed W5 (b+1) 91 (.slice A R.length cap)):=hbx
   have J2:=Lib.hid (I2.out.below hb)
   have JT:=Lib.hid (HT.out.below hb)
   have JO:=Lib.hid (HO.out.below hb)
   have J4:Hid (Below n w W5):=I4.out.trans (hb.mono (by omega))
   have JK:Hid (KeepL (b+1) W W5):=KeepL.of_below hb
   have JF:Hid (KeepsFrom W0.heap.size W W5):=keepsFrom_below hb _
   have hq5:=(hb.block q (Array.getElem?_eq_some_iff.1 CQ.out).1).trans CQ.out
   have Z5:Hid (b+3≤W5.heap.size):=Nat.le_trans hzw hb.size
   obtain ⟨t0,t1,t2,t3,t4,t5⟩:=Fr.cells6 hq5
   have j0:=J1.out.cell
   have hal:=up1 W5 (.cells #[.int .i64 g,.int .u8 o,.string (sB m),.slice Ar ll cr,.string (sB ex),.bool al] 38)
   obtain ⟨wa,hwa⟩:∃ z,W5.alloc (.cells #[.int .i64 g,.int .u8 o,.string (sB m),.slice Ar ll cr,.string (sB ex),.bool al] 38)=z:=⟨_,rfl⟩
   have E0:=es_oneT W5 ⟨g,o,m,Ar,cr,Lr,ex,al⟩ JO.out
   simp only [Ee.v,HLL.out] at E0
   rw [hwa] at hal E0
   have A1:Hid (Boxed wa (b+1) 91 (.slice A R.length cap)):=(hal.block _ J1.out.lt).trans J1.out
   have A2:=Lib.hid (J2.out.below hal)
   have AT:=Lib.hid ((JT.out.below hal).lift (show b+3≤W0.heap.size by omega))
   have EA:=Lib.hid E0
   have AZ:Hid (b+3≤wa.heap.size):=Nat.le_trans Z5.out hal.size
   have AK:Hid (KeepL (b+1) W wa):=JK.out.trans (KeepL.of_below hal)
   have A4:Hid (Below n w wa):=J4.out.trans (hal.mono (by have:=Z5.out;omega))
   have AF:Hid (KeepsFrom W0.heap.size W wa):=JF.out.trans (keepsFrom_below hal _)
   have LR:Hid (R.length+1≤100000):=by have:=LR0.out;show _≤_;omega
   obtain ⟨A8,c8,w8,k1,k2,k3,k4,k5⟩:=run_appXW A2.out EA.out AT.out AZ.out (c:=1) LR.out
   obtain ⟨la,hla⟩:∃ z,(R++[(⟨g,o,m,Ar,cr,Lr,ex,al⟩:Ee)]).length=z:=⟨_,rfl⟩
   rw [hla] at k1 k2
   have K1:=Lib.hid k1
   have b8:Boxed w8 (b+1) 91 (.slice A R.length cap):=(k3.block (b+1) (by omega)).trans A1.out
   have v0:=b8.cell
   have v1:=b8.frozen
   have FIN:Hid (KeepsFrom W0.heap.size W (w8.setCell ⟨b+1,0,none⟩ (.slice A8 la c8))∧KeepL (b+1) W (w8.setCell ⟨b+1,0,none⟩ (.slice A8 la c8))∧∃ A cap R2,Boxed (w8.setCell ⟨b+1,0,none⟩ (.slice A8 la c8)) (b+1) 91 (.slice A (List.length R2) cap)∧OwnXT (w8.setCell ⟨b+1,0,none⟩ (.slice A8 la c8)) (b+3) (.slice A R2.length cap) R2∧R2.map Ee.k=((pre++[(⟨g,o,m,Ar,cr,Lr,ex,al⟩:Ee)]).map Ee.k).filter (hasK op C)∧Below n w (w8.setCell ⟨b+1,0,none⟩ (.slice A8 la c8))∧KeepL (b+1) W0 (w8.setCell ⟨b+1,0,none⟩ (.slice A8 la c8))):=by
    have kl:KeepL (b+1) W (w8.setCell ⟨b+1,0,none⟩ (.slice A8 la c8)):=AK.out.trans (KeepL.store A1.out k4 b8 k5 fun p hp=>(World.ownsRow.lt k2.1 p.block (by rw [hp];rfl)).2)
    refine ⟨AF.out.trans (((KeepsOthers.of_grownBy k4 fun j o e ho=>?_).trans (KeepsOthers.setCell _ _ _)).from _),kl,A8,c8,R++[(⟨g,o,m,Ar,cr,Lr,ex,al⟩:Ee)],by rw [hla];exact Boxed.set _ b8,?_,?_,?_,I5.out.trans kl⟩
    ·rcases A2.out.1.2 with ⟨e0,_⟩ | ⟨g0,cap0,cur0,e0,_,hg0,_⟩
     ·rw [e0] at e;cases e
     ·rw [e0] at e
      cases e
      rw [hg0] at ho
      cases ho
      rfl
    ·have hg:=grownBy_setC w8 (b+1) 0 (.slice A8 la c8)
     have ne:∀ {T:TypeId} {sz m:Nat} {u:Value} {xs:List Value},w8.ownsRow (b+3) T sz u m xs→u.ownBlock=none∨u.ownBlock≠some (b+1):=fun ho=>by
      refine .inr fun e=>?_
      have:=(World.ownsRow.lt ho _ e).1
      omega
     rw [hla]
     exact ⟨World.ownsRow.kept (hla ▸ k2.1) hg (ne (hla ▸ k2.1)),fun r hr=>World.ownsRow.kept (k2.2 r hr) hg (ne (k2.2 r hr))⟩
    ·rw [HM.out,if_pos rfl,List.map_append,I3.out]
     rfl
    ·exact (A4.out.trans (k3.mono (by omega))).setCell (p:=⟨b+1,0,none⟩) (show n≤b+1 by omega) _
   clear he hb hbx hq5 hal E0 J1 J2 JT JO J4 JK JF I1 I2 I4 HT HO CQ k1 k2 k3 k4 k5 b8 hla
   gi_wp2_with (gi_at_builtin;refine wpListIn_run_append K1.out rfl _ _ rfl rfl rfl rfl ?_)
   exact FIN.out
 case done=>
  rintro D ys W hD hys ⟨A,cap,R,g1,g2,g3,g4,g5⟩ hK
  have c1:=g1.cell
  have HK:=Lib.hid hK
  have G2:=Lib.hid g2
  have G4:=Lib.hid g4
  have G3:Hid (R.map Ee.k=allK op C):=by show _=_;rw [g3,hys];rfl
  have HW:Hid (W0.heap.size≤W.heap.size):=g5.1
  clear g2 g3 g4 g5 hK hseq hys
  go_wp2_with fail
  have hzb:=ZB.out
  have hzw:=HW.out
  have hg:=grownBy_putObj' W D (.deferred none)
  refine ⟨by simp,.inl ⟨_,_,rfl,run_takeDeferred HK.out,?_⟩⟩
  refine ⟨.slice A R.length cap,?_,?_⟩
  ·simp [results,Tryz.results46,go_sem]
  ·refine ⟨A,cap,R,rfl,(G2.out.grown hg fun r e=>by cases e;exact ⟨_,HK.out,rfl⟩).lift (by omega),G3.out,?_⟩
   have hn0:w.heap.size=n:=HN.out
   rw [hn0];exact G4.out.trans (belowK_b (w:=w) (by omega) W D _ _ (by omega) HK.out rfl rfl)
 case stop=>
  rintro D pre W hD h
  exact h.elim
end Go.Proofs.YtoilebmbljpieaaGreatDoor
namespace Go.Proofs.YtoilebmbljpieaaGreatDoor
open Go.RowKit Go.Shelf
attribute [local go_sem] Oper.semAt_some
theorem wforms_any (s:ByteArray) (hs:s.size≤1000) (Ai:Option Addr) (capi li:Nat) (I:List Tr) (hli:I.length=li) (hLi:li≤900) (w:World) (hM:MaxAt w) (HF:OpsP w Ai I) :
  Calls Tryz.prog 18 #[.agg #[.string s,.slice Ai li capi]] w (RetFo w ((allR s (canL (opc s) I)).map (encK s (canL (opc s) I)))):=by
 obtain ⟨n,hn⟩:∃ z,w.heap.size=z:=⟨_,rfl⟩
 have HN:=Lib.hid hn
 obtain ⟨b0,w0,hb0,hw0,S0,y0,z0⟩:=Fr.box (Fr.start w n hn) #[.string s,.slice Ai li capi] 26
 rw [hn] at hb0
 subst hb0
 have al:=sall_any (sT s) (by rw [sT_len];exact hs) Ai capi li I hli hLi w0 (hM.below y0) (HF.below y0)
 rw [sB_sT,all_same] at al
 obtain ⟨C,hC⟩:∃ C,canL (opc s) I=C:=⟨_,rfl⟩
 have HC:=Lib.hid hC
 have HH:=Lib.hid HF
 rw [hC] at al ⊢
 obtain ⟨k0,k1⟩:=Fr.cells2 S0.out.1
 clear y0 HF hC
 go_enter Tryz.func18,Tryz.ntmps18
 go_wp2_with fail
 refine al.mono ?_
 rintro e w1 ⟨A0,cap0,Re,rfl,hO,hK,hb⟩
 have S1:=Fr.up S0 hb
 obtain ⟨A0',cap0',e0,hE,-⟩:=hO.es
 simp only [Value.slice.injEq] at e0
 obtain ⟨rfl,-,rfl⟩:=e0
 obtain ⟨ne,hne⟩:∃ z,Re.length=z:=⟨_,rfl⟩
 rw [hne]
 have HNE:=Lib.hid hne
 have hne2:ne≤2000:=by have:=allR_len s C;rw [← hK,List.length_map,hne] at this;exact this
 have HK:=Lib.hid hK
 have EP:=Lib.hid hE
 obtain ⟨B,hB⟩:∃ z,w1.heap.size=z:=⟨_,rfl⟩
 have hnB:n+1≤B:=by have:=Fr.lt_of_blk S1.out.1;omega
 have KEEP:Hid (∀ wr,Below B w1 wr→EsP wr A0 Re∧OpsP wr Ai I∧wr.heap[n]?=some (.cells #[.string s,.slice Ai li capi] 26 (0,0))∧Below n w wr):=fun wr h=>by
  have hw:Below n w wr:=S1.out.2.1.1.trans (h.mono (by omega))
  exact ⟨EP.out.below (by rw [hB];exact h),HH.out.below (by rw [HN.out];exact hw),(h.block n (by omega)).trans S1.out.1,hw⟩
 have ZB:Hid (B≤w1.heap.size):=Nat.le_of_eq hB.symm
 clear al hb k0 k1 S0 hw0 z0 hO hK hE S1 hne EP HH
 have HO0:Hid (OwnBR w1 B (.slice none 0 0) []):=ownBR_nil _ _
 clear hB
 go_wp2
 go_loopw [9,3] (fun x v wr=>∃ (k:Nat) (A4:Option Addr) (cap4:Nat) (R:List Be),k≤ne∧x=.int .i64 k∧v=.slice A4 R.length cap4∧Hid (R.length=k)∧Hid (OwnBR wr B (.slice A4 R.length cap4) R)∧Hid (R.map Be.xs=((Re.map Ee.k).take k).map (encK s C))∧Hid (Below B w1 wr)∧Hid (B≤wr.heap.size)) (fun x _ _=>ne - (intOf x).toNat)
 case atStart=>exact ⟨0,none,0,[],Nat.zero_le _,rfl,rfl,rfl,HO0.out,rfl,Below.refl _ _,ZB.out⟩
 case round=>
  clear HO0
  obtain ⟨k,A4,cap4,R,hk,rfl,rfl,RL,O,RK,BW,ZW⟩:=hrel
  rw [RL.out] at O ⊢
  by_cases hlt:k<ne
  ·have hkr:k<Re.length:=by rw [HNE.out];exact hlt
   obtain ⟨hEs,hI,hbn,-⟩:=KEEP.out wr BW.out
   obtain ⟨be,off,rfl,-,c0,c1,c2,c3,c4,c5,hP⟩:=hEs.at_ hkr
   have hmem:Re[k].k∈allR s C:=by rw [← HK.out];exact List.mem_map_of_mem (List.getElem_mem hkr)
   have TK:Hid (((Re.map Ee.k).take (k+1)).map (encK s C)=((Re.map Ee.k).take k).map (encK s C)++[encK s C Re[k].k]):=by
    show _=_
    rw [List.take_succ_eq_append_getElem (by simpa using hkr),List.map_append]
    simp
   obtain ⟨r,hr⟩:∃ r,Re[k]=r:=⟨_,rfl⟩
   rw [hr] at c0 c1 c2 c3 c4 c5 hP hmem TK
   obtain ⟨hin,hfit⟩:=mem_allR hmem
   have hh:hasV r.k.2.2.1 r.k.2.2.2.1 r.k.2.2.2.2.1 s (canL (opc s) I)=true:=by
    rw [HC.out,has_fits hin.ok.places]
    exact hfit
   obtain ⟨l,hl⟩:∃ z,r.L.length=z:=⟨_,rfl⟩
   have WV:=fun w' p1 p2=>wval_any r.k hin r.A r.cap l hl s Ai capi li I hli hLi hh w' p1 p2
   rw [HC.out] at WV
   obtain ⟨bs,hbs⟩:∃ z,encK s C r.k=z:=⟨_,rfl⟩
   rw [show encB r.k.1 r.k.2.1 r.k.2.2.2.2.1 (valV r.k.2.2.1 r.k.2.2.2.1 r.k.2.2.2.2.1 s C).1 (valV r.k.2.2.1 r.k.2.2.2.1 r.k.2.2.2.2.1 s C).2=bs from hbs] at WV
   rw [hbs] at TK
   obtain ⟨g,o,m,A,cap,L,ex,al⟩:=r
   obtain ⟨lb,hlb⟩:∃ z,bs.length=z:=⟨_,rfl⟩
   unfold RetWv at WV
   simp only [Ee.v,Ee.k,enV,hl,hlb] at c0 c1 c2 c3 c4 c5 hP hl WV
   have WV:=Lib.hid WV
   have HLB:=Lib.hid hlb
   clear hr hmem hin hfit hh hl hbs hlb hEs hkr
   go_upto_region 5 with fail
   obtain ⟨w3,hw3⟩:∃ z,wr.alloc (.cells #[.int .i64 g,.int .u8 o,.string (sB m),.slice A l cap,.string (sB ex),.bool al] 38)=z:=⟨_,rfl⟩
   have y3:Below wr.heap.size wr w3:=by rw [← hw3];exact up_alloc _ _
   obtain ⟨e0,e1,e2,e3,e4,e5⟩:=Fr.cells6 (show w3.heap[wr.heap.size]?=some (.cells #[.int .i64 g,.int .u8 o,.string (sB m),.slice A l cap,.string (sB ex),.bool al] 38 (0,0)) from by rw [← hw3];exact World.alloc_heap_new wr _)
   obtain ⟨k0,k1⟩:=Fr.cells2 ((y3.block n (Array.getElem?_eq_some_iff.1 hbn).1).trans hbn)
   have v1:=WV.out w3 (hP.below y3) (hI.below y3)
   rw [hw3]
   have B3:Hid (Below B w1 w3):=BW.out.trans (y3.mono ZW.out)
   have Z3:Hid (B≤w3.heap.size):=Nat.le_trans ZW.out y3.size
   have O3:=Lib.hid (O.out.below y3)
   clear hw3 y3 WV hP hI hbn BW ZW O c0 c1 c2 c3 c4 c5
   go_wp2_with fail
   refine v1.mono ?_
   rintro e w5 ⟨A5,c5,rfl,hO5,hb⟩
   have B5:Hid (Below B w1 w5):=B3.out.trans (hb.mono Z3.out)
   have Z5:Hid (B≤w5.heap.size):=Nat.le_trans Z3.out hb.size
   have O5:=Lib.hid (O3.out.below hb)
   have T5:=Lib.hid (hO5.lift Z3.out)
   clear hO5 hb B3 Z3 O3 v1 e0 e1 e2 e3 e4 e5 k0 k1
   have hal:=up_alloc w5 (.cells #[.slice A5 lb c5] 28)
   have O6:=Lib.hid (O5.out.below hal)
   have T6:=Lib.hid (T5.out.below hal)
   have B6:=Lib.hid (B5.out.trans (hal.mono Z5.out))
   have Z6:Hid (B≤(w5.alloc (.cells #[.slice A5 lb c5] 28)).heap.size):=Nat.le_trans Z5.out hal.size
   have E6:Hid ((w5.alloc (.cells #[.slice A5 lb c5] 28)).cell? ⟨w5.heap.size,0,none⟩=some (Be.v ⟨A5,c5,bs⟩)):=by
    have:=Lib.cell_of_heap (World.alloc_heap_new w5 (.cells #[.slice A5 lb c5] 28)) 0
    unfold Be.v
    simp only [HLB.out]
    exact this
   have T7:Hid (TOwnB (w5.alloc (.cells #[.slice A5 lb c5] 28)) B (Be.v ⟨A5,c5,bs⟩) bs):=by
    have:=T6.out
    unfold Be.v
    simp only [HLB.out]
    exact this
   have O7:Hid (OwnBR (w5.alloc (.cells #[.slice A5 lb c5] 28)) B (.slice A4 R.length cap4) R):=by rw [RL.out];exact O6.out
   have RK7:Hid ((R++[(⟨A5,c5,bs⟩:Be)]).map Be.xs=((Re.map Ee.k).take (k+1)).map (encK s C)):=by
    show _=_
    rw [TK.out,List.map_append,RK.out]
    rfl
   have RL7:Hid ((R++[(⟨A5,c5,bs⟩:Be)]).length=k+1):=by show _=_;rw [List.length_append,RL.out];rfl
   clear O6 T6 T5 O5 B5 Z5 hal TK RK HLB
   go_wp2_with (at_builtin;refine wpList_appBR O7.out ⟨A5,c5,bs⟩ w5.heap.size E6.out T7.out Z6.out (by rw [RL.out];omega) rfl _ _ rfl rfl (by rw [← RL.out];rfl) rfl ?_;intro A8 c8 w8 hO8 hB8;have O8:=Lib.hid hO8;have B8:=Lib.hid (B6.out.trans (hB8.mono (Nat.le_refl _)));have Z8:=Lib.hid (Nat.le_trans Z6.out hB8.size);clear hO8 hB8)
   go_roundw
   case rel=>exact ⟨k+1,A8,c8,R++[(⟨A5,c5,bs⟩:Be)],by omega,by go_num,by rw [List.length_append];rfl,RL7.out,O8.out,RK7.out,B8.out,Z8.out⟩
   case measure=>simp [intOf];omega
  ·obtain rfl:k=ne:=by omega
   obtain ⟨-,-,-,p5⟩:=KEEP.out wr BW.out
   have F:Hid (RetFo w ((allR s C).map (encK s C)) (.returned (.slice A4 k cap4)) wr):=by
    refine ⟨A4,cap4,R,by rw [RL.out],by rw [RL.out,HN.out];exact O.out.lift (by omega),?_,by rw [HN.out];exact p5⟩
    rw [RK.out,← HK.out,List.take_of_length_le (by rw [List.length_map,HNE.out];exact Nat.le_refl _)]
   clear p5 RK O BW
   go_wp2
   go_ret
   exact F.out
end Go.Proofs.YtoilebmbljpieaaGreatDoor
namespace Go.Proofs.YtoilebmbljpieaaGreatDoor
open Go.RowKit Go.Shelf
attribute [local go_sem] Oper.semAt_some
def BxB (w:World) (g:Nat) (A:Option Addr) (n c:Nat):Prop:=w.heap[g]?=some (.cells #[.slice A n c] 28 (0,0))
theorem BxB.below {w w':World} {g:Nat} {A:Option Addr} {n c:Nat} (h:BxB w g A n c) (hb:Below w.heap.size w w'):BxB w' g A n c:=(hb.block g (Array.getElem?_eq_some_iff.1 h).1).trans h
theorem clos11_any (g:Nat) (A Ab:Option Addr) (c cb l n:Nat) (ys xs:Str) (hl:ys.length=l) (hn:xs.length=n) (h1:l≤100000) (h2:n≤100000) (w:World) (hg:BxB w g Ab n cb) (H1:BytesAt w A ys) (H2:BytesAt w Ab xs) :
  Calls Tryz.prog 23 #[.slice A l c,.pointer (some ⟨g,0,none⟩)] w fun e w'=>e=.returned (.bool (decide (ys=xs)))∧Below w.heap.size w w':=by
 have E:=equalU_any A Ab c cb ys xs (by unfold maxLen;omega) (by unfold maxLen;omega) w H1 H2
 rw [hl,hn] at E
 have E:=Lib.hid E
 have k0:=Lib.cell_of_heap hg 0
 obtain ⟨q,hq⟩:∃ q,decide (ys=xs)=q:=⟨_,rfl⟩
 rw [hq] at E ⊢
 clear hq H1 H2 hl hn hg
 go_enter Tryz.func23,Tryz.ntmps23
 go_wp2_with fail
 refine E.out.mono ?_
 rintro e w1 ⟨rfl,hb⟩
 have B:=Lib.hid hb
 clear E hb
 go_wp2
 go_ret
 exact ⟨rfl,B.out⟩
theorem index11_any (g:Nat) (A Ab:Option Addr) (cap cb n m:Nat) (Ls:List Str) (xs:Str) (hm:Ls.length=m) (hM:m≤100000) (hx:xs.length=n) (hn:n≤100000) (hall:∀ y∈Ls,y.length≤100000) (hin:xs∈Ls) (w:World) (hg:BxB w g Ab n cb) (H1:BsP w A Ls) (H2:BytesAt w Ab xs) :
  Calls Tryz.prog 51 #[.slice A m cap,.func (.func 23) #[] #[.pointer (some ⟨g,0,none⟩)]] w fun e w'=>(∃ i:Int,e=.returned (.int .i64 i)∧0≤i)∧Below w.heap.size w w':=by
 have X:=Lib.hid H1
 have Y:=Lib.hid H2
 have G:=Lib.hid hg
 have HM:=Lib.hid hm
 have HX:=Lib.hid hx
 have HA:=Lib.hid hall
 have HI:=Lib.hid hin
 clear H1 H2 hg hm hall hin hx
 go_enter Tryz.func51,Tryz.ntmps51
 go_wp2
 go_loopw [8] (fun i wr=>∃ j:Nat,j≤m∧i=.int .i64 j∧Hid (∀ k,k<j→∀ (a:k<Ls.length),Ls[k]≠xs)∧Hid (Below w.heap.size w wr)) (fun i _=>m - (intOf i).toNat)
 case atStart=>exact ⟨0,Nat.zero_le _,rfl,fun k h=>by omega,Below.refl _ _⟩
 case round=>
  obtain ⟨j,hj,rfl,NO,B⟩:=hrel
  by_cases hlt:j<m
  ·have hj1:j<Ls.length:=by have:=HM.out;omega
   obtain ⟨b1,o1,Ak,ck,hA1,p0,hP⟩:=(X.out.below B.out).at_ hj1
   subst hA1
   have hly:=HA.out Ls[j] (List.getElem_mem hj1)
   have NO2:Ls[j]≠xs→Hid (∀ k,k<j+1→∀ (a:k<Ls.length),Ls[k]≠xs):=fun h=>fun k hk a=>by
    by_cases e:k=j
    ·subst e;exact h
    ·exact NO.out k (by omega) a
   obtain ⟨ys,hy⟩:∃ x,Ls[j]=x:=⟨_,rfl⟩
   rw [hy] at p0 hP hly NO2
   obtain ⟨l,hl⟩:∃ z,ys.length=z:=⟨_,rfl⟩
   rw [hl] at p0 hly
   have D:=Lib.hid (clos11_any g Ak Ab ck cb l n ys xs hl HX.out hly hn wr (G.out.below B.out) hP (Y.out.below B.out))
   obtain ⟨d,hd⟩:∃ d,decide (ys=xs)=d:=⟨_,rfl⟩
   rw [hd] at D
   have NO3:d=false→Hid (∀ k,k<j+1→∀ (a:k<Ls.length),Ls[k]≠xs):=fun h=>NO2 (of_decide_eq_false (hd.trans h))
   clear hy hd hl NO2 hP
   go_wp2_with fail
   refine D.out.mono ?_
   rintro e w2 ⟨rfl,hb2⟩
   have B2:Hid (Below w.heap.size w w2):=B.out.trans (hb2.mono B.out.size)
   clear D hb2 p0
   cases d
   ·have NO4:=NO3 rfl
    clear NO3
    go_wp2
    go_roundw
    case rel=>exact ⟨j+1,by omega,by go_num,NO4.out,B2.out⟩
    case measure=>simp [intOf];omega
   ·clear NO3
    go_wp2
    go_ret
    exact ⟨⟨_,rfl,by omega⟩,B2.out⟩
  ·exfalso
   obtain ⟨k,hk,e⟩:=List.getElem_of_mem HI.out
   exact NO.out k (by have:=HM.out;omega) hk e
theorem contains11_any (g:Nat) (A Ab:Option Addr) (cap cb n m:Nat) (Ls:List Str) (xs:Str) (hm:Ls.length=m) (hM:m≤100000) (hx:xs.length=n) (hn:n≤100000) (hall:∀ y∈Ls,y.length≤100000) (hin:xs∈Ls) (w:World) (hg:BxB w g Ab n cb) (H1:BsP w A Ls) (H2:BytesAt w Ab xs) :
  Calls Tryz.prog 22 #[.slice A m cap,.func (.func 23) #[] #[.pointer (some ⟨g,0,none⟩)]] w fun e w'=>e=.returned (.bool true)∧Below w.heap.size w w':=by
 have I:=Lib.hid (index11_any g A Ab cap cb n m Ls xs hm hM hx hn hall hin w hg H1 H2)
 clear hm hM hx hn hall hin hg H1 H2
 go_enter Tryz.func22,Tryz.ntmps22
 go_wp2_with fail
 refine I.out.mono ?_
 rintro e w2 ⟨⟨i,rfl,hi⟩,hb2⟩
 have B2:=Lib.hid hb2
 have HI:Hid (decide (0≤i)=true):=decide_eq_true hi
 clear I hb2 hi
 go_wp2
 go_ret
 exact ⟨ret_bool HI.out,B2.out⟩
end Go.Proofs.YtoilebmbljpieaaGreatDoor
namespace Go.Proofs.YtoilebmbljpieaaGreatDoor
open Go.RowKit Go.Shelf
theorem enc_mem {s:ByteArray} {I:List Tr} {a:Str} (h:encI s I=some a):a∈(allR s (canL (opc s) I)).map (encK s (canL (opc s) I)):=by
 unfold encI at h
 cases hf:findK (sT s) (canL (opc s) I) with
 | none=>rw [hf] at h;cases h
 | some k=>
  rw [hf] at h
  simp only [Option.map_some,Option.some.injEq] at h
  have hm:k∈candK (sT s) (canL (opc s) I):=(List.mem_filter.1 (List.mem_of_find?_eq_some hf)).1
  have hh:=List.find?_some hf
  refine List.mem_map.2 ⟨k,?_,h⟩
  rw [← all_same]
  exact List.mem_filter.2 ⟨hm,hh⟩
end Go.Proofs.YtoilebmbljpieaaGreatDoor
