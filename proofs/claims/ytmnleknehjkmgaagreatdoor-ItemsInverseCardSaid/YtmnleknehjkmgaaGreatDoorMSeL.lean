/-
  search.ofShape: the walk over its iterator.
-/
import Derived.Test.YtmnleknehjkmgaaGreatDoorGBG
import Derived.Test.YtmnleknehjkmgaaGreatDoorGAB
set_option linter.all false
set_option maxRecDepth 100000
set_option maxHeartbeats 4000000
namespace Go.Proofs.YtmnleknehjkmgaaGreatDoor
open Go.RowKit Go.Shelf
attribute [local go_sem] Oper.semAt_some
theorem entsR_le (page:Int):∀ K,(entsR page K).length≤K
 | 0=>Nat.le_refl _
 | K+1=>by
  have ih:=entsR_le page K
  unfold entsR
  cases ratT page K with
  | none=>exact Nat.le_succ_of_le ih
  | some y=>simp;exact ih
def smallR (page:Int) (n:Nat):Bool:=match ratT page n with
 | some x=>decide (x.2.1.length≤3)
 | none=>true
theorem small_k:∀ g:Fin 7,∀ n:Fin 256,smallR (g.val:Int) n.val=true:=by decide +kernel
theorem small_all (page:Int) (n:Nat) (hn:n<256):smallR page n=true:=by
 by_cases hp:0≤page∧page≤6
 ·obtain ⟨g,rfl⟩:∃ g:Nat,page=(g:Int):=⟨page.toNat,by omega⟩
  exact small_k ⟨g,by omega⟩ ⟨n,hn⟩
 ·unfold smallR
  rw [ratT_no hp]
theorem entsR_small (page:Int):∀ K,K≤256→∀ y∈entsR page K,y.2.2.2.1.length≤3
 | 0,_,y,hy=>by cases hy
 | K+1,hK,y,hy=>by
  have ih:=entsR_small page K (by omega)
  have hs:=small_all page K (by omega)
  unfold smallR at hs
  unfold entsR at hy
  cases hx:ratT page K with
  | none=>rw [hx] at hy;exact ih y hy
  | some x=>
   rw [hx] at hy hs
   rcases List.mem_append.1 hy with h | h
   ·exact ih y h
   ·obtain rfl:=List.mem_singleton.1 h
    exact of_decide_eq_true hs
theorem keysPg_small (op:Str) (p:Int):∀ y∈keysPg (fun m=>decide (m=op)) p,y.2.2.2.1.length≤3:=fun y hy=>by
 rw [keysPg_named] at hy
 exact entsR_small p 256 (Nat.le_refl _) y (List.mem_filter.1 hy).1
theorem keysPg_len (op:Str) (p:Int):(keysPg (fun m=>decide (m=op)) p).length≤256:=by
 rw [keysPg_named]
 exact Nat.le_trans (List.length_filter_le _ _) (entsR_le p 256)
theorem keysAll_one (wnt:Str→Bool) (p:Int):keysAll wnt (pagesL [p])=keysPg wnt p:=by
 unfold keysAll pagesL
 rw [if_neg (by simp)]
 simp
theorem ints_onep (w:World) (p:Int):IntsP (w.alloc (.cells #[.int .i64 p] 3)) (some ⟨w.heap.size,0,none⟩) [p]:=by
 refine .inr ⟨_,0,rfl,fun k hk=>?_⟩
 have:k=0:=by simp at hk;omega
 subst this
 simp [go_sem]
theorem shape_tells (n:Nat) (Bs cb:Nat) (op:Str) (A:Option Addr) (cap lc:Nat) (C:List Tr) (hlc:C.length=lc) (hLc:lc≤1000) (w:World) (hs:w.heap[Bs]?=some (.cells #[.string (sB op),.slice A lc cap] 26 (0,0))) (hP:OpsP w A C) (hM:MaxAt w) (hcb:cb<w.heap.size) (h1:Bs≠cb) (h2:∀ a,A=some a→C≠[]→a.block≠cb) (h3:0≠cb) :
  Stops.TellsW Fence.wide n Tryz.prog 33 #[.pointer (some ⟨Bs,0,none⟩)] (fun x:Ee=>#[eeV x]) (ShE op C) (KeepC cb) (fun ys=>ys.map Ee.k=candK op C) w:=fun lp J Jx W hW hJ hY hJx h0=>by
 have hJd:∀ (z:List Ee) (X Y:World),J z X→Below X.heap.size X Y→J z Y:=fun z X Y h hb=>hJ z X Y none h (grow_below hb none) (fun r e=>by cases e)
 have hs1:=(hW.block Bs (Array.getElem?_eq_some_iff.1 hs).1).trans hs
 have pg:=pages_any (sB op) A cap lc C hlc hLc W (hP.below hW)
 have hcW:Hid (cb<W.heap.size):=by have:=hW.size;show cb<_;omega
 have k0:=Lib.cell_of_heap hs1 0
 have k1:=Lib.cell_of_heap hs1 1
 have KB:=Lib.hid (And.intro hs1 (And.intro (hP.below hW) (hM.below hW)))
 have J0:=Lib.hid h0
 have HY:=Lib.hid hY
 have HL:=Lib.hid hlc
 have HA:=Lib.hid (And.intro h1 (And.intro h2 h3))
 have HJd:=Lib.hid hJd
 clear h0 hY hJ hJx hW hs hP hs1 hlc h1 h2 h3 hJd hM hcb
 refine callsIn_wide.2 ?_
 show Calls Tryz.prog 33 #[.func (.yield lp) #[] #[],.pointer (some ⟨Bs,0,none⟩)] W _
 go_enter Tryz.func33,Tryz.ntmps33
 go_wp2_with fail
 refine pg.mono ?_
 rintro e W0 ⟨Ap,rfl,hks,hb,hrow⟩
 have KS:=Lib.hid hks
 obtain ⟨P,hPP⟩:∃ P,pagesC C=P:=⟨_,rfl⟩
 rw [hPP] at KS ⊢
 have HPP:=Lib.hid hPP
 have HPL:P.length≤3:=by rw [← hPP];unfold pagesC;split <;> (try split) <;> simp
 have KB1:Hid (W0.heap[Bs]?=some (.cells #[.string (sB op),.slice A lc cap] 26 (0,0))∧OpsP W0 A C∧MaxAt W0):=⟨(hb.block Bs (Array.getElem?_eq_some_iff.1 KB.out.1).1).trans KB.out.1,KB.out.2.1.below hb,KB.out.2.2.below hb⟩
 have J1:=Lib.hid (HJd.out _ _ _ J0.out hb)
 have HC1:Hid (cb<W0.heap.size):=by have:=hb.size;have:=hcW.out;show cb<_;omega
 have HPB:Hid (∀ a,Ap=some a→P≠[]→a.block≠cb):=fun a ha _=>by have:=hrow a ha;have:=hcW.out;omega
 obtain ⟨np,hnp⟩:∃ z,P.length=z:=⟨_,rfl⟩
 have HNP:=Lib.hid hnp
 rw [hnp] at HPL ⊢
 clear hks hb hrow KB J0 hcW pg hPP k0 k1 hnp
 go_wp2
 go_loopw [10] (fun i wr=>∃ (j:Nat) (pre:List Ee),j≤np∧i=.int .i64 j∧Hid (KeepC cb W0 wr)∧Hid (J pre wr)∧Hid (pre.map Ee.k=candP op C (P.take j))) (fun i _=>np - (intOf i).toNat)
 case atStart=>exact ⟨0,[],Nat.zero_le _,rfl,KeepC.refl _ _,J1.out,rfl⟩
 case round=>
  clear J1
  obtain ⟨j,pre,hj,rfl,KK,JJ,PK⟩:=hrel
  by_cases hlt:j<np
  ·have hjP:j<P.length:=by rw [HNP.out];exact hlt
   obtain ⟨b1,o1,rfl,p0⟩:=(KS.out.keepC KK.out HPB.out).at_ hjP
   obtain ⟨pg,hpg⟩:∃ z,P[j]=z:=⟨_,rfl⟩
   have PT:Hid (P.take (j+1)=P.take j++[pg]):=by show P.take (j+1)=_;rw [List.take_succ_eq_append_getElem hjP,hpg]
   rw [hpg] at p0
   have fb:=KK.out.2 Bs _ HA.out.1 KB1.out.1 rfl
   have k0:=Lib.cell_of_heap fb 0
   have ma:=KB1.out.2.2.keepC KK.out HA.out.2.2
   have ba:=up1 wr (.cells #[.int .i64 pg] 3)
   have nm:=named_any op _ (ma.below ba) (some ⟨wr.heap.size,0,none⟩) 1 [pg] (ints_onep wr pg) (by simp)
   rw [keysAll_one] at nm
   have BA:=Lib.hid ba
   clear hjP fb hpg
   go_wp2_with fail
   refine nm.mono ?_
   rintro e W2 ⟨Ae,ce,R,rfl,hO,hK,hb⟩
   have hb':Below wr.heap.size wr W2:=ba.trans (hb.mono ba.size)
   have K2:Hid (KeepC cb W0 W2):=KK.out.trans (KeepC.of_below hb')
   have J2:=Lib.hid (HJd.out _ _ _ JJ.out hb')
   have hsz:cb<(wr.alloc (.cells #[.int .i64 pg] 3)).heap.size:=by have h8:=KK.out.1;have:=HC1.out;simp;omega
   have ES:=Lib.hid hO.esN
   obtain ⟨N,hN⟩:∃ N,(wr.alloc (.cells #[.int .i64 pg] 3)).heap.size=N:=⟨_,rfl⟩
   rw [hN] at ES hsz
   have HNc:=Lib.hid hsz
   have KR:Hid (R.map Ee.k=keysPg (fun m=>decide (m=op)) pg):=hK
   have PK2:Hid (candP op C (P.take (j+1))=pre.map Ee.k++(R.map Ee.k).filter (shpE C)):=by
    show _=_
    rw [PT.out,candP_snoc,PK.out,KR.out]
   have RL:R.length≤256:=by
    have h1:(R.map Ee.k).length=_:=congrArg List.length hK
    rw [List.length_map] at h1
    rw [h1]
    exact keysPg_len op pg
   have PF:Hid (candP op C (P.take (j+1)) <+: candK op C):=by
    show _ <+: _
    unfold candK
    rw [HPP.out]
    exact candP_pre op C P (j+1)
   obtain ⟨nr,hnr⟩:∃ z,R.length=z:=⟨_,rfl⟩
   have HNR:=Lib.hid hnr
   have HJ1:Hid (j+1≤np):=by show _≤_;omega
   rw [hnr] at RL ⊢
   clear nm hO hK hb hb' hN hsz k0 p0 ma ba KK JJ PK hnr
   go_wp2
   go_loopw [20] (fun i wr=>∃ (k:Nat) (pr:List Ee),k≤nr∧i=.int .i64 k∧Hid (KeepC cb W0 wr)∧Hid (KeepC cb W2 wr)∧Hid (J pr wr)∧Hid (pr.map Ee.k=pre.map Ee.k++candE C R k)) (fun i _=>nr - (intOf i).toNat)
   case atStart=>exact ⟨0,pre,Nat.zero_le _,rfl,K2.out,KeepC.refl _ _,J2.out,by show _=_;simp [candE]⟩
   case round=>
    clear K2 J2
    obtain ⟨k,pr,hk,rfl,KA,KK,JJ,PK⟩:=hrel
    by_cases hlt2:k<nr
    ·have hkR:k<R.length:=by rw [HNR.out];exact hlt2
     have hat:=(ES.out.keepC KK.out HNc.out).1.at_ hkR
     have CS:=candE_succ C R k hkR
     obtain ⟨r,hr⟩:∃ r,R[k]=r:=⟨_,rfl⟩
     have hmem:r.k∈keysPg (fun m=>decide (m=op)) pg:=by rw [← KR.out,← hr];exact List.mem_map_of_mem (List.getElem_mem hkR)
     rw [hr] at hat CS
     have HCS:=Lib.hid CS
     have PKL:Hid (∀ k',k'≤R.length→pre.map Ee.k++candE C R k' <+: candK op C):=fun k' hk'=>by
      refine List.IsPrefix.trans ?_ PF.out
      rw [PK2.out]
      refine (List.prefix_append_right_inj _).2 ?_
      unfold candE
      conv=>rhs;rw [← List.take_append_drop k' (R.map Ee.k),List.filter_append,← List.map_take]
      exact List.prefix_append _ _
     have HPK1:=Lib.hid (PKL.out (k+1) (by omega))
     obtain ⟨g,o,m,Ar,cr,Lr,ex,al⟩:=r
     simp only [Ee.v] at hat
     obtain ⟨be,oe,rfl,hbe,e0,e1,e2,e3,e4,e5,eO⟩:=hat
     obtain ⟨ll,hll⟩:∃ z,Lr.length=z:=⟨_,rfl⟩
     rw [hll] at e3
     have HLL:=Lib.hid hll
     have fb:=KA.out.2 Bs _ HA.out.1 KB1.out.1 rfl
     have k1:=Lib.cell_of_heap fb 1
     have cO:=KB1.out.2.1.keepC KA.out HA.out.2.1
     obtain ⟨wa,hwa⟩:∃ z,wr.alloc (.cells #[.int .i64 g,.int .u8 o,.string (sB m),.slice Ar ll cr,.string (sB ex),.bool al] 55)=z:=⟨_,rfl⟩
     have ba:Below wr.heap.size wr wa:=by rw [← hwa];exact up1 _ _
     have nb:wa.heap[wr.heap.size]?=some (.cells #[.int .i64 g,.int .u8 o,.string (sB m),.slice Ar ll cr,.string (sB ex),.bool al] 55 (0,0)):=by rw [← hwa];exact World.alloc_heap_new _ _
     have k1':=(ba.cell (p:=⟨Bs,1,none⟩) (Array.getElem?_eq_some_iff.1 fb).1).trans k1
     have s0:=Lib.cell_of_heap nb 0
     have s1:=Lib.cell_of_heap nb 1
     have s2:=Lib.cell_of_heap nb 2
     have s3:=Lib.cell_of_heap nb 3
     have s4:=Lib.cell_of_heap nb 4
     have s5:=Lib.cell_of_heap nb 5
     have eq:=equalK_any Ar A cr cap ll lc Lr C hll HL.out (by have h:=keysPg_small op pg _ hmem;simp only [Ee.k] at h;omega) hLc wa (eO.below ba) (cO.below ba)
     have BA:=Lib.hid ba
     have NB:=Lib.hid nb
     have EO:=Lib.hid (eO.below ba)
     have SH:shpE C (Ee.k ⟨g,o,m,Ar,cr,Lr,ex,al⟩)=decide (Lr.map ks2=C.map ks2):=rfl
     obtain ⟨tt,htt⟩:∃ z,decide (Lr.map ks2=C.map ks2)=z:=⟨_,rfl⟩
     rw [htt] at eq SH
     rw [SH] at HCS CS
     have HCS:=Lib.hid CS
     clear CS hkR hmem eO fb k1 cO hll htt SH hbe ba nb hr
     go_upto_region 6 with fail
     clear e0 e1 e2 e3 e4 e5
     have KA2:Hid (KeepC cb W0 wa):=KA.out.trans (KeepC.of_below BA.out)
     have KK2:Hid (KeepC cb W2 wa):=KK.out.trans (KeepC.of_below BA.out)
     have J2:=Lib.hid (HJd.out _ _ _ JJ.out BA.out)
     clear KA KK JJ
     cases tt with
     | false=>
      have PS:Hid (pr.map Ee.k=pre.map Ee.k++candE C R (k+1)):=by show _=_;rw [HCS.out,PK.out,if_neg (by decide),List.append_nil]
      go_wp2_with fail
      refine eq.mono ?_
      rintro e W5 ⟨rfl,hb⟩
      have KA5:Hid (KeepC cb W0 W5):=KA2.out.trans (KeepC.of_below hb)
      have KK5:Hid (KeepC cb W2 W5):=KK2.out.trans (KeepC.of_below hb)
      have J5:=Lib.hid (HJd.out _ _ _ J2.out hb)
      clear eq hb KA2 KK2 J2
      go_wp2
      go_roundw
      case rel=>exact ⟨k+1,pr,by omega,by go_num,KA5.out,KK5.out,J5.out,PS.out⟩
      case measure=>simp [intOf];omega
     | true=>
      have PS:Hid ((pr++[(⟨g,o,m,Ar,cr,Lr,ex,al⟩:Ee)]).map Ee.k=pre.map Ee.k++candE C R (k+1)):=by
       show _=_
       rw [HCS.out,List.map_append,PK.out,if_pos rfl,List.append_assoc]
       rfl
      have PX:Hid ((pr++[(⟨g,o,m,Ar,cr,Lr,ex,al⟩:Ee)]).map Ee.k <+: candK op C):=by show _ <+: _;rw [PS.out];exact HPK1.out
      refine (wpIn_wide (n:=n)).1 ?_
      gi_wp2_with fail
      refine ⟨trivial,fun h=>(by cases h),(callsIn_wide.2 eq).mono ?_⟩
      rintro e W5 ⟨rfl,hb⟩
      have KA5:Hid (KeepC cb W0 W5):=KA2.out.trans (KeepC.of_below hb)
      have KK5:Hid (KeepC cb W2 W5):=KK2.out.trans (KeepC.of_below hb)
      have J5:=Lib.hid (HJd.out _ _ _ J2.out hb)
      have hyd:=HY.out pr ⟨g,o,m,Ar,cr,Lr,ex,al⟩ W5 J5.out ⟨PX.out,EO.out.below hb⟩
      obtain ⟨fn,tmps,assign,body,hy,hR⟩:=hyd
      have nb5:=(hb.block _ (Array.getElem?_eq_some_iff.1 NB.out).1).trans NB.out
      have s0:=Lib.cell_of_heap nb5 0
      have s1:=Lib.cell_of_heap nb5 1
      have s2:=Lib.cell_of_heap nb5 2
      have s3:=Lib.cell_of_heap nb5 3
      have s4:=Lib.cell_of_heap nb5 4
      have s5:=Lib.cell_of_heap nb5 5
      simp only [eeV,enV,Ee.v] at hy
      rw [HLL.out] at hy
      clear eq hb KA2 KK2 J2 nb5
      gi_wp2
      refine ⟨fun h=>(by cases h),hR.mono ?_⟩
      rintro e3 W3 (⟨rfl,hJ3,hk3⟩ | ⟨rfl,hJx3⟩)
      ·have KA6:Hid (KeepC cb W0 W3):=KA5.out.trans hk3
       have KK6:Hid (KeepC cb W2 W3):=KK5.out.trans hk3
       have J6:=Lib.hid hJ3
       clear hJ3 hk3 hR hy KA5 KK5 J5
       gi_wp2
       go_wp2
       go_roundw
       case rel=>exact ⟨k+1,_,by omega,by go_num,KA6.out,KK6.out,J6.out,PS.out⟩
       case measure=>simp [intOf];omega
      ·clear hR hy
       gi_wp2
       go_wp2
       refine bodyPost_ret (results_none rfl _ _ _) rfl ?_
       exact ⟨⟨_,rfl⟩,.inr ⟨_,hJx3⟩⟩
    ·have PE:Hid (pr.map Ee.k=candP op C (P.take (j+1))):=by
      show _=_
      rw [PK2.out,PK.out]
      unfold candE
      rw [List.take_of_length_le (by have:=HNR.out;omega)]
     go_wp2
     go_roundw
     case rel=>exact ⟨j+1,pr,HJ1.out,by go_num,KA.out,JJ.out,PE.out⟩
     case measure=>simp [intOf];omega
  ·have PE:Hid (pre.map Ee.k=candK op C):=by
    show _=_
    unfold candK
    rw [HPP.out,PK.out,List.take_of_length_le (by have:=HNP.out;omega)]
   go_wp2
   go_end0
   have h:=JJ.out
   exact ⟨⟨_,rfl⟩,.inl ⟨_,PE.out,h⟩⟩
end Go.Proofs.YtmnleknehjkmgaaGreatDoor
