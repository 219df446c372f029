/-
  DfN, DgR, Shp, TbX.
-/
import Derived.Test.YtclhaejdjogfbaaGreatDoorGAT
import Derived.Deep.DeepCutAuto
import Derived.Deep.Cut
import Derived.Test.YtclhaejdjogfbaaGreatDoorGBM
import Derived.Test.YtclhaejdjogfbaaGreatDoorGBL
import Derived.Test.YtclhaejdjogfbaaGreatDoorGAQ
import Derived.Test.YtclhaejdjogfbaaGreatDoorGAS
import Derived.Handed
import Derived.Shelf.Vars
import Derived.Test.YtclhaejdjogfbaaGreatDoorGAC
import Derived.Test.YtclhaejdjogfbaaGreatDoorGAJ
import Derived.ProofKit
import Derived.OpenShut
import Derived.Test.YtclhaejdjogfbaaGreatDoorQ0
set_option linter.all false
set_option maxRecDepth 100000
set_option maxHeartbeats 4000000
namespace Go.Proofs.YtclhaejdjogfbaaGreatDoor
open Go.RowKit Go.Shelf
attribute [local go_sem] Oper.semAt_some
attribute [local irreducible] Go.Mixed.wpMix
theorem rfirst12_no (b:Str) (hb:b≠[]) (hk1:(itR b).kind≠1) (A:Option Addr) (cap l:Nat) (hl:b.length=l) (hc:l≤cap) (hcm:cap≤maxLen) (hl2:l≤10000) (w:World) (H:BytesAt w A b) :
  Calls Tryz.prog 13 #[.slice A l cap] w (RetIt w (itR b)):=by
 obtain ⟨n,hn⟩:=N9 (w.heap.size)
 have HN:=J9 hn
 have HK1:=J9 hk1
 obtain ⟨w0,hw0,I0,y0,z0⟩:=it_start w n hn
 have pg:=rpage12_any b hb A cap l hl w0 (H.below y0)
 have IT:=J9 (fun kind k hk w' h=>ritem12_any kind b A cap l hl hc hcm k hk hl2 w' h)
 have HB:Hid (∀ w',Below n w w'→BytesAt w' A b):=fun w' h=>H.below (by rw [hn];exact h)
 have I0:=J9 I0
 have B0:Hid (Below n w w0):=by rw [← hn];exact y0
 obtain ⟨hpr,hp3,hp5⟩:=pg_rng b
 have PN:=J9 (@pg_none b)
 have PS:=J9 (@pg_some b)
 have NX:Hid (nxA b=if 5≤(pgA b).1 then 2 else (pgA b).2+1):=rfl
 have SN:=J9 (fun g i ex (hx:ExP g i ex) hg h=>st_num (b:=b) hx hg h)
 have SB:=J9 (fun g i ex (hx:ExP g i ex) hg h=>st_bnd (b:=b) hx hg h)
 obtain ⟨⟨p,at_⟩,hpa⟩:=N9 (pgA b)
 have HPA:=J9 hpa
 rw [hpa] at pg hpr hp3 hp5
 simp only at pg hpr hp3 hp5
 have HL:=J9 hl
 clear H y0 hpa hl hcm hc hb
 go_enter Tryz.func13,Tryz.ntmps13
 go_wp2_with fail
 refine pg.mono ?_
 rintro e w' ⟨rfl,hw⟩
 rw [hw]
 clear pg hw
 by_cases hat:l≤at_
 ·have hh:hdB b=none:=PN.out (by rw [HPA.out,HL.out];exact hat)
  have HI:Hid (itR b=iteO 4 (b.take l)):=by show itR b=_;unfold itR;rw [hh,← HL.out,List.take_length]
  have it:=IT.out 4 l (Nat.le_refl _) w0 (HB.out _ B0.out)
  have LT:Hid ((b.take l).length=l):=by show _=_;rw [List.length_take,HL.out];omega
  clear hh IT PN PS SN SB
  go_wp2_with fail
  refine it.mono ?_
  rintro e w1 ⟨A1,c1,A2,c2,rfl,hO,hT,hbl⟩
  rw [z0] at hO hT
  have I1:=I0.out.all hbl
  have B1:Below n w w1:=B0.out.trans (hbl.mono (by omega))
  simp only [iteO,List.length_nil] at hO hT ⊢
  rw [LT.out] at hO ⊢
  obtain ⟨w2,hw2,i1,i2,i3,i4,i5,i6⟩:=I1.put 4 (.slice A1 l c1) (sB []) (.slice A2 0 c2) false
  have F:=J9 (retIt_put (w:=w) (w2:=w2) (x:=iteO 4 (b.take l)) HN.out B1 I1.lt (by simp only [iteO];rw [LT.out];exact hO) hT ⟨i2,i4,i5⟩)
  obtain ⟨k0,k1,k2,k3,k4,k5⟩:=I1.cells
  obtain ⟨j0,j1,j2,j3,j4,j5⟩:=i1.cells
  simp only [iteO,List.length_nil] at F
  rw [LT.out] at F
  clear it hbl hO hT B1 I1 i1 i2 i3 i4 i5 i6 B0 I0
  go_wp2
  refine bodyPost_ret (v:=.agg #[.int .i64 4,.slice A1 l c1,.string (sB []),.slice A2 0 c2,.bool false]) ?_ rfl ?_
  ·simp [results,Tryz.results13,go_sem,j0,j1,j2,j3,j4]
  ·rw [HI.out]
   exact F.out
 ·have hlt:at_<l:=by omega
  have hhd:=PS.out (by rw [HPA.out,HL.out];exact hlt)
  have SNb:=fun g i ex (hx:ExP g i ex) hg=>SN.out g i ex hx hg (by rw [HPA.out,HL.out];exact hlt)
  have NX2:=NX.out
  simp only [HPA.out] at hhd SNb NX2
  have hab:at_<b.length:=by rw [HL.out];exact hlt
  obtain ⟨g0,off,rfl,kb⟩:=(HB.out _ B0.out).cellAt hab
  obtain ⟨o,ho⟩:=N9 (b[at_])
  rw [ho] at kb hhd
  obtain ⟨rest,hrest⟩:=N9 ((if 5≤p then b.getD 2 0 :: b.drop 4 else b.drop (at_+1)))
  rw [hrest] at hhd SNb
  have RA:=rat_any p o.toNat o.toNat_lt w0
  unfold RetRAt at RA
  have HD:=J9 hhd
  have HITR:Hid (itR b=match ratT p o.toNat with
   | none=>if rkindT p o.toNat=0 then iteO 2 (b.take 1) else iteO 3 (b.take 2)
   | some x=>if b.length<sizeT p x.2.2.1 then iteO 4 b else ⟨1,b.take (sizeT p x.2.2.1),x.1,(fillV x.2.2.1 x.2.1 (numB x.2.2.1 rest).1 (numB x.2.2.1 rest).2).getD [],x.2.2.2⟩):=by
   show itR b=_
   unfold itR
   rw [hhd]
   try rfl
  have hk:=@hd_kind b p o rest hhd
  have hdl:=hd_len hhd
  have EXP:=@exP_of p o.toNat o.toNat_lt
  have PLC:=@plc_of p o.toNat o.toNat_lt
  cases hx:ratT p o.toNat with
  | none=>
   rw [hx] at RA HITR
   simp only at RA HITR
   obtain ⟨kd,hkd⟩:=N9 (rkindT p o.toNat)
   have hkk:=hk hx
   rw [hkd] at RA HITR hkk
   have SZ:Hid (kd=3→2≤l):=fun h=>by
    have h2:p=2:=by rcases hkk with h0 | h0;omega;exact h0.2
    have:=hdl.1
    rw [h2,HL.out] at this
    exact this
   have h03:kd=0∨kd=3:=by rcases hkk with h | h;exact .inl h;exact .inr h.1
   clear hk hkk hkd hx hhd hdl EXP PLC SNb PN PS SN SB NX NX2 hp5 hp3 hpr hrest ho
   unfold enV at RA
   go_wp2_with fail
   refine RA.mono ?_
   rintro e w1 ⟨rfl,hbl⟩
   have B1:Below n w w1:=B0.out.trans (hbl.mono (by omega))
   have I1:=I0.out.all hbl
   have z1:n<w1.heap.size:=I1.lt
   clear RA hbl B0 I0 kb
   go_upto_region 5 with fail
   obtain ⟨wx,hwx⟩:=N9 (w1.alloc (.cells #[.int .i64 0,.int .u8 0,.string (sB []),.slice none 0 0,.string (sB []),.bool false] 63))
   have yx:Below w1.heap.size w1 wx:=by rw [← hwx];exact up_alloc _ _
   have IX:=J9 (I1.all yx)
   have BX:Hid (Below n w wx):=B1.trans (yx.mono (by omega))
   have zx:Hid (n+1≤wx.heap.size):=by have:=yx.size;show _≤_;omega
   rw [hwx]
   clear hwx B1 I1 z1 yx
   rcases h03 with rfl | rfl
   ·have it:=IT.out 2 1 (by omega) wx (HB.out _ BX.out)
    have HI:Hid (itR b=iteO 2 (b.take 1)):=by show itR b=_;rw [HITR.out,if_pos rfl]
    have LT:Hid ((b.take 1).length=1):=by show _=_;rw [List.length_take,HL.out];omega
    clear IT HITR
    go_wp2_with fail
    refine it.mono ?_
    rintro e w2 ⟨A1,c1,A2,c2,rfl,hO,hT,hbl⟩
    have I2:=IX.out.all hbl
    have B2:Below n w w2:=BX.out.trans (hbl.mono (by have:=zx.out;omega))
    have hO:=hO.lift zx.out
    have hT:=row_mono hT zx.out
    simp only [iteO,List.length_nil] at hO hT ⊢
    rw [LT.out] at hO ⊢
    obtain ⟨w3,hw3,i1,i2,i3,i4,i5,i6⟩:=I2.put 2 (.slice A1 1 c1) (sB []) (.slice A2 0 c2) false
    have F:=J9 (retIt_put (w:=w) (w2:=w3) (x:=iteO 2 (b.take 1)) HN.out B2 I2.lt (by simp only [iteO];rw [LT.out];exact hO) hT ⟨i2,i4,i5⟩)
    obtain ⟨k0,k1,k2,k3,k4,k5⟩:=I2.cells
    obtain ⟨j0,j1,j2,j3,j4,j5⟩:=i1.cells
    simp only [iteO,List.length_nil] at F
    rw [LT.out] at F
    clear it hbl hO hT B2 I2 i1 i2 i3 i4 i5 i6 BX IX
    go_wp2
    refine bodyPost_ret (v:=.agg #[.int .i64 2,.slice A1 1 c1,.string (sB []),.slice A2 0 c2,.bool false]) ?_ rfl ?_
    ·simp [results,Tryz.results13,go_sem,j0,j1,j2,j3,j4]
    ·rw [HI.out]
     exact F.out
   ·have it:=IT.out 3 2 (SZ.out rfl) wx (HB.out _ BX.out)
    have HI:Hid (itR b=iteO 3 (b.take 2)):=by show itR b=_;rw [HITR.out,if_neg (by decide)]
    have LT:Hid ((b.take 2).length=2):=by show _=_;rw [List.length_take,HL.out];have:=SZ.out rfl;omega
    clear IT HITR
    go_wp2_with fail
    refine it.mono ?_
    rintro e w2 ⟨A1,c1,A2,c2,rfl,hO,hT,hbl⟩
    have I2:=IX.out.all hbl
    have B2:Below n w w2:=BX.out.trans (hbl.mono (by have:=zx.out;omega))
    have hO:=hO.lift zx.out
    have hT:=row_mono hT zx.out
    simp only [iteO,List.length_nil] at hO hT ⊢
    rw [LT.out] at hO ⊢
    obtain ⟨w3,hw3,i1,i2,i3,i4,i5,i6⟩:=I2.put 3 (.slice A1 2 c1) (sB []) (.slice A2 0 c2) false
    have F:=J9 (retIt_put (w:=w) (w2:=w3) (x:=iteO 3 (b.take 2)) HN.out B2 I2.lt (by simp only [iteO];rw [LT.out];exact hO) hT ⟨i2,i4,i5⟩)
    obtain ⟨k0,k1,k2,k3,k4,k5⟩:=I2.cells
    obtain ⟨j0,j1,j2,j3,j4,j5⟩:=i1.cells
    simp only [iteO,List.length_nil] at F
    rw [LT.out] at F
    clear it hbl hO hT B2 I2 i1 i2 i3 i4 i5 i6 BX IX
    go_wp2
    refine bodyPost_ret (v:=.agg #[.int .i64 3,.slice A1 2 c1,.string (sB []),.slice A2 0 c2,.bool false]) ?_ rfl ?_
    ·simp [results,Tryz.results13,go_sem,j0,j1,j2,j3,j4]
    ·rw [HI.out]
     exact F.out
  | some x=>
   obtain ⟨m,L,ex,al⟩:=x
   rw [hx] at RA HITR
   simp only at RA HITR
   have hxp:=EXP hx
   have hplc:=PLC hx
   have hin:InTab (p,(o.toNat:Int),m,L,ex,al):=⟨o.toNat,o.toNat_lt,rfl,hx⟩
   have ok:=hin.ok
   have q1:=ok.ex
   have q2:=ok.len
   have q3:=ok.places
   simp only at q1 q2 q3 hxp hplc
   obtain ⟨C,hC⟩:=fill_in hxp hplc (numB_in hxp rest)
   have hst:=SNb p o.toNat ex hxp rfl
   have hbd:=fun hz=>SB.out p o.toNat ex hxp (by rw [HPA.out]) hz
   have hss:=sz_same hxp
   rw [hC,Option.getD_some] at HITR
   obtain ⟨nx,hnx⟩:=N9 (nxA b)
   have hnx3:nx≤4∧(if 5≤p then (2:Nat) else at_+1)=nx:=by rw [← hnx,NX2];split <;> omega
   rw [hnx] at hst hbd
   obtain ⟨sz,hsz⟩:=N9 (sizeT p ex)
   rw [hsz] at HITR hbd hss
   have SZ:=J9 (fun A n cap w'=>rsize_any p (o.toNat:Int) m A n cap ex (by omega) al w')
   rw [hss] at SZ
   obtain ⟨dn,hdn⟩:=N9 (numB ex rest)
   rw [hdn] at hst hC
   have RF:=J9 (fun A cap w' h=>rfill_any p (o.toNat:Int) m A cap L.length L rfl (by omega) ex (by omega) al dn.1 dn.2 w' h)
   rw [fill_same q3,hC] at RF
   unfold RetRFill at RF
   simp only at RF
   have HST:=J9 hst
   have HBD:=J9 hbd
   have hsz4:1≤sz∧sz≤4:=by have:=(enc_len hin 0 0).2;simp only at this;omega
   unfold enV at RA SZ RF
   clear hk hx hhd hdl EXP PLC SNb PN PS SN SB NX hin ok hxp hplc hC hst hbd hss hnx hdn hrest ho hsz q3 NX2 hp5 hp3 hpr
   go_wp2_with fail
   refine RA.mono ?_
   rintro e w1 ⟨⟨v,rfl,hOv⟩,hbl⟩
   obtain ⟨A1,c1,rfl,hP1,-⟩:=hOv.ops
   have S1:Hid (Fr.St w1 [opF A1 L,itF n 0 (.slice none 0 0) ⟨#[]⟩ (.slice none 0 0) false,byF (some ⟨g0,off,none⟩) b,Fr.bel n w]):=
    ⟨hP1,I0.out.all hbl,(HB.out _ B0.out).below hbl,⟨B0.out.trans (hbl.mono (by omega)),by have:=hbl.size;show n≤_;omega⟩,trivial⟩
   clear RA hbl B0 I0 kb hOv hP1 HB
   go_upto_region 5 with fail
   obtain ⟨nb,wx,hnb,hwx,SX,yx,zx⟩:=Fr.box S1 #[.int .i64 p,.int .u8 (o.toNat:Int),.string (sB m),.slice A1 L.length c1,.string (sB ex),.bool al] 63
   rw [hwx,hnb]
   clear hwx S1 yx
   obtain ⟨e0,e1,e2,e3,e4,e5⟩:=Fr.cells6 SX.out.1
   go_wp2_with fail
   refine (SZ.out A1 L.length c1 wx).mono ?_
   rintro e wy ⟨rfl,hbl⟩
   have SY:=Fr.up SX hbl
   clear SZ SX hbl e0 e1 e2 e3 e4 e5
   by_cases hz:l<sz
   ·have hz2:(sz:Int) > (l:Int):=by omega
    have it:=IT.out 4 l (Nat.le_refl _) wy SY.out.2.2.2.1
    have HI:Hid (itR b=iteO 4 (b.take l)):=by show itR b=_;rw [HITR.out,if_pos (by rw [HL.out];exact hz),← HL.out,List.take_length]
    have LT:Hid ((b.take l).length=l):=by show _=_;rw [List.length_take,HL.out];omega
    have BX:=SY.out.2.2.2.2.1
    have IX:=J9 SY.out.2.2.1
    have zn:n+1≤wy.heap.size:=IX.out.lt
    clear IT HITR SY RF HST HBD
    go_wp2_with fail
    refine it.mono ?_
    rintro e w2 ⟨A1',c1',A2,c2,rfl,hO,hT,hbl⟩
    have I2:ItAt w2 n _ _ _ _ _:=IX.out.all hbl
    have B2:Below n w w2:=BX.1.trans (hbl.mono BX.2)
    have hO:=hO.lift zn
    have hT:=row_mono hT zn
    simp only [iteO,List.length_nil] at hO hT ⊢
    rw [LT.out] at hO ⊢
    obtain ⟨w3,hw3,i1,i2,i3,i4,i5,i6⟩:=I2.put 4 (.slice A1' l c1') (sB []) (.slice A2 0 c2) false
    have F:=J9 (retIt_put (w:=w) (w2:=w3) (x:=iteO 4 (b.take l)) HN.out B2 I2.lt (by simp only [iteO];rw [LT.out];exact hO) hT ⟨i2,i4,i5⟩)
    obtain ⟨k0,k1,k2,k3,k4,k5⟩:=I2.cells
    obtain ⟨j0,j1,j2,j3,j4,j5⟩:=i1.cells
    simp only [iteO,List.length_nil] at F
    rw [LT.out] at F
    clear it hbl hO hT B2 I2 i1 i2 i3 i4 i5 i6 BX IX
    go_wp2
    refine bodyPost_ret (v:=.agg #[.int .i64 4,.slice A1' l c1',.string (sB []),.slice A2 0 c2,.bool false]) ?_ rfl ?_
    ·simp [results,Tryz.results13,go_sem,j0,j1,j2,j3,j4]
    ·rw [HI.out]
     exact F.out
   ·have hz2:¬((sz:Int) > (l:Int)):=by omega
    have hbd:=HBD.out (by rw [HL.out];omega)
    have BD:=J9 hbd
    have HI:Hid (itR b=⟨1,b.take sz,m,C,al⟩):=by show itR b=_;rw [HITR.out,if_neg (by rw [HL.out];exact hz)]
    exact absurd (by rw [HI.out]) HK1.out
end Go.Proofs.YtclhaejdjogfbaaGreatDoor
namespace Go.Proofs.YtclhaejdjogfbaaGreatDoor
open Go.RowKit Go.Shelf
attribute [local go_sem] Oper.semAt_some
attribute [local irreducible] Go.Mixed.wpMix
theorem raw_leB (b:Str):(itR b).raw.length≤b.length:=by
 unfold itR
 split
 ·exact Nat.le_refl _
 ·split
  ·split
   ·show (b.take 1).length≤_;rw [List.length_take];omega
   ·show (b.take 2).length≤_;rw [List.length_take];omega
  ·split
   ·exact Nat.le_refl _
   ·show (b.take _).length≤_;rw [List.length_take];omega
theorem item_code {b:Str} (hk:(itR b).kind=1):(∃ y,encI (sB (itR b).m) (itR b).C=some y∧(y=(itR b).raw↔(itR b).al=false))∧canL (opc (sB (itR b).m)) (itR b).C=(itR b).C∧(itR b).m.length≤10:=by
 cases h:hdB b with
 | none=>exfalso;unfold itR at hk;rw [h] at hk;exact absurd (show (4:Int)=1 from hk) (by decide)
 | some q=>
  obtain ⟨p,o,t⟩:=q
  have hi:=it_of h
  cases hx:ratT p o.toNat with
  | none=>
   rw [hx] at hi
   simp only at hi
   exfalso
   rw [hi] at hk
   split at hk
   ·exact absurd (show (2:Int)=1 from hk) (by decide)
   ·exact absurd (show (3:Int)=1 from hk) (by decide)
  | some x=>
   by_cases hl:b.length<sizeT p x.2.2.1
   ·rw [hx] at hi
    simp only at hi
    rw [if_pos hl] at hi
    rw [hi] at hk
    exact absurd (show (4:Int)=1 from hk) (by decide)
   ·obtain ⟨C,hf,hr,he,hin⟩:=dec_raw h hx (by omega)
    rw [he]
    simp only
    have h1:=enc_item (k:=(p,(o.toNat:Int),x.1,x.2.1,x.2.2.1,x.2.2.2)) hin hf
    have h2:=can_fill (k:=(p,(o.toNat:Int),x.1,x.2.1,x.2.2.1,x.2.2.2)) hin hf
    have h3:=hin.ok.m
    rw [hr]
    exact ⟨h1,h2.2.1,h3⟩
theorem isB_form {s:ByteArray} {C:List Tr} {f:Str} (h:f∈(allR s C).map (encK s C)):isB f=true∧(itP f).m=sT s∧(itP f).C=C∧f.length≤4:=by
 obtain ⟨k,hk,rfl⟩:=List.mem_map.1 h
 have hl:=enc_len (mem_allR hk).1 (valV k.2.2.1 k.2.2.2.1 k.2.2.2.2.1 s C).1 (valV k.2.2.1 k.2.2.2.1 k.2.2.2.2.1 s C).2
 have hl2:(encK s C k).length=sizeT k.1 k.2.2.2.2.1:=hl.1
 have h1:=dec_form hk []
 rw [List.append_nil] at h1
 have h2:itP (encK s C k)=⟨1,encK s C k,sT s,C,k.2.2.2.2.2⟩:=by
  rw [itP_ne,h1]
  intro e
  rw [e] at hl2
  simp at hl2
  omega
 refine ⟨?_,by rw [h2],by rw [h2],by omega⟩
 unfold isB
 rw [h2]
 simp
theorem OwnBR.at_ {w:World} {n m c:Nat} {A:Option Addr} {R:List Be} (h:OwnBR w n (.slice A m c) R) {k:Nat} (hk:k<R.length) :
  ∃ g,A=some ⟨g,0,none⟩∧w.cell? ⟨g,k,none⟩=some (.slice R[k].A R[k].xs.length R[k].cap)∧BytesAt w R[k].A R[k].xs∧R[k].xs.length≤R[k].cap∧R[k].cap≤maxLen:=by
 have hT:=h.2 _ (List.getElem_mem hk)
 rcases h.1.2 with ⟨e,h0⟩ | ⟨g,cap,cur,e,_,_,_⟩
 ·omega
 ·simp only [Value.slice.injEq] at e
  obtain ⟨rfl,rfl,rfl⟩:=e
  refine ⟨g,rfl,?_,(show TOwnB w n (.slice R[k].A R[k].xs.length R[k].cap) R[k].xs from hT).bytesP,?_⟩
  ·rw [World.ownsRow.cellAt h.1 k (by omega)]
   unfold cellsS
   rw [List.getElem?_map,List.getElem?_eq_getElem hk]
   rfl
  ·rcases hT.2 with ⟨e2,h0⟩ | ⟨g2,cap2,cur2,e2,_,_,h4,h5,_⟩
   ·simp only [Be.v,Value.slice.injEq] at e2
    omega
   ·simp only [Be.v,Value.slice.injEq] at e2
    omega
theorem field_kindB (kk:Int) (v1 v2 v3 v4:Value) (w:World):(Instr.field 31 (.agg #[.int .i64 kk,v1,v2,v3,v4]) 0).run Tryz.prog w=.ok (.int .i64 kk) w:=by kernel_rfl
theorem walkDB (A:Option Addr) (cap:Nat) (b:Str) (w:World) (H:BytesAt w A b) (hc:b.length≤cap∧cap≤maxLen) (hM:MaxAt w) :
  Calls Tryz.prog 4 #[.slice A b.length cap] w fun e w'=>e=.returned (.bool true)∧Below w.heap.size w w':=by
 obtain ⟨l,hl⟩:=N9 (b.length)
 rw [hl] at hc ⊢
 have AL:=J9 (fun w' (h:Below w.heap.size w w')=>alive12_any w' (hM.below h))
 have UP:Hid (∀ {wa wb:World},Below wa.heap.size wa wb→Below w.heap.size w wa→Below w.heap.size w wb):=fun h1 h2=>h2.trans (h1.mono h2.size)
 have MX:Hid (∀ w',Below w.heap.size w w'→MaxAt w'):=fun w' h=>hM.below h
 by_cases hbig:1000<l∨l=0
 ·have A0:=AL.out w (Below.refl _ _)
  have hx:((l:Int) > 1000)∨(¬((l:Int) > 1000)∧((l:Int) == 0)=true):=by
   rcases hbig with h | h
   ·exact .inl (by omega)
   ·exact .inr ⟨by omega,by rw [h];rfl⟩
  clear H hM hl hc hbig
  rcases hx with t1 | ⟨t1,t2⟩
  ·go_enter Tryz.func4,Tryz.ntmps4
   go_wp2_with fail
   refine A0.mono ?_
   rintro e w1 ⟨rfl,hb⟩
   have B1:=J9 hb
   clear A0 hb
   go_wp2
   go_ret
   exact ⟨rfl,B1.out⟩
  ·go_enter Tryz.func4,Tryz.ntmps4
   go_wp2_with fail
   refine A0.mono ?_
   rintro e w1 ⟨rfl,hb⟩
   have B1:=J9 hb
   clear A0 hb
   go_wp2
   go_ret
   exact ⟨rfl,B1.out⟩
 have t1:¬((l:Int) > 1000):=by omega
 have t2:((l:Int) == 0)=false:=beq_eq_false_iff_ne.2 (by omega)
 have hb:b≠[]:=fun e=>hbig (.inr (by rw [← hl,e];rfl))
 have FI:=dfirst_any b A cap l hl hc.1 hc.2 (by omega) w H hM
 rw [itP_ne hb] at FI
 have RF:=J9 (fun (hk:(itR b).kind≠1) w' (h:Below w.heap.size w w')=>rfirst12_no b hb hk A cap l hl hc.1 hc.2 (by omega) w' (H.below h))
 have IC:=@item_code b
 have hC3:=itC_le b
 obtain ⟨x,hx⟩:=N9 (itR b)
 rw [hx] at FI RF IC hC3
 have hrl:x.raw.length≤1000:=by rw [← hx];have:=raw_leB b;omega
 clear H hM hl hc hbig hb hx
 by_cases hk:x.kind=1
 case' neg=>
  have tk:(x.kind != 1)=true:=bne_iff_ne.2 hk
  clear IC
  go_enter Tryz.func4,Tryz.ntmps4
  go_wp2_with fail
  refine FI.mono ?_
  rintro e w1 ⟨A3,c3,D3,d3,rfl,-,-,hb⟩
  obtain ⟨y3,w3,hy3,hw3,S3,yy3,z3⟩:=Fr.box (Fr.nil w1) #[.int .i64 x.kind,.slice A3 x.raw.length c3,.string (sB x.m),.slice D3 x.C.length d3,.bool x.al] 31
  have I:Hid (ItAt w3 y3 x.kind (.slice A3 x.raw.length c3) (sB x.m) (.slice D3 x.C.length d3) x.al):=S3.out.1
  have W:Hid (Below w.heap.size w w3):=hb.trans (yy3.mono hb.size)
  obtain ⟨j0,j1,j2,j3,j4,j5⟩:=I.out.cells
  have A3':=AL.out w3 W.out
  clear FI hb S3 yy3 AL MX I
  go_wp2_with fail
  refine A3'.mono ?_
  rintro e w4 ⟨rfl,hb⟩
  have W:=J9 (UP.out hb W.out)
  have R4:=RF.out hk w4 W.out
  clear A3' hb RF
  go_wp2_with fail
  refine R4.mono ?_
  rintro e w5 ⟨A5,c5,D5,d5,rfl,-,-,hb⟩
  have W:=J9 (UP.out hb W.out)
  have hfd:=fun kk v1 v2 v3 v4 w=>field_kindB kk v1 v2 v3 v4 w
  clear R4 hb
  go_wp2
  go_ret
  exact ⟨rfl,W.out⟩
 obtain ⟨⟨y,hE,hyr⟩,hcan,hm10⟩:=IC hk
 have EN:=J9 (fun w' (h:Below w.heap.size w w') Ai ci (hO:OpsP w' Ai x.C)=>wencode_any (sB x.m) (by rw [sB_size];omega) Ai ci x.C.length x.C rfl (by omega) w' (MX.out w' h) hO)
 have RFO:=J9 (fun w' Ai ci (hO:OpsP w' Ai x.C)=>rforms_any (sB x.m) (by rw [sB_size];omega) Ai ci x.C.length x.C rfl (by omega) w' hO)
 have RIS:=J9 (fun w' Ai ci (hO:OpsP w' Ai x.C)=>ris_any x.m Ai ci x.C (by omega) w' hO)
 have hce:=codeD_yes hE
 obtain ⟨hy1,hy4⟩:=encI_len hE
 unfold RetEnc at EN
 rw [hE,hce] at EN
 rw [hcan] at RFO RIS
 rw [decide_eq_true rfl] at RIS
 simp only [Option.getD_some] at EN
 have FS:Hid (∀ f∈(allR (sB x.m) x.C).map (encK (sB x.m) x.C),isB f=true∧(itP f).m=x.m∧(itP f).C=x.C∧f.length≤4):=fun f hf=>by
  have h:=isB_form hf
  rwa [show sT (sB x.m)=x.m by unfold sT sB;simp] at h
 have hLl:((allR (sB x.m) x.C).map (encK (sB x.m) x.C)).length≤2000:=by rw [List.length_map];exact allR_len _ _
 obtain ⟨Ls,hLs⟩:=N9 ((allR (sB x.m) x.C).map (encK (sB x.m) x.C))
 rw [hLs] at RFO FS hLl
 have hEq:decide (y=x.raw)=!x.al:=by
  cases hal:x.al with
  | false=>rw [decide_eq_true (hyr.2 hal)];rfl
  | true=>rw [decide_eq_false (fun e=>by have:=hyr.1 e;rw [hal] at this;cases this)];rfl
 have HEQ:=J9 hEq
 have tk:((1:Int) != 1)=false:=rfl
 clear IC hE hcan hm10 hce hLs hEq hyr RF
 go_enter Tryz.func4,Tryz.ntmps4
 go_wp2_with fail
 refine FI.mono ?_
 rintro e w1 ⟨A3,c3,D3,d3,rfl,hO,hT,hb⟩
 rw [hk]
 obtain ⟨y3,w3,hy3,hw3,S3,yy3,z3⟩:=Fr.box (Fr.nil w1) #[.int .i64 1,.slice A3 x.raw.length c3,.string (sB x.m),.slice D3 x.C.length d3,.bool x.al] 31
 have I:Hid (ItAt w3 y3 1 (.slice A3 x.raw.length c3) (sB x.m) (.slice D3 x.C.length d3) x.al):=S3.out.1
 have BA:=J9 ((hO.bytesP).below yy3)
 have OP:=J9 ((hT.opsP).below yy3)
 have W:Hid (Below w.heap.size w w3):=hb.trans (yy3.mono hb.size)
 obtain ⟨j0,j1,j2,j3,j4,j5⟩:=I.out.cells
 have E3:=EN.out w3 W.out D3 d3 OP.out
 clear FI hb S3 yy3 hO hT EN
 go_wp2_with fail
 refine E3.mono ?_
 rintro e w4 ⟨A4,c4,rfl,hO,hb⟩
 have BY:=J9 hO.bytesP
 have I:=J9 (I.out.all hb)
 have BA:=J9 (BA.out.below hb)
 have OP:=J9 (OP.out.below hb)
 have W:=J9 (UP.out hb W.out)
 clear E3 hb hO j0 j1 j2 j3 j4 j5
 obtain ⟨j0,j1,j2,j3,j4,j5⟩:=I.out.cells
 have R4:=RFO.out w4 D3 d3 OP.out
 clear RFO
 go_wp2_with fail
 refine R4.mono ?_
 rintro e w5 ⟨A5,c5,R,rfl,hO,hR,hb⟩
 have hrm:R.length≤2000:=by rw [← hR,List.length_map] at hLl;exact hLl
 have FS2:Hid (∀ k (h:k<R.length),isB R[k].xs=true∧(itP R[k].xs).m=x.m∧(itP R[k].xs).C=x.C∧R[k].xs.length≤4):=fun k h=>FS.out _ (by rw [← hR];exact List.mem_map.2 ⟨R[k],List.getElem_mem h,rfl⟩)
 have OB:=J9 hO
 have I:=J9 (I.out.all hb)
 have BA:=J9 (BA.out.below hb)
 have OP:=J9 (OP.out.below hb)
 have BY:=J9 (BY.out.below hb)
 have W:=J9 (UP.out hb W.out)
 clear R4 hb hO j0 j1 j2 j3 j4 j5 hLl hR FS
 obtain ⟨mr,hmr⟩:=N9 (R.length)
 have HMR:=J9 hmr
 rw [hmr] at OB hrm
 rw [hmr]
 clear hmr
 go_wp2
 go_loopw [41] (fun vi wr=>∃ j:Nat,j≤mr∧vi=.int .i64 j∧Hid (Below w5.heap.size w5 wr)) (fun vi _=>mr - (intOf vi).toNat)
 case atStart=>exact ⟨0,Nat.zero_le _,rfl,Below.refl _ _⟩
 case round=>
  obtain ⟨j,hj,rfl,Z⟩:=hrel
  have I:=J9 (I.out.all Z.out)
  have BA:=J9 (BA.out.below Z.out)
  have OP:=J9 (OP.out.below Z.out)
  have BY:=J9 (BY.out.below Z.out)
  have OB:=J9 (OB.out.below Z.out)
  have W:=J9 (UP.out Z.out W.out)
  by_cases hlt:j<mr
  ·have hjr:j<R.length:=by rw [HMR.out];exact hlt
   obtain ⟨g,hA,hcell,hBf,hcf,hcm⟩:=OB.out.at_ hjr
   obtain ⟨f1,f2,f3,f4⟩:=FS2.out j hjr
   have DI:=dinst_any R[j].xs R[j].A R[j].cap R[j].xs.length rfl hcf hcm (by omega) wr hBf (MX.out wr W.out)
   unfold RetIn at DI
   rw [f1,f2,f3] at DI
   obtain ⟨Af,hAf⟩:=N9 (R[j].A)
   obtain ⟨lf,hlf⟩:=N9 (R[j].xs.length)
   obtain ⟨cf,hcf2⟩:=N9 (R[j].cap)
   rw [hAf,hlf,hcf2] at DI hcell
   subst hA
   clear f1 f2 f3 f4 hBf hcf hcm hAf hlf hcf2 hjr
   go_wp2_with fail
   refine DI.mono ?_
   rintro e wa ⟨mm,CC,Ba,ca,rfl,hT,hb,hY,-⟩
   obtain ⟨rfl,rfl⟩:mm=x.m∧CC=x.C:=by first | exact hY rfl | exact hY trivial
   obtain ⟨yb,wb,hyb,hwb,Sb,yyb,zb⟩:=Fr.box (Fr.nil wa) #[.string (sB x.m),.slice Ba x.C.length ca] 24
   have J:wb.heap[yb]?=some (.cells #[.string (sB x.m),.slice Ba x.C.length ca] 24 (0,0)):=Sb.out.1
   obtain ⟨q0,q1⟩:=Fr.cells2 J
   have ZB:Hid (Below w5.heap.size w5 wb):=Z.out.trans ((hb.trans (yyb.mono hb.size)).mono Z.out.size)
   have I2:=(I.out.all hb).all yyb
   obtain ⟨j0,j1,j2,j3,j4,j5⟩:=I2.cells
   have SM:=rsame_any x.m x.m Ba D3 ca d3 x.C x.C (by omega) (by omega) wb ((hT.opsP).below yyb) ((OP.out.below hb).below yyb)
   simp only [decide_true,Bool.and_self] at SM
   clear DI hb hT hY Sb yyb J I2 hcell
   go_wp2_with fail
   refine SM.mono ?_
   rintro e wc ⟨rfl,hb⟩
   have ZC:Hid (Below w5.heap.size w5 wc):=ZB.out.trans (hb.mono ZB.out.size)
   clear SM hb ZB q0 q1 j0 j1 j2 j3 j4 j5
   go_wp2
   go_roundw
   case rel=>exact ⟨j+1,by omega,by go_num,ZC⟩
   case measure=>simp [intOf];omega
  ·obtain rfl:mr=j:=by omega
   clear OB FS2 HMR Z MX
   go_upto_region 14 with fail
   obtain ⟨w6,hw6⟩:=N9 (wr.drew)
   have hb:Below wr.heap.size wr w6:=by rw [← hw6];exact below_drewN wr _ 1
   have I:=J9 (I.out.all hb)
   have BA:=J9 (BA.out.below hb)
   have OP:=J9 (OP.out.below hb)
   have BY:=J9 (BY.out.below hb)
   have W:=J9 (UP.out hb W.out)
   clear hb
   refine Mixed.wp_region_mixed (fun w'=>ItAt w' y3 1 (.slice A3 x.raw.length c3) (sB x.m) (.slice D3 x.C.length d3) x.al) 20
    [(0,false),(1,true),(2,true),(3,true),(4,true),(5,true),(6,true),(7,true),(8,true),(10,true),(11,true),(12,true),(9,false),(13,true),(14,true),(15,true),(16,true),(17,true),(18,false),(19,true)] (by kernel_rfl) (by kernel_rfl) (by rw [hw6];exact I.out) ?_
   rw [hw6]
   clear hw6
   refine Mixed.wpMix_loudG rfl (by kernel_rfl) ?_
   have K:=AL.out w6 W.out
   go_wp2_with fail
   refine K.mono ?_
   rintro e w7 ⟨rfl,hb⟩
   have I:=J9 (I.out.all hb)
   have BA:=J9 (BA.out.below hb)
   have OP:=J9 (OP.out.below hb)
   have BY:=J9 (BY.out.below hb)
   have W:=J9 (UP.out hb W.out)
   clear K hb AL
   go_wp2
   refine ⟨I.out,?_⟩
   refine Mixed.mp rfl (.bool true) ?_
   refine Mixed.mp rfl (.int .i64 0) ?_
   refine Mixed.mp rfl (.bool true) ?_
   refine Mixed.mp rfl (.bool true) ?_
   refine Mixed.mp rfl (.bool true) ?_
   refine Mixed.mp rfl (.slice A4 y.length c4) ?_
   refine Mixed.mp rfl (.pointer (some ⟨y3,1,none⟩)) ?_
   refine Mixed.mo rfl (.slice A3 x.raw.length c3) (fun w h=>by obtain ⟨h0,h1,h2,h3,h4,h5⟩:=h.cells;clear h;go_simp;try rfl) ?_
   refine Mixed.mp rfl (.pointer (some ⟨y3,4,none⟩)) ?_
   refine Mixed.mo rfl (.bool x.al) (fun w h=>by obtain ⟨h0,h1,h2,h3,h4,h5⟩:=h.cells;clear h;go_simp;try rfl) ?_
   refine Mixed.mp rfl (.bool (!x.al)) ?_
   refine Mixed.wpMix_loudG rfl (by kernel_rfl) ?_
   have K:=equalU_any A4 A3 c4 c3 y x.raw (by unfold maxLen;omega) (by unfold maxLen;omega) w7 BY.out BA.out
   rw [HEQ.out] at K
   go_wp2_with fail
   refine K.mono ?_
   rintro e w8 ⟨rfl,hb⟩
   have I:=J9 (I.out.all hb)
   have OP:=J9 (OP.out.below hb)
   have W:=J9 (UP.out hb W.out)
   clear K hb BA BY
   go_wp2
   refine ⟨I.out,?_⟩
   obtain ⟨na,hna⟩:=N9 ((!x.al))
   refine Mixed.mo rfl (.bool true) (fun w h=>by clear h;cases x.al <;> go_simp <;> try rfl) ?_
   refine Mixed.mp rfl (.bool true) ?_
   refine Mixed.mp rfl (.bool true) ?_
   refine Mixed.mp rfl (.pointer (some ⟨y3,2,none⟩)) ?_
   refine Mixed.mo rfl (.agg #[.string (sB x.m),.slice D3 x.C.length d3]) (fun w h=>by obtain ⟨h0,h1,h2,h3,h4,h5⟩:=h.cells;clear h;go_simp;try rfl) ?_
   refine Mixed.wpMix_loudG rfl (by kernel_rfl) ?_
   have K:=RIS.out w8 D3 d3 OP.out
   go_wp2_with fail
   refine K.mono ?_
   rintro e w9 ⟨rfl,hb⟩
   have I:=J9 (I.out.all hb)
   have W:=J9 (UP.out hb W.out)
   clear K hb OP
   go_wp2
   refine ⟨I.out,?_⟩
   refine Mixed.mp rfl (.bool true) ?_
   simp only [Mixed.wpMix,List.drop_succ_cons,List.drop_zero]
   go_wp2
   go_ret
   exact ⟨rfl,W.out⟩
end Go.Proofs.YtclhaejdjogfbaaGreatDoor
namespace Go.Proofs.YtclhaejdjogfbaaGreatDoor
open Go.RowKit
variable {H:Type} {enc:TypeId×Value→H}
theorem wrap_shaped {a:Assume} {C:Checked} {os:Os} {f:FuncId} {fn:Func} {s:ChangeSpec} {conds:List PathCond} {apart fresh handsOn again:Bool} {X:World→Array Value→Prop}
  (hX:∀ (w w':World) (args:Array Value),w.heap=w'.heap→X w args→X w' args)
  (own:ownKnob C.prog.godebug=none) (started:os.Started) (noInit:C.prog.inits.idxOf? f=none) (hfn:C.prog.funcs[f]?=some fn)
  (witness:∃ (w:World) (tape:Tape) (i:Input),w.os=os∧(w.forCall tape i).Shaped C.prog∧i.vars=[]∧Input.okWide C.prog (w.forCall tape i) .any w.heap.size f i∧
   ((s.pre enc C.prog fn conds apart (w.forCall tape i).memory i.args∧X (w.forCall tape i).memory i.args)∧sizedMet enc C.prog fn (OpenSpec.ofChange s) apart (w.forCall tape i).memory i.args)∧a.holds C.prog (lone (Frame.enter C.prog f i.args .normal) [] (w.forCall tape i)))
  (body:∀ (W:World) (base:Nat) (args:Array Value) (ds gs:List (DataW H)) (before:List MemPlace),
   (∀ (j:Nat) t v,fn.params[j]?=some t→args[j]?=some v→Value.okWide C.prog W .any base t v)→
   DataW.Whole enc C.prog fn.params.toList s.vars apart W args.toList ds gs before→X W args→W.ShapedOpen C.prog→
   Calls C.prog f args W fun e W'=>∃ v,e=.returned v∧s.post enc C.prog fn apart fresh handsOn again W args v W') :
  ReturnsInHanded a C os f .any (fun w args=>(s.pre enc C.prog fn conds apart w args∧X w args)∧sizedMet enc C.prog fn (OpenSpec.ofChange s) apart w args) (s.post enc C.prog fn apart fresh handsOn again):=by
 refine returnsInHanded_of_calls own started noInit witness fun w tape i _ hsh _ hok hpre _=>?_
 obtain ⟨_,_,_,g,hg,_,_,_,_,hval⟩:=hok
 cases Option.some.inj (hg.symm.trans hfn)
 obtain ⟨⟨⟨ds,gs,before,hw,_⟩,hx⟩,_⟩:=hpre
 refine (body _ w.heap.size i.args ds gs before hval (DataW.Whole.of_heap (w':=w.forCall tape i) (by rfl) hw) (hX _ _ _ (by rfl) hx) hsh).mono ?_
 rintro e W' ⟨v,rfl,hp⟩
 exact ChangeSpec.post_blind hp
theorem max_of_shape {W:World} (h:W.ShapedOpen Tryz.prog):MaxAt W:=
 cell_of_shapedOpen_int (g:=0) (t:=3) (zero:=#[.int .i64 0]) h (of_decide_eq_true (by kernel_rfl)) (by kernel_rfl) rfl (by kernel_rfl) (by kernel_rfl) Tryz.underlying3
end Go.Proofs.YtclhaejdjogfbaaGreatDoor
namespace Go.Proofs.YtclhaejdjogfbaaGreatDoor
open Go.ChangeShapes Go.WideShapes Go.RowKit
def bU8 (n:Int):UInt8:=n.toNat.toUInt8
theorem bU8_nat {n:Int} (h:(Lit.int .u8 n).wf=true):((bU8 n).toNat:Int)=n:=by
 have h2:0≤n∧n≤255:=by
  have h3:IntKind.u8.min≤n∧n≤IntKind.u8.max:=by simpa [Lit.wf] using h
  exact h3
 unfold bU8
 rw [UInt8.toNat_ofNat_of_lt' (show n.toNat<256 by omega)]
 omega
section
variable {H:Type} {enc:TypeId×Value→H} {w:World} {spare:Nat→Bool} {fuel:Nat}
theorem addr_plain {a:Addr} {v:Value} (h:w.cell? (a.add 0)=some v):∃ b off,a=⟨b,off,none⟩:=by
 obtain ⟨b,off,spot⟩:=a
 have hs:spot=none:=by simpa [Addr.add] using World.cell?_spot h
 subst hs
 exact ⟨b,off,rfl⟩
theorem open_bytesR {v:Value} {x:DataW H×List MemPlace} (h:DataW.trod enc Tryz.prog w 0 spare true fuel 25 [v]=some x):∃ A len cap xs,v=.slice A len cap∧len=xs.length∧len≤maxLen∧BytesAt w A xs∧len≤cap∧cap≤maxLen:=by
 rcases open_ints Tryz.underlying25 Tryz.underlying5 (by kernel_rfl) h with ⟨hcs,_⟩ | ⟨a,l,c,zs,hcs,_,hl,hm,hz,_,hcell,hwz⟩
 ·simp only [List.cons.injEq,and_true] at hcs
  subst hcs
  exact ⟨none,0,0,[],rfl,rfl,Nat.zero_le _,.inl rfl,Nat.le_refl _,Nat.zero_le _⟩
 ·simp only [List.cons.injEq,and_true] at hcs
  subst hcs
  have hlz:l≤zs.length:=by rw [hz];split <;> omega
  refine ⟨some a,l,c,(zs.take l).map bU8,rfl,by simp;omega,by omega,?_,hl,hm⟩
  by_cases h0:l=0
  ·left;subst h0;simp
  ·obtain ⟨b,off,rfl⟩:=addr_plain (hcell 0 (by omega))
   refine .inr ⟨b,off,rfl,fun j hj=>?_⟩
   have hj':j<l:=by simp at hj;omega
   have hjz:j<zs.length:=by omega
   have e:=hcell j hjz
   have hadd:(⟨b,off,none⟩:Addr).add j=⟨b,off+j,none⟩:=by unfold Addr.add;split <;> simp_all
   rw [hadd] at e
   rw [e]
   have hg:zs.getD j 0=zs[j]:=by simp [List.getD,List.getElem?_eq_getElem hjz]
   rw [hg]
   simp only [List.getElem_map,List.getElem_take]
   rw [bU8_nat (hwz _ (List.getElem_mem hjz))]
end
end Go.Proofs.YtclhaejdjogfbaaGreatDoor
