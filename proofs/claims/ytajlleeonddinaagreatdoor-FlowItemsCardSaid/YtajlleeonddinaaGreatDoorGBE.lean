/-
  FmH, FmI, DgM, FmJ, FmU, Shp.
-/
import Derived.Test.YtajlleeonddinaaGreatDoorGBC
import Derived.Test.YtajlleeonddinaaGreatDoorGBD
import Derived.Test.YtajlleeonddinaaGreatDoorGAZ
import Derived.Test.YtajlleeonddinaaGreatDoorGAF
import Derived.Test.YtajlleeonddinaaGreatDoorGAH
import Derived.Maps.RangeWalk
import Derived.Maps.OwnSet
import Derived.Maps.OwnOps
import Derived.Test.YtajlleeonddinaaGreatDoorGBA
import Derived.Test.YtajlleeonddinaaGreatDoorMSeN
import Derived.Test.YtajlleeonddinaaGreatDoorGAR
import Derived.Test.YtajlleeonddinaaGreatDoorGBB
import Derived.Test.YtajlleeonddinaaGreatDoorGAY
import Derived.Handed
import Derived.Shelf.Vars
import Derived.Test.YtajlleeonddinaaGreatDoorGAB
set_option linter.all false
set_option maxRecDepth 100000
set_option maxHeartbeats 4000000
namespace Go.Proofs.YtajlleeonddinaaGreatDoor
open Go.RowKit Go.Shelf
attribute [local go_sem] Oper.semAt_some
def gW (W:List Im.Cel) (a:Int):Option UInt8:=if Im.getOk W a=true then some (Im.getV W a) else none
theorem gW_rng {W:List Im.Cel} {a:Int} (h:gW W a≠none):0≤a∧a≤65535:=by
 unfold gW Im.getOk at h
 split at h
 ·rename_i h1
  rw [Bool.and_eq_true] at h1
  have:=h1.1
  unfold Im.addrB at this
  simp only [Bool.and_eq_true,decide_eq_true_eq] at this
  omega
 ·exact absurd rfl h
theorem fnd_rng {W:List Im.Cel} {a:Int} {n:Nat} (h:(fndB (gW W) (n+1) a).length=n+1):0≤a∧a≤65535:=gW_rng fun e=>by
 rw [fndB_nil.2 e] at h
 cases h
def itZ:Ite:=⟨0,[],[],[],false⟩
def RetImI (w:World) (o:Option Ite) (e:Ending) (w':World):Prop:=∃ A c B c2,e=.returned (.tuple #[.agg #[.int .i64 (o.getD itZ).kind,.slice A (o.getD itZ).raw.length c,.string (sB (o.getD itZ).m),.slice B (o.getD itZ).C.length c2,.bool (o.getD itZ).al],.bool o.isSome])∧
 TOwnB w' w.heap.size (.slice A (o.getD itZ).raw.length c) (o.getD itZ).raw∧OwnT w' w.heap.size (.slice B (o.getD itZ).C.length c2) (o.getD itZ).C∧Below w.heap.size w w'
theorem townB_le {w:World} {n m c:Nat} {A:Option Addr} {xs:Str} (h:TOwnB w n (.slice A m c) xs):BytesAt w A xs∧m≤c∧c≤maxLen:=by
 rcases h.2 with ⟨e,h0⟩ | ⟨g,cap,cur,e,_,_,h3,h4,_⟩
 ·injection e with e1 e2 e3
  subst e1 e2 e3
  exact ⟨.inl (List.eq_nil_of_length_eq_zero h0),Nat.le_refl _,Nat.zero_le _⟩
 ·obtain ⟨A',c',e',hB⟩:=h.bytes
  injection e' with e1' e2' e3'
  injection e with e1 e2 e3
  subst e1'
  subst e2 e3
  exact ⟨hB,h3,h4⟩
theorem item_any14 (b:Nat) (W:List Im.Cel) (a:Int) (ha0 : -9223372036854775808≤a) (ha1:a≤9223372036854775807) (w:World) (hM:MaxAt w) (H:Im.ImgOf w b W) :
  Calls Tryz.prog 16 #[.pointer (some ⟨b,0,none⟩),.int .i64 a] w (RetImI w (imI (gW W) a)):=by
 obtain ⟨n,hn⟩:∃ z,w.heap.size=z:=⟨_,rfl⟩
 have HN:=Lib.hid hn
 obtain ⟨b0,w1,hb0,hw1,S1,y1,z1⟩:=Fr.box (Fr.start w n hn) #[.int .i64 0,.slice none 0 0,.string ⟨#[]⟩,.slice none 0 0,.bool false] 40
 obtain rfl:b0=n:=by omega
 have I1:Hid (ItAt w1 b0 0 (.slice none 0 0) ⟨#[]⟩ (.slice none 0 0) false):=S1.out.1
 have B1:=Lib.hid S1.out.2.1.1
 have OW:Hid (∀ w',Below b0 w w'→MaxAt w'∧Im.ImgOf w' b W):=fun w' h=>⟨hM.below (by rw [hn];exact h),H.below (by rw [hn];exact h)⟩
 have GET:=Lib.hid (fun w' x h=>Im.getOf_any b W x w' h)
 obtain ⟨IM,hIM⟩:∃ z,imI (gW W) a=z:=⟨_,rfl⟩
 have HI:Hid (IM=if fndB (gW W) 4 a=[] then none else some (itR (fndB (gW W) 4 a))):=hIM.symm
 rw [hIM]
 clear H hM y1 hIM S1
 go_enter Tryz.func16,Tryz.ntmps16
 go_wp2
 clear hw1 hn hb0 z1
 go_loopw [6] (fun v wr=>∃ (j c:Nat) (A:Option Addr),j≤4∧v=.slice A j c∧Hid ((fndB (gW W) j a).length=j)∧Hid (TOwnB wr (b0+1) (.slice A j c) (fndB (gW W) j a))∧Hid (ItAt wr b0 0 (.slice none 0 0) ⟨#[]⟩ (.slice none 0 0) false)∧Hid (Below b0 w wr)) (fun v _=>match v with | .slice _ j _=>4 - j | _=>0)
 case atStart=>exact ⟨0,0,none,by omega,rfl,rfl,townB_nil _ _,I1.out,B1.out⟩
 case round=>
  clear I1 B1
  obtain ⟨j,c,A,hj,rfl,HL,O2,I2,B2⟩:=hrel
  by_cases hlt:j<4
  ·have hc:IntKind.i64.wrap (a+(j:Int))=a+(j:Int):=by
    rw [IntKind.wrap_i64]
    cases j with
    | zero=>omega
    | succ j=>
     have:=fnd_rng HL.out
     omega
   have GT:=GET.out wr (a+(j:Int)) (OW.out wr B2.out).2
   go_wp2_with fail
   refine GT.mono ?_
   rintro e w2 ⟨rfl,rfl⟩
   obtain ⟨ok,hok⟩:∃ z,Im.getOk W (a+(j:Int))=z:=⟨_,rfl⟩
   have GW:Hid (gW W (a+(j:Int))=if ok=true then some (Im.getV W (a+(j:Int))) else none):=by show gW W _=_;unfold gW;rw [hok]
   obtain ⟨gv,hgv⟩:∃ z,Im.getV W (a+(j:Int))=z:=⟨_,rfl⟩
   rw [hgv] at GW ⊢
   rw [hok]
   clear GT hc hok hgv
   cases ok with
   | true=>
    have FM:=Lib.hid (fndB_more HL.out (GW.out))
    have FL:Hid ((fndB (gW W) (j+1) a).length=j+1):=by show _=_;rw [FM.out,List.length_append,HL.out];rfl
    obtain ⟨g3,w3,hg3,hw3,S3,y3,z3⟩:=Fr.box (Fr.nil wr) #[.int .u8 (gv.toNat:Int)] 5
    have P3:Hid (BytesAt w3 (some ⟨g3,0,none⟩) [gv]):=by rw [← hw3,← hg3];exact bytes_new1 wr gv
    have O3:=Lib.hid (O2.out.below y3)
    have I3:=Lib.hid (I2.out.all y3)
    have ZB:Hid (b0+1≤w3.heap.size):=I3.out.lt
    have B3:Hid (Below b0 w w3):=B2.out.trans (y3.mono (by have:=I2.out.lt;omega))
    have NX:Hid (∀ A5 c5 w5,TOwnB w5 (b0+1) (.slice A5 (j+1) c5) (fndB (gW W) j a++[gv])→Below (b0+1) w3 w5→TOwnB w5 (b0+1) (.slice A5 (j+1) c5) (fndB (gW W) (j+1) a)∧ItAt w5 b0 0 (.slice none 0 0) ⟨#[]⟩ (.slice none 0 0) false∧Below b0 w w5):=fun A5 c5 w5 h1 h2=>⟨by rw [FM.out];exact h1,(h2.block b0 (by omega)).trans I3.out,B3.out.trans (h2.mono (by omega))⟩
    clear O2 I2 B2 y3 S3 GW z3 I3 B3
    go_wp2_with (at_builtin;refine wpList_appBs O3.out P3.out ZB.out (by rw [HL.out];simp;omega) rfl _ _ rfl rfl rfl 1 rfl rfl (j+1) (by rw [HL.out]) ?_;intro A5 c5 w5 hO5 hB5;have F5:=Lib.hid (NX.out A5 c5 w5 hO5 hB5);clear hO5 hB5)
    go_roundw
    case rel=>exact ⟨j+1,c5,A5,by omega,rfl,FL.out,F5.out.1,F5.out.2.1,F5.out.2.2⟩
    case measure=>simp;omega
   | false=>
    have E4:Hid (fndB (gW W) 4 a=fndB (gW W) j a):=fndB_stop HL.out (GW.out) 4 (by omega)
    clear GW hlt
    obtain ⟨bs,hbs⟩:∃ z,fndB (gW W) j a=z:=⟨_,rfl⟩
    rw [E4.out,hbs] at HI
    rw [hbs] at HL O2
    obtain ⟨hB,hc1,hc2⟩:=townB_le O2.out
    have DA:=Lib.hid (dat_any bs A c j HL.out hc1 hc2 (by omega) wr hB (OW.out wr B2.out).1 0)
    clear E4 hbs hB hc1 hc2 GET OW
    go_wp2_with fail
    refine DA.out.mono ?_
    rintro e w3 hR
    have hb3:Below wr.heap.size wr w3:=by
     rcases hR with ⟨-,-,h⟩ | ⟨k,-,-,A',c',B',d',-,-,-,h⟩
     ·exact h
     ·exact h
    have HR:∃ A' c' B' d',∃ ix:Int,e=.returned (.tuple #[.agg #[.int .i64 (IM.getD itZ).kind,.slice A' (IM.getD itZ).raw.length c',.string (sB (IM.getD itZ).m),.slice B' (IM.getD itZ).C.length d',.bool (IM.getD itZ).al],.int .i64 ix,.bool IM.isSome])∧
      TOwnB w3 wr.heap.size (.slice A' (IM.getD itZ).raw.length c') (IM.getD itZ).raw∧OwnT w3 wr.heap.size (.slice B' (IM.getD itZ).C.length d') (IM.getD itZ).C:=by
     rcases hR with ⟨h,rfl,-⟩ | ⟨k,h1,h2,A',c',B',d',rfl,hO,hT,-⟩
     ·have hb0:bs=[]:=List.eq_nil_of_length_eq_zero (by omega)
      rw [HI.out,if_pos hb0]
      exact ⟨none,0,none,0,0,rfl,townB_nil _ _,ownT_nil _ _⟩
     ·obtain rfl:k=0:=by omega
      have hb0:bs≠[]:=fun e=>by rw [e] at h2;cases h2
      rw [HI.out,if_neg hb0]
      exact ⟨A',c',B',d',_,rfl,hO,hT⟩
    obtain ⟨A',c',B',d',ix,rfl,hO,hT⟩:=HR
    have B3:Hid (Below b0 w w3):=B2.out.trans (hb3.mono (by have:=I2.out.lt;omega))
    have I3:=Lib.hid (I2.out.all hb3)
    obtain ⟨X,hX⟩:∃ z,IM.getD itZ=z:=⟨_,rfl⟩
    obtain ⟨ok,hok⟩:∃ z,IM.isSome=z:=⟨_,rfl⟩
    have WB:Hid (b0+1≤wr.heap.size):=I2.out.lt
    have RT:Hid (∀ w',TOwnB w' w.heap.size (.slice A' X.raw.length c') X.raw→OwnT w' w.heap.size (.slice B' X.C.length d') X.C→Below w.heap.size w w'→RetImI w IM (.returned (.tuple #[.agg #[.int .i64 X.kind,.slice A' X.raw.length c',.string (sB X.m),.slice B' X.C.length d',.bool X.al],.bool ok])) w'):=fun w' h1 h2 h3=>by
     unfold RetImI
     rw [hX,hok]
     exact ⟨A',c',B',d',rfl,h1,h2,h3⟩
    rw [hX] at hO hT ⊢
    rw [hok]
    have O3:=Lib.hid hO
    have T3:=Lib.hid hT
    clear hR hb3 hO hT O2 I2 B2 HI HL DA hX hok
    go_upto_region 7 with fail
    obtain ⟨g4,w4,hg4,hw4,S4,y4,z4⟩:=Fr.box (Fr.nil w3) #[.int .i64 X.kind,.slice A' X.raw.length c',.string (sB X.m),.slice B' X.C.length d',.bool X.al] 40
    rw [hw4,hg4]
    have IX:ItAt w4 g4 X.kind (.slice A' X.raw.length c') (sB X.m) (.slice B' X.C.length d') X.al:=S4.out.1
    have Z:ItAt w4 b0 0 (.slice none 0 0) ⟨#[]⟩ (.slice none 0 0) false:=I3.out.all y4
    have ZL:=Z.lt
    obtain ⟨e0,e1,e2,e3,e4,e5⟩:=IX.cells
    obtain ⟨f0,f1,f2,f3,f4,f5⟩:=Z.cells
    obtain ⟨w5,hw5,i1,i2,i3,i4,i5,i6⟩:=Z.put X.kind (.slice A' X.raw.length c') (sB X.m) (.slice B' X.C.length d') X.al
    obtain ⟨j0,j1,j2,j3,j4,j5⟩:=i1.cells
    have R:=Lib.hid (RT.out w5 ((i5 _ _ _ (by have:=WB.out;omega) (O3.out.below y4)).lift (by rw [HN.out];have:=WB.out;omega)) (row_mono (i4 _ _ _ (by have:=WB.out;omega) (T3.out.below y4)) (by rw [HN.out];have:=WB.out;omega)) (by rw [HN.out];exact (B3.out.trans (y4.mono (by have:=I3.out.lt;omega))).trans i2))
    clear S4 B3 I3 y4 z4 hw4 hg4 IX Z i1 i2 i3 i4 i5 i6 O3 T3 RT ZL WB
    go_wp2
    refine bodyPost_ret (v:=.tuple #[.agg #[.int .i64 X.kind,.slice A' X.raw.length c',.string (sB X.m),.slice B' X.C.length d',.bool X.al],.bool ok]) ?_ rfl R.out
    simp [results,Tryz.results16,go_sem,j0,j1,j2,j3,j4]
  ·obtain rfl:j=4:=by omega
   have E4:Hid (fndB (gW W) 4 a=fndB (gW W) 4 a):=rfl
   clear hlt hj
   obtain ⟨bs,hbs⟩:∃ z,fndB (gW W) 4 a=z:=⟨_,rfl⟩
   rw [E4.out,hbs] at HI
   rw [hbs] at HL O2
   obtain ⟨hB,hc1,hc2⟩:=townB_le O2.out
   have DA:=Lib.hid (dat_any bs A c 4 HL.out hc1 hc2 (by omega) wr hB (OW.out wr B2.out).1 0)
   clear E4 hbs hB hc1 hc2 GET OW
   go_wp2_with fail
   refine DA.out.mono ?_
   rintro e w3 hR
   have hb3:Below wr.heap.size wr w3:=by
    rcases hR with ⟨-,-,h⟩ | ⟨k,-,-,A',c',B',d',-,-,-,h⟩
    ·exact h
    ·exact h
   have HR:∃ A' c' B' d',∃ ix:Int,e=.returned (.tuple #[.agg #[.int .i64 (IM.getD itZ).kind,.slice A' (IM.getD itZ).raw.length c',.string (sB (IM.getD itZ).m),.slice B' (IM.getD itZ).C.length d',.bool (IM.getD itZ).al],.int .i64 ix,.bool IM.isSome])∧
     TOwnB w3 wr.heap.size (.slice A' (IM.getD itZ).raw.length c') (IM.getD itZ).raw∧OwnT w3 wr.heap.size (.slice B' (IM.getD itZ).C.length d') (IM.getD itZ).C:=by
    rcases hR with ⟨h,rfl,-⟩ | ⟨k,h1,h2,A',c',B',d',rfl,hO,hT,-⟩
    ·have hb0:bs=[]:=List.eq_nil_of_length_eq_zero (by omega)
     rw [HI.out,if_pos hb0]
     exact ⟨none,0,none,0,0,rfl,townB_nil _ _,ownT_nil _ _⟩
    ·obtain rfl:k=0:=by omega
     have hb0:bs≠[]:=fun e=>by rw [e] at h2;cases h2
     rw [HI.out,if_neg hb0]
     exact ⟨A',c',B',d',_,rfl,hO,hT⟩
   obtain ⟨A',c',B',d',ix,rfl,hO,hT⟩:=HR
   have B3:Hid (Below b0 w w3):=B2.out.trans (hb3.mono (by have:=I2.out.lt;omega))
   have I3:=Lib.hid (I2.out.all hb3)
   obtain ⟨X,hX⟩:∃ z,IM.getD itZ=z:=⟨_,rfl⟩
   obtain ⟨ok,hok⟩:∃ z,IM.isSome=z:=⟨_,rfl⟩
   have WB:Hid (b0+1≤wr.heap.size):=I2.out.lt
   have RT:Hid (∀ w',TOwnB w' w.heap.size (.slice A' X.raw.length c') X.raw→OwnT w' w.heap.size (.slice B' X.C.length d') X.C→Below w.heap.size w w'→RetImI w IM (.returned (.tuple #[.agg #[.int .i64 X.kind,.slice A' X.raw.length c',.string (sB X.m),.slice B' X.C.length d',.bool X.al],.bool ok])) w'):=fun w' h1 h2 h3=>by
    unfold RetImI
    rw [hX,hok]
    exact ⟨A',c',B',d',rfl,h1,h2,h3⟩
   rw [hX] at hO hT ⊢
   rw [hok]
   have O3:=Lib.hid hO
   have T3:=Lib.hid hT
   clear hR hb3 hO hT O2 I2 B2 HI HL DA hX hok
   go_upto_region 7 with fail
   obtain ⟨g4,w4,hg4,hw4,S4,y4,z4⟩:=Fr.box (Fr.nil w3) #[.int .i64 X.kind,.slice A' X.raw.length c',.string (sB X.m),.slice B' X.C.length d',.bool X.al] 40
   rw [hw4,hg4]
   have IX:ItAt w4 g4 X.kind (.slice A' X.raw.length c') (sB X.m) (.slice B' X.C.length d') X.al:=S4.out.1
   have Z:ItAt w4 b0 0 (.slice none 0 0) ⟨#[]⟩ (.slice none 0 0) false:=I3.out.all y4
   have ZL:=Z.lt
   obtain ⟨e0,e1,e2,e3,e4,e5⟩:=IX.cells
   obtain ⟨f0,f1,f2,f3,f4,f5⟩:=Z.cells
   obtain ⟨w5,hw5,i1,i2,i3,i4,i5,i6⟩:=Z.put X.kind (.slice A' X.raw.length c') (sB X.m) (.slice B' X.C.length d') X.al
   obtain ⟨j0,j1,j2,j3,j4,j5⟩:=i1.cells
   have R:=Lib.hid (RT.out w5 ((i5 _ _ _ (by have:=WB.out;omega) (O3.out.below y4)).lift (by rw [HN.out];have:=WB.out;omega)) (row_mono (i4 _ _ _ (by have:=WB.out;omega) (T3.out.below y4)) (by rw [HN.out];have:=WB.out;omega)) (by rw [HN.out];exact (B3.out.trans (y4.mono (by have:=I3.out.lt;omega))).trans i2))
   clear S4 B3 I3 y4 z4 hw4 hg4 IX Z i1 i2 i3 i4 i5 i6 O3 T3 RT ZL WB
   go_wp2
   refine bodyPost_ret (v:=.tuple #[.agg #[.int .i64 X.kind,.slice A' X.raw.length c',.string (sB X.m),.slice B' X.C.length d',.bool X.al],.bool ok]) ?_ rfl R.out
   simp [results,Tryz.results16,go_sem,j0,j1,j2,j3,j4]
theorem ritem_any14 (P:Nat→Prop) (Aw:Option Addr) (capw:Nat) (W:List Im.Cel) (hsW:Im.SortedW W) (a:Int) (ha0 : -9223372036854775808≤a) (ha1:a≤9223372036854775807) (w:World) (H:Im.CellsP P w Aw W) :
  Calls Tryz.prog 17 #[.slice Aw W.length capw,.int .i64 a] w (RetImI w (imI (gW W) a)):=by
 obtain ⟨n,hn⟩:∃ z,w.heap.size=z:=⟨_,rfl⟩
 have HN:=Lib.hid hn
 obtain ⟨b0,w1,hb0,hw1,S1,y1,z1⟩:=Fr.box (Fr.start w n hn) #[.int .i64 0,.slice none 0 0,.string ⟨#[]⟩,.slice none 0 0,.bool false] 40
 obtain rfl:b0=n:=by omega
 have I1:Hid (ItAt w1 b0 0 (.slice none 0 0) ⟨#[]⟩ (.slice none 0 0) false):=S1.out.1
 have B1:=Lib.hid S1.out.2.1.1
 have GET:=Lib.hid (fun w' x (h:Below b0 w w')=>Im.rget_any P Aw capw W hsW x w' (H.below (by rw [hn];exact h)))
 obtain ⟨IM,hIM⟩:∃ z,imI (gW W) a=z:=⟨_,rfl⟩
 have HI:Hid (IM=if fndB (gW W) 4 a=[] then none else some (itR (fndB (gW W) 4 a))):=hIM.symm
 rw [hIM]
 clear H y1 hIM S1
 go_enter Tryz.func17,Tryz.ntmps17
 go_wp2
 clear hw1 hn hb0 z1
 go_loopw [6,7] (fun v i wr=>∃ (j c:Nat) (A:Option Addr),j≤4∧i=.int .i64 j∧v=.slice A j c∧Hid ((fndB (gW W) j a).length=j)∧Hid (TOwnB wr (b0+1) (.slice A j c) (fndB (gW W) j a))∧Hid (ItAt wr b0 0 (.slice none 0 0) ⟨#[]⟩ (.slice none 0 0) false)∧Hid (Below b0 w wr)) (fun _ i _=>4 - (intOf i).toNat)
 case atStart=>exact ⟨0,0,none,by omega,rfl,rfl,rfl,townB_nil _ _,I1.out,B1.out⟩
 case round=>
  clear I1 B1
  obtain ⟨j,c,A,hj,rfl,rfl,HL,O2,I2,B2⟩:=hrel
  by_cases hlt:j<4
  ·have hc:IntKind.i64.wrap (a+(j:Int))=a+(j:Int):=by
    rw [IntKind.wrap_i64]
    cases j with
    | zero=>omega
    | succ j=>
     have:=fnd_rng HL.out
     omega
   have GT:=GET.out wr (a+(j:Int)) B2.out
   go_wp2_with fail
   refine GT.mono ?_
   rintro e w2 ⟨rfl,rfl⟩
   obtain ⟨ok,hok⟩:∃ z,Im.getOk W (a+(j:Int))=z:=⟨_,rfl⟩
   have GW:Hid (gW W (a+(j:Int))=if ok=true then some (Im.getV W (a+(j:Int))) else none):=by show gW W _=_;unfold gW;rw [hok]
   obtain ⟨gv,hgv⟩:∃ z,Im.getV W (a+(j:Int))=z:=⟨_,rfl⟩
   rw [hgv] at GW ⊢
   rw [hok]
   clear GT hc hok hgv
   cases ok with
   | true=>
    have FM:=Lib.hid (fndB_more HL.out (GW.out))
    have FL:Hid ((fndB (gW W) (j+1) a).length=j+1):=by show _=_;rw [FM.out,List.length_append,HL.out];rfl
    obtain ⟨g3,w3,hg3,hw3,S3,y3,z3⟩:=Fr.box (Fr.nil wr) #[.int .u8 (gv.toNat:Int)] 5
    have P3:Hid (BytesAt w3 (some ⟨g3,0,none⟩) [gv]):=by rw [← hw3,← hg3];exact bytes_new1 wr gv
    have O3:=Lib.hid (O2.out.below y3)
    have I3:=Lib.hid (I2.out.all y3)
    have ZB:Hid (b0+1≤w3.heap.size):=I3.out.lt
    have B3:Hid (Below b0 w w3):=B2.out.trans (y3.mono (by have:=I2.out.lt;omega))
    have NX:Hid (∀ A5 c5 w5,TOwnB w5 (b0+1) (.slice A5 (j+1) c5) (fndB (gW W) j a++[gv])→Below (b0+1) w3 w5→TOwnB w5 (b0+1) (.slice A5 (j+1) c5) (fndB (gW W) (j+1) a)∧ItAt w5 b0 0 (.slice none 0 0) ⟨#[]⟩ (.slice none 0 0) false∧Below b0 w w5):=fun A5 c5 w5 h1 h2=>⟨by rw [FM.out];exact h1,(h2.block b0 (by omega)).trans I3.out,B3.out.trans (h2.mono (by omega))⟩
    clear O2 I2 B2 y3 S3 GW z3 I3 B3
    go_wp2_with (at_builtin;refine wpList_appBs O3.out P3.out ZB.out (by rw [HL.out];simp;omega) rfl _ _ rfl rfl rfl 1 rfl rfl (j+1) (by rw [HL.out]) ?_;intro A5 c5 w5 hO5 hB5;have F5:=Lib.hid (NX.out A5 c5 w5 hO5 hB5);clear hO5 hB5)
    go_roundw
    case rel=>exact ⟨j+1,c5,A5,by omega,by go_num,rfl,FL.out,F5.out.1,F5.out.2.1,F5.out.2.2⟩
    case measure=>simp [intOf];omega
   | false=>
    have E4:Hid (fndB (gW W) 4 a=fndB (gW W) j a):=fndB_stop HL.out (GW.out) 4 (by omega)
    clear GW hlt
    obtain ⟨bs,hbs⟩:∃ z,fndB (gW W) j a=z:=⟨_,rfl⟩
    rw [E4.out,hbs] at HI
    rw [hbs] at HL O2
    have Z:=I2.out
    obtain ⟨f0,f1,f2,f3,f4,f5⟩:=Z.cells
    by_cases hb0:bs=[]
    ·obtain rfl:j=0:=by rw [← HL.out,hb0];rfl
     have HI0:IM=none:=by rw [HI.out,if_pos hb0]
     subst HI0
     obtain ⟨w5,hw5,i1,i2,i3,i4,i5,i6⟩:=Z.put 0 (.slice none 0 0) ⟨#[]⟩ (.slice none 0 0) false
     obtain ⟨j0,j1,j2,j3,j4,j5⟩:=i1.cells
     have R:Hid (RetImI w none (.returned (.tuple #[.agg #[.int .i64 0,.slice none 0 0,.string ⟨#[]⟩,.slice none 0 0,.bool false],.bool false])) w5):=⟨none,0,none,0,rfl,townB_nil _ _,ownT_nil _ _,by rw [HN.out];exact B2.out.trans i2⟩
     clear Z i1 i2 i3 i4 i5 i6 O2 I2 B2 HL HI E4 GET hbs hb0
     go_wp2
     refine bodyPost_ret (v:=.tuple #[.agg #[.int .i64 0,.slice none 0 0,.string ⟨#[]⟩,.slice none 0 0,.bool false],.bool false]) ?_ rfl R.out
     simp [results,Tryz.results17,go_sem,j0,j1,j2,j3,j4]
    ·have hj0:j≠0:=fun e=>hb0 (List.eq_nil_of_length_eq_zero (by rw [HL.out,e]))
     obtain ⟨hB,hc1,hc2⟩:=townB_le O2.out
     have DA:=Lib.hid (rfirst12_any bs hb0 A c j HL.out hc1 hc2 (by omega) wr hB)
     have HI0:IM=some (itR bs):=by rw [HI.out,if_neg hb0]
     have e0:(((j:Nat):Int) == 0)=false:=beq_eq_false_iff_ne.2 (by omega)
     subst HI0
     clear E4 hbs hB hc1 hc2 GET HI hb0 hj0
     go_wp2_with fail
     refine DA.out.mono ?_
     rintro e w3 ⟨A',c',B',d',rfl,hO,hT,hb3⟩
     have Z:=I2.out.all hb3
     have ZL:=I2.out.lt
     obtain ⟨X,hX⟩:∃ z,itR bs=z:=⟨_,rfl⟩
     rw [hX] at hO hT ⊢
     obtain ⟨w5,hw5,i1,i2,i3,i4,i5,i6⟩:=Z.put X.kind (.slice A' X.raw.length c') (sB X.m) (.slice B' X.C.length d') X.al
     obtain ⟨g0,g1,g2,g3,g4,g5⟩:=Z.cells
     obtain ⟨j0,j1,j2,j3,j4,j5⟩:=i1.cells
     have R:Hid (RetImI w (some (itR bs)) (.returned (.tuple #[.agg #[.int .i64 X.kind,.slice A' X.raw.length c',.string (sB X.m),.slice B' X.C.length d',.bool X.al],.bool true])) w5):=by
      rw [hX]
      exact ⟨A',c',B',d',rfl,(i5 _ _ _ (by omega) hO).lift (by rw [HN.out];omega),row_mono (i4 _ _ _ (by omega) hT) (by rw [HN.out];omega),by rw [HN.out];exact (B2.out.trans (hb3.mono (by omega))).trans i2⟩
     clear Z i1 i2 i3 i4 i5 i6 O2 I2 B2 HL DA hO hT hb3 ZL hX f0 f1 f2 f3 f4 f5
     go_wp2
     refine bodyPost_ret (v:=.tuple #[.agg #[.int .i64 X.kind,.slice A' X.raw.length c',.string (sB X.m),.slice B' X.C.length d',.bool X.al],.bool true]) ?_ rfl R.out
     simp [results,Tryz.results17,go_sem,j0,j1,j2,j3,j4]
  ·obtain rfl:j=4:=by omega
   have E4:Hid (fndB (gW W) 4 a=fndB (gW W) 4 a):=rfl
   clear hlt hj
   obtain ⟨bs,hbs⟩:∃ z,fndB (gW W) 4 a=z:=⟨_,rfl⟩
   rw [E4.out,hbs] at HI
   rw [hbs] at HL O2
   have Z:=I2.out
   obtain ⟨f0,f1,f2,f3,f4,f5⟩:=Z.cells
   by_cases hb0:bs=[]
   ·exfalso;have:=HL.out;rw [hb0] at this;cases this
   ·have hj0:True:=trivial
    obtain ⟨hB,hc1,hc2⟩:=townB_le O2.out
    have DA:=Lib.hid (rfirst12_any bs hb0 A c 4 HL.out hc1 hc2 (by omega) wr hB)
    have HI0:IM=some (itR bs):=by rw [HI.out,if_neg hb0]
    have e0:(((4:Nat):Int) == 0)=false:=beq_eq_false_iff_ne.2 (by omega)
    subst HI0
    clear E4 hbs hB hc1 hc2 GET HI hb0 hj0
    go_wp2_with fail
    refine DA.out.mono ?_
    rintro e w3 ⟨A',c',B',d',rfl,hO,hT,hb3⟩
    have Z:=I2.out.all hb3
    have ZL:=I2.out.lt
    obtain ⟨X,hX⟩:∃ z,itR bs=z:=⟨_,rfl⟩
    rw [hX] at hO hT ⊢
    obtain ⟨w5,hw5,i1,i2,i3,i4,i5,i6⟩:=Z.put X.kind (.slice A' X.raw.length c') (sB X.m) (.slice B' X.C.length d') X.al
    obtain ⟨g0,g1,g2,g3,g4,g5⟩:=Z.cells
    obtain ⟨j0,j1,j2,j3,j4,j5⟩:=i1.cells
    have R:Hid (RetImI w (some (itR bs)) (.returned (.tuple #[.agg #[.int .i64 X.kind,.slice A' X.raw.length c',.string (sB X.m),.slice B' X.C.length d',.bool X.al],.bool true])) w5):=by
     rw [hX]
     exact ⟨A',c',B',d',rfl,(i5 _ _ _ (by omega) hO).lift (by rw [HN.out];omega),row_mono (i4 _ _ _ (by omega) hT) (by rw [HN.out];omega),by rw [HN.out];exact (B2.out.trans (hb3.mono (by omega))).trans i2⟩
    clear Z i1 i2 i3 i4 i5 i6 O2 I2 B2 HL DA hO hT hb3 ZL hX f0 f1 f2 f3 f4 f5
    go_wp2
    refine bodyPost_ret (v:=.tuple #[.agg #[.int .i64 X.kind,.slice A' X.raw.length c',.string (sB X.m),.slice B' X.C.length d',.bool X.al],.bool true]) ?_ rfl R.out
    simp [results,Tryz.results17,go_sem,j0,j1,j2,j3,j4]
end Go.Proofs.YtajlleeonddinaaGreatDoor
namespace Go.Proofs.YtajlleeonddinaaGreatDoor
open Go.RowKit Go.Shelf Go.Maps
attribute [local go_sem] Oper.semAt_some
def zk (z:Int):Lit:=.int .i64 z
def setZ (L:List Int):DataW Unit:=setOf yesD (L.map zk)
theorem key_zk (z:Int):WideAt.IsKeyLit (zk z):=by
 first | trivial | exact ⟨_,_,rfl⟩ | simp [zk,WideAt.IsKeyLit]
theorem same_zk (a b:Int):(zk a).sameKey (zk b)=decide (a=b):=by
 by_cases h:a=b
 ·subst h
  rw [decide_eq_true rfl]
  simp [zk,Lit.sameKey]
 ·rw [decide_eq_false h]
  exact sameKey_ne fun e=>h (by unfold zk at e;injection e)
def VS (w:World) (b:Nat) (L:List Int):Prop:=w.ownsMap Tryz.prog 3 (plainElem Tryz.prog 4) b L.length (setZ L)
theorem VS.heap {w w':World} {b:Nat} {L:List Int} (h:VS w b L) (e:w'.heap[b]?=w.heap[b]?):VS w' b L:=by
 obtain ⟨es,clock,hb,F,hs,hD⟩:=h
 exact ⟨es,clock,e.trans hb,F,hs,hD⟩
theorem VS.lt {w:World} {b:Nat} {L:List Int} (h:VS w b L):b<w.heap.size:=World.ownsMap.lt h
theorem VS.below {w w':World} {b:Nat} {L:List Int} (h:VS w b L) (hb:Below w.heap.size w w'):VS w' b L:=h.heap (hb.block b h.lt)
def WkAt (w:World) (g:Nat) (v:Value) (m b:Nat):Prop:=w.heap[g]?=some (.cells #[v,.pointer (some ⟨m,0,none⟩),.map (some b)] 118 (0,0))
structure Wkr (w0:World) (n m:Nat) (w:World) (R L:List Int):Prop where
 row:∃ A c,WkAt w (n+1) (.slice A R.length c) m n∧OwnZ w (n+2) (.slice A R.length c) R
 set:VS w n L
 bel:Below n w0 w
theorem Wkr.lt {w0:World} {n m:Nat} {w:World} {R L:List Int} (h:Wkr w0 n m w R L):n+2≤w.heap.size:=by
 obtain ⟨A,c,h1,-⟩:=h.row
 have:=(Array.getElem?_eq_some_iff.1 h1).1
 omega
theorem Wkr.up {w0:World} {n m:Nat} {w w':World} {R L:List Int} (h:Wkr w0 n m w R L) (hb:Below w.heap.size w w'):Wkr w0 n m w' R L:=by
 have hl:=h.lt
 obtain ⟨A,c,h1,h2⟩:=h.row
 exact ⟨⟨A,c,(hb.block _ (by omega)).trans h1,h2.below hb⟩,h.set.below hb,h.bel.trans (hb.mono (by omega))⟩
theorem OwnZ.low {w:World} {n:Nat} {v:Value} {L:List Int} (h:OwnZ w n v L) (p:Addr) (hp:p.block<n) (u:Value):OwnZ (w.setCell p u) n v L:=row_set h hp u
end Go.Proofs.YtajlleeonddinaaGreatDoor
namespace Go.Proofs.YtajlleeonddinaaGreatDoor
open Go.RowKit Go.Shelf
theorem TOwnB.bytesP {w:World} {n m c:Nat} {A:Option Addr} {xs:Str} (h:TOwnB w n (.slice A m c) xs):BytesAt w A xs:=by
 obtain ⟨A',c',e,hP⟩:=h.bytes
 simp only [Value.slice.injEq] at e
 obtain ⟨rfl,-,-⟩:=e
 exact hP
theorem itC_le (b:Str):(itR b).C.length≤3:=by
 cases h:hdB b with
 | none=>unfold itR;rw [h];exact Nat.zero_le _
 | some q=>
  obtain ⟨p,o,t⟩:=q
  rw [it_of h]
  cases hx:ratT p o.toNat with
  | none=>simp only;split <;> exact Nat.zero_le _
  | some x=>
   simp only
   split
   ·exact Nat.zero_le _
   ·cases hf:fillV x.2.2.1 x.2.1 (numB x.2.2.1 t).1 (numB x.2.2.1 t).2 with
    | none=>exact Nat.zero_le _
    | some C=>
     have h1:=congrArg List.length (fill_shape hf).1
     rw [List.length_map,List.length_map] at h1
     have h2:=(InTab.ok (k:=(p,(o.toNat:Int),x.1,x.2.1,x.2.2.1,x.2.2.2)) ⟨o.toNat,o.toNat_lt,rfl,hx⟩).len
     simp only at h2
     show C.length≤3
     omega
end Go.Proofs.YtajlleeonddinaaGreatDoor
namespace Go.Proofs.YtajlleeonddinaaGreatDoor
open Go.RowKit Go.Shelf Go.Maps
attribute [local go_sem] Oper.semAt_some
theorem itM_le (b:Str):(itR b).m.length≤10:=by
 cases h:hdB b with
 | none=>unfold itR;rw [h];exact Nat.zero_le _
 | some q=>
  obtain ⟨p,o,t⟩:=q
  rw [it_of h]
  cases hx:ratT p o.toNat with
  | none=>simp only;split <;> exact Nat.zero_le _
  | some x=>
   simp only
   split
   ·exact Nat.zero_le _
   ·have ok:=InTab.ok (k:=(p,(o.toNat:Int),x.1,x.2.1,x.2.2.1,x.2.2.2)) ⟨o.toNat,o.toNat_lt,rfl,hx⟩
    exact ok.m
theorem fsB_size (m:Str):(sB m).size=m.length:=by unfold sB;show m.toArray.size=_;rw [List.size_toArray]
theorem im_le {g:Int→Option UInt8} {a:Int} {x:Ite} (h:imI g a=some x):(sB x.m).size≤1000∧x.C.length≤900∧x.raw.length≤1000000000:=by
 unfold imI at h
 split at h
 ·cases h
 ·obtain rfl:=Option.some.inj h
  have h1:=itM_le (fndB g 4 a)
  have h2:=itC_le (fndB g 4 a)
  have h3:=raw_le (fndB g 4 a)
  have h4:=fndB_len g 4 a
  rw [fsB_size]
  omega
attribute [local irreducible] Go.Mixed.wpMixT
def mapSz (w:World) (b:Nat):Nat:=match w.heap[b]? with
 | some (.map es _)=>es.size
 | _=>0
def rowSz (w:World) (g:Nat):Nat:=match w.cell? ⟨g,0,none⟩ with
 | some (.slice _ l _)=>l
 | _=>0
theorem ins_length {H:Type} (x:Lit×DataW H):∀ l:List (Lit×DataW H),(DataW.insert x l).length=l.length+1
 | []=>rfl
 | y :: l=>by
  unfold DataW.insert
  split
  ·rfl
  ·rw [List.length_cons,ins_length x l,List.length_cons]
theorem foldr_ins {H:Type}:∀ l:List (Lit×DataW H),(l.foldr DataW.insert []).length=l.length
 | []=>rfl
 | x :: l=>by rw [List.foldr_cons,ins_length,foldr_ins l,List.length_cons]
theorem addKeys:∀ (L:List Int) (acc:List Int),(acc++L).Nodup→(L.map zk).foldl addKey (acc.map zk)=(acc++L).map zk
 | [],acc,_=>by simp
 | x :: L,acc,h=>by
  rw [List.map_cons,List.foldl_cons]
  have hx:x∉acc:=fun hm=>by
   have:=List.nodup_append.1 h
   exact this.2.2 x hm x (List.mem_cons_self ..) rfl
  have e:addKey (acc.map zk) (zk x)=(acc++[x]).map zk:=by
   unfold addKey
   rw [if_neg]
   ·simp
   ·rw [List.any_map,List.any_eq_true]
    rintro ⟨y,hy,hs⟩
    have hs:(zk y).sameKey (zk x)=true:=hs
    rw [same_zk] at hs
    have:=of_decide_eq_true hs
    subst this
    exact hx hy
  rw [e,addKeys L (acc++[x]) (by simpa using h)]
  simp
theorem VS.size {w:World} {b:Nat} {L:List Int} (h:VS w b L) (hn:L.Nodup):mapSz w b=L.length:=by
 obtain ⟨es,clock,hb,F,hs,hD⟩:=h
 have h1:Maps.size (setZ L)=es.size:=by
  rw [hD]
  show (_:List _).length=_
  rw [foldr_ins,List.length_map,Array.length_toList]
 have h2:Maps.size (setZ L)=L.length:=by
  unfold setZ
  rw [size_setOf _ _ (fun x hx=>by obtain ⟨z,-,rfl⟩:=List.mem_map.1 hx;exact key_zk z)]
  have:=addKeys L [] (by simpa using hn)
  rw [show (([]:List Int).map zk)=[] from rfl] at this
  rw [this,List.length_map]
  rfl
 unfold mapSz
 rw [hb]
 show es.size=_
 omega
theorem Wkr.rows {w0:World} {n m:Nat} {w:World} {R L:List Int} (h:Wkr w0 n m w R L):rowSz w (n+1)=R.length:=by
 obtain ⟨A,c,h1,-⟩:=h.row
 unfold rowSz
 rw [Lib.cell_of_heap h1 0]
 rfl
def allAd:List Int:=(List.range 65536).map fun k:Nat=>(k:Int)
theorem allAd_mem {a:Int} (h:0≤a∧a≤65535):a∈allAd:=List.mem_map.2 ⟨a.toNat,List.mem_range.2 (by omega),by omega⟩
theorem allAd_len:allAd.length=65536:=by unfold allAd;rw [List.length_map,List.length_range]
structure Don (g:Int→Option UInt8) (L:List Int):Prop where
 nd:L.Nodup
 it:∀ a∈L,imI g a≠none
theorem Don.le {W:List Im.Cel} {L:List Int} (h:Don (gW W) L):L.length≤65536:=by
 have:=done_le (g:=gW W) (d:=allAd) (fun a ha=>allAd_mem (gW_rng ha)) h.nd h.it
 rw [allAd_len] at this
 exact this
end Go.Proofs.YtajlleeonddinaaGreatDoor
namespace Go.Proofs.YtajlleeonddinaaGreatDoor
open Go.RowKit Go.Shelf
attribute [local go_sem] Oper.semAt_some
theorem fi_wf {a:Int} (h:(Lit.int .i64 a).wf=true) : -9223372036854775808≤a∧a≤9223372036854775807:=by
 simp only [Lit.wf,Bool.and_eq_true,decide_eq_true_eq] at h
 exact h
theorem im_getle (g:Int→Option UInt8) (a:Int):((imI g a).getD itZ).C.length≤1000:=by
 cases h:imI g a with
 | none=>exact Nat.zero_le _
 | some x=>have:=im_le h;show x.C.length≤1000;omega
theorem imI_big (W:List Im.Cel) {a:Int} (h:70000<a):imI (gW W) a=none:=imI_none.2 (Classical.byContradiction fun hn=>by have:=gW_rng hn;omega)
def bytF (A:Option Addr) (xs:Str):Fr.F:=⟨fun w=>BytesAt w A xs,fun h hb=>h.below hb⟩
theorem walkFI (A:Option Addr) (cap:Nat) (rs:List Im.R) (a:Int) (ha : -9223372036854775808≤a∧a≤9223372036854775807) (w:World) (hm:rs.length≤maxLen) (hR:Im.RunsP (fun _=>True) (fun _=>True) w A rs) (hd:∀ r∈rs,r.data.length≤maxLen) (hM:MaxAt w) :
  Calls Tryz.prog 4 #[.slice A rs.length cap,.int .i64 a] w fun e w'=>e=.returned (.bool true)∧Below w.heap.size w w':=by
 have BU:=build_any A cap rs hm w hR hd
 have AL:=Lib.hid (fun w' (h:Below w.heap.size w w')=>alive14_any w' (hM.below h))
 have OW:Hid (∀ w',Below w.heap.size w w'→MaxAt w'):=fun w' h=>hM.below h
 have FW:=Lib.hid (fun w' (h:Below w.heap.size w w')=>Im.fewAll_any _ _ A cap rs hm w' (hR.below h) hd)
 obtain ⟨l,hl⟩:∃ z,rs.length=z:=⟨_,rfl⟩
 rw [hl] at BU FW ⊢
 clear hR hd hM hm hl
 go_enter Tryz.func4,Tryz.ntmps4
 go_wp2_with fail
 refine BU.mono ?_
 rintro e w1 ⟨h0,h1,hb1⟩
 have B1:=Lib.hid hb1
 cases hf:Im.fewB rs with
 | false=>
  obtain rfl:=h0 hf
  rw [hf] at FW
  have A1:=AL.out w1 B1.out
  clear BU AL h0 h1 hb1 hf OW
  go_wp2_with fail
  refine A1.mono ?_
  rintro e w2 ⟨rfl,hb2⟩
  have B2:Hid (Below w.heap.size w w2):=B1.out.trans (hb2.mono B1.out.size)
  have F2:=FW.out w2 B2.out
  clear A1 hb2 B1 FW
  go_wp2_with fail
  refine F2.mono ?_
  rintro e w3 ⟨rfl,rfl⟩
  clear F2
  go_wp2
  go_ret
  exact ⟨rfl,B2.out⟩
 | true=>
  obtain ⟨b,Aw,cw,rfl,hbz,hI,hC⟩:=h1 hf
  obtain ⟨W,hW⟩:∃ z,allW rs=z:=⟨_,rfl⟩
  rw [hW] at hI hC ⊢
  have IT:=Lib.hid (item_any14 b W a ha.1 ha.2 w1 (OW.out w1 B1.out) hI)
  have CP:=Lib.hid (fun w' (h:Below w1.heap.size w1 w')=>ritem_any14 _ Aw cw W hI.1 a ha.1 ha.2 w' (Im.CellsP.below hC h))
  have BIG:=Lib.hid (fun h=>imI_big W (a:=a) h)
  have XL0:=im_getle (gW W) a
  obtain ⟨IM,hIM⟩:∃ z,imI (gW W) a=z:=⟨_,rfl⟩
  rw [hIM] at IT CP BIG XL0
  obtain ⟨lw,hlw⟩:∃ z,W.length=z:=⟨_,rfl⟩
  rw [hlw] at CP ⊢
  clear BU h0 h1 hf hbz hI hC hW hIM hlw FW OW
  go_wp2_with fail
  refine IT.out.mono ?_
  rintro e w2 ⟨A2,c2,D2,d2,rfl,hO2,hT2,hb2⟩
  have B2:Hid (Below w.heap.size w w2):=B1.out.trans (hb2.mono B1.out.size)
  have C2:=Lib.hid hb2
  have P2:BytesAt w2 A2 (IM.getD itZ).raw∧OpsP w2 D2 (IM.getD itZ).C:=⟨TOwnB.bytesP hO2,by obtain ⟨Ac,cc,hv,hP,-⟩:=hT2.ops;injection hv with hv1;subst hv1;exact hP⟩
  obtain ⟨ok,hok⟩:∃ z,IM.isSome=z:=⟨_,rfl⟩
  obtain ⟨X,hX⟩:∃ z,IM.getD itZ=z:=⟨_,rfl⟩
  rw [hX] at P2 XL0
  have XL:=Lib.hid XL0
  have Q2:Hid (BytesAt w2 A2 X.raw∧OpsP w2 D2 X.C):=P2
  have RZ:Hid (∀ w0 e w',RetImI w0 IM e w'→∃ A c B d,e=.returned (.tuple #[.agg #[.int .i64 X.kind,.slice A X.raw.length c,.string (sB X.m),.slice B X.C.length d,.bool X.al],.bool ok])∧(BytesAt w' A X.raw∧OpsP w' B X.C)∧Below w0.heap.size w0 w'):=fun w0 e w' ⟨A,c,B,d,h1,h2,h3,h4⟩=>by
   rw [hX] at h1 h2 h3
   rw [hok] at h1
   refine ⟨A,c,B,d,h1,⟨TOwnB.bytesP h2,?_⟩,h4⟩
   obtain ⟨Ac,cc,hv,hP,-⟩:=h3.ops
   injection hv with hv1
   subst hv1
   exact hP
  have BG:Hid (70000<a→ok=false):=fun h=>by rw [← hok,BIG.out h];rfl
  rw [hX,hok]
  have SA:=Lib.hid (fun (A1 A2 B1 B2:Option Addr) c1 c2 d1 d2 w' h1 h2 h3 h4=>rsame12_any X.kind X.kind X.raw X.raw X.m X.m X.al X.al A1 A2 B1 B2 c1 c2 d1 d2 X.C X.C XL.out XL.out w' h1 h2 h3 h4)
  have EQ:Hid ((decide (X.kind=X.kind)&&decide (X.raw=X.raw)&&(decide (X.m=X.m)&&decide (X.C=X.C))&&(X.al == X.al))=true):=by
   show _=_
   cases X.al <;> simp
  rw [EQ.out] at SA
  obtain ⟨lx,hlx⟩:∃ z,X.raw.length=z:=⟨_,rfl⟩
  obtain ⟨lc,hlc⟩:∃ z,X.C.length=z:=⟨_,rfl⟩
  rw [hlx,hlc] at SA RZ ⊢
  clear IT hO2 hT2 hb2 P2 B1 XL0 hX hok BIG EQ XL hlx hlc
  go_upto_region 5 with fail
  obtain ⟨g3,w3,hg3,hw3,S3,y3,z3⟩:=Fr.box (Fr.nil w2) #[.int .i64 X.kind,.slice A2 lx c2,.string (sB X.m),.slice D2 lc d2,.bool X.al] 40
  rw [hw3,hg3]
  have B3:Hid (Below w.heap.size w w3):=B2.out.trans (y3.mono B2.out.size)
  have C3:Hid (Below w1.heap.size w1 w3):=C2.out.trans (y3.mono C2.out.size)
  have S3:Hid (Fr.St w3 [gitF g3 X.kind (.slice A2 lx c2) (sB X.m) (.slice D2 lc d2) X.al,bytF A2 X.raw,fopsF D2 X.C,Fr.bel w.heap.size w]):=⟨S3.out.1,Q2.out.1.below y3,Q2.out.2.below y3,⟨B3.out,B3.out.size⟩,trivial⟩
  clear Q2 y3 B2 C2 hw3 hg3 z3 B3
  by_cases hbig:70000<a
  ·have hok:=BG.out hbig
   subst hok
   have t1:a > 70000:=hbig
   have A3:=AL.out w3 S3.out.2.2.2.1.1
   clear hbig BG CP RZ SA AL C3
   go_wp2_with fail
   refine A3.mono ?_
   rintro e w4 ⟨rfl,hb4⟩
   have S4:=Fr.up S3 hb4
   clear A3 hb4 S3
   go_wp2
   go_ret
   exact ⟨rfl,S4.out.2.2.2.1.1⟩
  ·have t1:¬a > 70000:=hbig
   have R3:=CP.out w3 C3.out
   clear hbig BG CP
   go_wp2_with fail
   refine R3.mono ?_
   rintro e w4 hret
   obtain ⟨A4,c4,D4,d4,rfl,hQ4,hb4⟩:=RZ.out w3 e w4 hret
   have S4:=Fr.up S3 hb4
   have Q4:=Lib.hid hQ4
   clear R3 hret hQ4 hb4 S3 C3 RZ
   go_upto_region 8 with fail
   obtain ⟨g5,w5,hg5,hw5,S5,y5,z5⟩:=Fr.box S4 #[.int .i64 X.kind,.slice A4 lx c4,.string (sB X.m),.slice D4 lc d4,.bool X.al] 40
   rw [hw5,hg5]
   have S5:Hid (Fr.St w5 [gitF g5 X.kind (.slice A4 lx c4) (sB X.m) (.slice D4 lc d4) X.al,bytF A4 X.raw,fopsF D4 X.C,gitF g3 X.kind (.slice A2 lx c2) (sB X.m) (.slice D2 lc d2) X.al,bytF A2 X.raw,fopsF D2 X.C,Fr.bel w.heap.size w]):=⟨S5.out.1,Q4.out.1.below y5,Q4.out.2.below y5,S5.out.2⟩
   have A5:=AL.out w5 S5.out.2.2.2.2.2.2.1.1
   clear S4 Q4 y5 hw5 hg5 z5 AL
   go_wp2_with fail
   refine A5.mono ?_
   rintro e w6 ⟨rfl,hb6⟩
   have S6:=Fr.up S5 hb6
   clear A5 hb6 S5
   obtain ⟨i0,i1,i2,i3,i4,i5⟩:=ItAt.cells (show ItAt w6 g5 X.kind (.slice A4 lx c4) (sB X.m) (.slice D4 lc d4) X.al from S6.out.1)
   obtain ⟨j0,j1,j2,j3,j4,j5⟩:=ItAt.cells (show ItAt w6 g3 X.kind (.slice A2 lx c2) (sB X.m) (.slice D2 lc d2) X.al from S6.out.2.2.2.1)
   have M6:=SA.out A2 A4 D2 D4 c2 c4 d2 d4 w6 S6.out.2.2.2.2.1 S6.out.2.1 S6.out.2.2.2.2.2.1 S6.out.2.2.1
   have okk:(ok == ok)=true:=by cases ok <;> rfl
   clear SA
   go_wp2_with fail
   refine M6.mono ?_
   rintro e w7 ⟨rfl,hb7⟩
   have B7:Hid (Below w.heap.size w w7):=S6.out.2.2.2.2.2.2.1.1.trans (hb7.mono S6.out.2.2.2.2.2.2.1.2)
   clear M6 hb7 S6
   go_wp2
   go_ret
   exact ⟨rfl,B7.out⟩
end Go.Proofs.YtajlleeonddinaaGreatDoor
namespace Go.Proofs.YtajlleeonddinaaGreatDoor
open Go.RowKit
variable {H:Type} {enc:TypeId×Value→H}
theorem wrap_shaped {a:Assume} {C:Checked} {os:Os} {f:FuncId} {fn:Func} {s:ChangeSpec} {conds:List PathCond} {apart fresh handsOn again:Bool} {X:World→Array Value→Prop}
  (hX:∀ (w w':World) (args:Array Value),w.heap=w'.heap→X w args→X w' args)
  (own:ownKnob C.prog.godebug=none) (started:os.Started) (noInit:C.prog.inits.idxOf? f=none) (hfn:C.prog.funcs[f]?=some fn)
  (witness:∃ (w:World) (tape:Tape) (i:Input),w.os=os∧(w.forCall tape i).Shaped C.prog∧i.vars=[]∧Input.okWide C.prog (w.forCall tape i) .any w.heap.size f i∧
   ((s.pre enc C.prog fn conds apart (w.forCall tape i).memory i.args∧X (w.forCall tape i).memory i.args)∧sizedMet enc C.prog fn (OpenSpec.ofChange s) apart (w.forCall tape i).memory i.args)∧a.holds C.prog (lone (Frame.enter C.prog f i.args .normal) [] (w.forCall tape i)))
  (body:∀ (W:World) (base:Nat) (args:Array Value) (ds gs:List (DataW H)) (before:List MemPlace),
   (∀ (j:Nat) t v,fn.params[j]?=some t→args[j]?=some v→Value.okWide C.prog W .any base t v)→
   DataW.Whole enc C.prog fn.params.toList s.vars apart W args.toList ds gs before→X W args→W.ShapedOpen C.prog→
   Calls C.prog f args W fun e W'=>∃ v,e=.returned v∧s.post enc C.prog fn apart fresh handsOn again W args v W') :
  ReturnsInHanded a C os f .any (fun w args=>(s.pre enc C.prog fn conds apart w args∧X w args)∧sizedMet enc C.prog fn (OpenSpec.ofChange s) apart w args) (s.post enc C.prog fn apart fresh handsOn again):=by
 refine returnsInHanded_of_calls own started noInit witness fun w tape i _ hsh _ hok hpre _=>?_
 obtain ⟨_,_,_,g,hg,_,_,_,_,hval⟩:=hok
 cases Option.some.inj (hg.symm.trans hfn)
 obtain ⟨⟨⟨ds,gs,before,hw,_⟩,hx⟩,_⟩:=hpre
 refine (body _ w.heap.size i.args ds gs before hval (DataW.Whole.of_heap (w':=w.forCall tape i) (by rfl) hw) (hX _ _ _ (by rfl) hx) hsh).mono ?_
 rintro e W' ⟨v,rfl,hp⟩
 exact ChangeSpec.post_blind hp
theorem max_of_shape {W:World} (h:W.ShapedOpen Tryz.prog):MaxAt W:=
 cell_of_shapedOpen_int (g:=0) (t:=3) (zero:=#[.int .i64 0]) h (of_decide_eq_true (by kernel_rfl)) (by kernel_rfl) rfl (by kernel_rfl) (by kernel_rfl) Tryz.underlying3
end Go.Proofs.YtajlleeonddinaaGreatDoor
