/-
  CnN, CnP, Mixed2, CnR, CnX, CnI, CnJ, CnQ.
-/
import Derived.Test.YtajlleeonddinaaGreatDoorGAR
import Derived.Test.YtajlleeonddinaaGreatDoorGAA
import Derived.Test.YtajlleeonddinaaGreatDoorGAB
import Derived.Laws.IdiomCopy
import Derived.Laws.Externs
import Derived.Lib.Overlaps
import Derived.Lib.AppendZerosOnto
set_option linter.all false
set_option maxRecDepth 100000
set_option maxHeartbeats 4000000
namespace Go.Proofs.YtajlleeonddinaaGreatDoor
open Go.RowKit
def wL (v:Int) (L:List Tr) (j:Nat):List Tr:=(L.take j).map (wrapT v)++L.drop j
theorem wL_end (v:Int) (L:List Tr):wL v L L.length=L.map (wrapT v):=by unfold wL;rw [List.take_length,List.drop_length,List.append_nil]
theorem wL_len (v:Int) (L:List Tr) (j:Nat):(wL v L j).length=L.length:=by
 unfold wL
 rw [List.length_append,List.length_map,← List.length_append,List.take_append_drop]
theorem wL_at (v:Int) (L:List Tr) (j:Nat) (h:j<L.length) (h':j<(wL v L j).length):(wL v L j)[j]=L[j]:=by
 have e:(wL v L j)[j]?=some L[j]:=by
  unfold wL
  rw [List.getElem?_append_right (by rw [List.length_map,List.length_take];omega),List.getElem?_drop,List.length_map,List.length_take,show j+(j - min j L.length)=j by omega]
  exact List.getElem?_eq_getElem h
 rw [List.getElem?_eq_getElem h'] at e
 exact Option.some.inj e
theorem wL_set (v:Int) (L:List Tr) (j:Nat) (h:j<L.length):(wL v L j).set j (wrapT v L[j])=wL v L (j+1):=by
 unfold wL
 rw [List.take_succ_eq_append_getElem h,List.map_append,List.append_assoc,List.set_append_right _ _ (by rw [List.length_map,List.length_take];omega)]
 congr 1
 rw [List.drop_eq_getElem_cons h,List.length_map,List.length_take,show j - min j L.length=0 by omega]
 rfl
theorem wL_no (v:Int) (L:List Tr) (j:Nat) (h:j<L.length) (e:wrapT v L[j]=L[j]):wL v L j=wL v L (j+1):=by
 have h':j<(wL v L j).length:=by rw [wL_len];exact h
 rw [← wL_set v L j h,e,← wL_at v L j h h',List.set_getElem_self]
theorem wL_yes (v:Int) (L:List Tr) (j:Nat) (h:j<L.length) (hc:L[j].1=6∧-(v / 2)≤L[j].2.2∧L[j].2.2<0):(cellsT (wL v L j)).set (j*3+2) (.int .i64 (L[j].2.2+v))=cellsT (wL v L (j+1)):=by
 have h':j<(wL v L j).length:=by rw [wL_len];exact h
 have e:wrapT v L[j]=(L[j].1,L[j].2.1,L[j].2.2+v):=by unfold wrapT;rw [if_pos hc]
 rw [← wL_set v L j h,e]
 exact (cells_set _ _ _ _ _ h' (by rw [wL_at v L j h h']) (by rw [wL_at v L j h h'])).symm
theorem wL_not (v:Int) (L:List Tr) (j:Nat) (h:j<L.length) (hc:¬(L[j].1=6∧-(v / 2)≤L[j].2.2∧L[j].2.2<0)):wL v L j=wL v L (j+1):=
 wL_no v L j h (by unfold wrapT;rw [if_neg hc])
theorem widL_cases (c:Nat) (L:List Tr):widL c L=0∨widL c L=1∨widL c L=2:=by
 unfold widL
 split
 ·exact .inl rfl
 ·split
  ·exact .inr (.inr rfl)
  ·split
   ·exact .inr (.inr rfl)
   ·exact .inr (.inl rfl)
theorem wrap_any (s:ByteArray) (B bd:Nat) (hB:B≤bd) (v:Value) (L:List Tr) (hL:L.length≤1000) (w:World) (hD:Dr w bd s v) (hO:OwnS w B v L) :
  Calls Tryz.prog 103 #[.pointer (some ⟨bd,0,none⟩)] w fun e w'=>e=.returned (.tuple #[])∧Dr w' bd s v∧OwnS w' B v (L.map (wrapT (valW (widL (opc s) L))))∧Below B w w':=by
 obtain ⟨A,cap,rfl,hP,hlc,hcm⟩:=hO.ops
 have WD:=Lib.hid (width_any s A cap L hL w hP)
 obtain ⟨d0,d1,-,-⟩:=hD.cells
 have D0:=Lib.hid hD
 have O0:=Lib.hid hO
 have YES:=fun v=>Lib.hid (wL_yes v L)
 have NOT:=fun v=>Lib.hid (wL_not v L)
 have WE:=fun v=>Lib.hid (wL_end v L)
 have AT:=fun v=>Lib.hid (wL_at v L)
 have hwl:=fun v j=>wL_len v L j
 obtain ⟨n,hn⟩:∃ n,L.length=n:=⟨_,rfl⟩
 have HN:=Lib.hid hn
 rw [hn] at D0 O0 WD d1 WE hwl hlc hL ⊢
 have SB:Hid (bd<w.heap.size):=hD.lt
 clear hD hO hP hn
 obtain ⟨x,hx⟩:∃ x,widL (opc s) L=x:=⟨_,rfl⟩
 have hcs:=widL_cases (opc s) L
 rw [hx] at WD hcs ⊢
 clear hx
 rcases hcs with rfl | rfl | rfl
 ·have hvw:valW 0=0:=rfl
  rw [hvw]
  clear hvw
  go_enter Tryz.func103,Tryz.ntmps103
  go_wp2_with fail
  refine WD.out.mono ?_
  rintro e w1 ⟨rfl,h1⟩
  have B1:Hid (Below B w w1):=h1.mono (Nat.le_trans hB (Nat.le_of_lt SB.out))
  have D1:=Lib.hid (D0.out.below h1)
  have O1:=Lib.hid (O0.out.below h1)
  clear h1 D0 O0 d0 d1 WD
  obtain ⟨d0,d1,-,-⟩:=D1.out.cells
  go_wp2
  clear d0 d1
  go_loopw [20] (fun i wr=>∃ j:Nat,j≤n∧i=.int .i64 j∧Hid (Dr wr bd s (.slice A n cap))∧Hid (OwnS wr B (.slice A n cap) (wL 0 L j))∧Hid (Below B w wr)) (fun i _=>n - (intOf i).toNat)
  case atStart=>exact ⟨0,Nat.zero_le _,rfl,D1.out,O1.out,B1.out⟩
  case round=>
   clear D1 O1 B1
   obtain ⟨j,hj,rfl,D1,O1,B1⟩:=hrel
   by_cases hlt:j<n
   ·have hj1:j<L.length:=by have:=HN.out;omega
    have hj2:j<(wL 0 L j).length:=by rw [hwl];exact hlt
    obtain ⟨g,off,cap',hA,-,-,hR⟩:=O1.out.nonnil (by omega)
    simp only [Value.slice.injEq] at hA
    obtain ⟨rfl,-,-⟩:=hA
    obtain ⟨p0,p1,p2⟩:=hR.at_ j hj2
    rw [(AT 0).out j hj1 hj2] at p0 p1 p2
    have hgb:=hR.apart D1.out
    have hgl:=hR.lt
    have fz:=hR.frozen (off+j*3+2)
    have Y:=Lib.hid ((YES 0).out j hj1)
    have N:=Lib.hid ((NOT 0).out j hj1)
    obtain ⟨⟨y0,y1,y2⟩,hy⟩:∃ y,L[j]=y:=⟨_,rfl⟩
    rw [hy] at p0 p1 p2 Y N
    simp only at p0 p1 p2 Y N
    obtain ⟨d0,d1,-,-⟩:=D1.out.cells
    have D2:=fun o=>Lib.hid (D1.out.alloc o)
    have B2:=fun o=>Lib.hid (B1.out.alloc (Nat.le_trans (Nat.le_trans hB (Nat.le_of_lt SB.out)) B1.out.size) o)
    have hgB:Hid (B≤g):=hR.1
    have hBr:Hid (B≤wr.heap.size):=Nat.le_trans (Nat.le_trans hB (Nat.le_of_lt SB.out)) B1.out.size
    have hR:=Lib.hid hR
    have hne1:g≠wr.heap.size:=by omega
    have hne2:bd≠wr.heap.size:=by have:=D1.out.lt;omega
    have O2:∀ o,Hid (OwnS (wr.alloc o) B (.slice (some ⟨g,off,none⟩) n cap) (wL 0 L j)):=fun o=>O1.out.alloc o
    clear hj1 hj2 hy O1
    by_cases k6:y0=6
    ·by_cases a1:0≤y2
     ·have hx:=N.out fun q=>absurd q.2.2 (by omega)
      rw [hx] at O2
      subst k6
      clear hx Y N D1 B1 hR
      go_wp2
      go_roundw
      case rel=>exact ⟨j+1,by omega,by go_num,(D2 _).out,(O2 _).out,(B2 _).out⟩
      case measure=>simp [intOf];omega
     ·have hx:=N.out fun q=>absurd q.2.1 (by omega)
      rw [hx] at O2
      subst k6
      clear hx Y N D1 B1 hR
      go_wp2
      go_roundw
      case rel=>exact ⟨j+1,by omega,by go_num,(D2 _).out,(O2 _).out,(B2 _).out⟩
      case measure=>simp [intOf];omega
    ·have hx:=N.out fun q=>k6 q.1
     rw [hx] at O2
     clear hx Y N D1 B1 hR
     go_wp2
     go_roundw
     case rel=>exact ⟨j+1,by omega,by go_num,(D2 _).out,(O2 _).out,(B2 _).out⟩
     case measure=>simp [intOf];omega
   ·have hjn:j=n:=by omega
    subst hjn
    rw [(WE 0).out] at O1
    go_wp2
    refine bodyPost_end (v:=.tuple #[]) ?_ rfl ⟨rfl,D1.out,O1.out,B1.out⟩
    simp [results,Tryz.results103,go_sem]
 ·have hvw:valW 1=256:=rfl
  rw [hvw]
  clear hvw
  go_enter Tryz.func103,Tryz.ntmps103
  go_wp2_with fail
  refine WD.out.mono ?_
  rintro e w1 ⟨rfl,h1⟩
  have B1:Hid (Below B w w1):=h1.mono (Nat.le_trans hB (Nat.le_of_lt SB.out))
  have D1:=Lib.hid (D0.out.below h1)
  have O1:=Lib.hid (O0.out.below h1)
  clear h1 D0 O0 d0 d1 WD
  obtain ⟨d0,d1,-,-⟩:=D1.out.cells
  go_wp2
  clear d0 d1
  go_loopw [20] (fun i wr=>∃ j:Nat,j≤n∧i=.int .i64 j∧Hid (Dr wr bd s (.slice A n cap))∧Hid (OwnS wr B (.slice A n cap) (wL 256 L j))∧Hid (Below B w wr)) (fun i _=>n - (intOf i).toNat)
  case atStart=>exact ⟨0,Nat.zero_le _,rfl,D1.out,O1.out,B1.out⟩
  case round=>
   clear D1 O1 B1
   obtain ⟨j,hj,rfl,D1,O1,B1⟩:=hrel
   by_cases hlt:j<n
   ·have hj1:j<L.length:=by have:=HN.out;omega
    have hj2:j<(wL 256 L j).length:=by rw [hwl];exact hlt
    obtain ⟨g,off,cap',hA,-,-,hR⟩:=O1.out.nonnil (by omega)
    simp only [Value.slice.injEq] at hA
    obtain ⟨rfl,-,-⟩:=hA
    obtain ⟨p0,p1,p2⟩:=hR.at_ j hj2
    rw [(AT 256).out j hj1 hj2] at p0 p1 p2
    have hgb:=hR.apart D1.out
    have hgl:=hR.lt
    have fz:=hR.frozen (off+j*3+2)
    have Y:=Lib.hid ((YES 256).out j hj1)
    have N:=Lib.hid ((NOT 256).out j hj1)
    obtain ⟨⟨y0,y1,y2⟩,hy⟩:∃ y,L[j]=y:=⟨_,rfl⟩
    rw [hy] at p0 p1 p2 Y N
    simp only at p0 p1 p2 Y N
    obtain ⟨d0,d1,-,-⟩:=D1.out.cells
    have D2:=fun o=>Lib.hid (D1.out.alloc o)
    have B2:=fun o=>Lib.hid (B1.out.alloc (Nat.le_trans (Nat.le_trans hB (Nat.le_of_lt SB.out)) B1.out.size) o)
    have hgB:Hid (B≤g):=hR.1
    have hBr:Hid (B≤wr.heap.size):=Nat.le_trans (Nat.le_trans hB (Nat.le_of_lt SB.out)) B1.out.size
    have hR:=Lib.hid hR
    have hne1:g≠wr.heap.size:=by omega
    have hne2:bd≠wr.heap.size:=by have:=D1.out.lt;omega
    have O2:∀ o,Hid (OwnS (wr.alloc o) B (.slice (some ⟨g,off,none⟩) n cap) (wL 256 L j)):=fun o=>O1.out.alloc o
    clear hj1 hj2 hy O1
    by_cases k6:y0=6
    ·by_cases a1 : -128≤y2
     ·by_cases a2:y2<0
      ·have hx:=Y.out ⟨k6,by omega,a2⟩
       have R3:∀ o,Hid (OwnS ((wr.setCell ⟨g,off+j*3+2,none⟩ (.int .i64 (y2+256))).alloc o) B (.slice (some ⟨g,off,none⟩) n cap) (wL 256 L (j+1))):=fun o=>by
        have h3:=hR.out.put (j*3+2) _ hx
        rw [← Nat.add_assoc] at h3
        exact OwnS.alloc (.inr ⟨g,off,cap,by rw [hwl],by rw [hwl];exact hlc,hcm,h3⟩) o
       have D3:∀ o,Hid (Dr ((wr.setCell ⟨g,off+j*3+2,none⟩ (.int .i64 (y2+256))).alloc o) bd s (.slice (some ⟨g,off,none⟩) n cap)):=fun o=>(D1.out.other hgb _ _).alloc o
       have B3:∀ o,Hid (Below B w ((wr.setCell ⟨g,off+j*3+2,none⟩ (.int .i64 (y2+256))).alloc o)):=fun o=>(B1.out.setCell (p:=⟨g,off+j*3+2,none⟩) hgB.out _).alloc (by simp;exact hBr.out) o
       subst k6
       have e1:=(D2 (.cells #[.int .i64 6,.int .i64 y1,.int .i64 y2] 55)).out.cells.2.1
       have e2:(wr.alloc (.cells #[.int .i64 6,.int .i64 y1,.int .i64 y2] 55)).cell? ⟨g,off+j*3+2,none⟩=some (.int .i64 y2):=(World.cell?_alloc_lt wr _ _ hgl).trans p2
       clear hx Y N O2 D2 B2 D1 B1 hR
       go_wp2
       go_roundw
       case rel=>exact ⟨j+1,by omega,by go_num,(D3 _).out,(R3 _).out,(B3 _).out⟩
       case measure=>simp [intOf];omega
      ·have hx:=N.out fun q=>absurd q.2.2 (by omega)
       rw [hx] at O2
       subst k6
       clear hx Y N D1 B1 hR
       go_wp2
       go_roundw
       case rel=>exact ⟨j+1,by omega,by go_num,(D2 _).out,(O2 _).out,(B2 _).out⟩
       case measure=>simp [intOf];omega
     ·have hx:=N.out fun q=>absurd q.2.1 (by omega)
      rw [hx] at O2
      subst k6
      clear hx Y N D1 B1 hR
      go_wp2
      go_roundw
      case rel=>exact ⟨j+1,by omega,by go_num,(D2 _).out,(O2 _).out,(B2 _).out⟩
      case measure=>simp [intOf];omega
    ·have hx:=N.out fun q=>k6 q.1
     rw [hx] at O2
     clear hx Y N D1 B1 hR
     go_wp2
     go_roundw
     case rel=>exact ⟨j+1,by omega,by go_num,(D2 _).out,(O2 _).out,(B2 _).out⟩
     case measure=>simp [intOf];omega
   ·have hjn:j=n:=by omega
    subst hjn
    rw [(WE 256).out] at O1
    go_wp2
    refine bodyPost_end (v:=.tuple #[]) ?_ rfl ⟨rfl,D1.out,O1.out,B1.out⟩
    simp [results,Tryz.results103,go_sem]
 ·have hvw:valW 2=65536:=rfl
  rw [hvw]
  clear hvw
  go_enter Tryz.func103,Tryz.ntmps103
  go_wp2_with fail
  refine WD.out.mono ?_
  rintro e w1 ⟨rfl,h1⟩
  have B1:Hid (Below B w w1):=h1.mono (Nat.le_trans hB (Nat.le_of_lt SB.out))
  have D1:=Lib.hid (D0.out.below h1)
  have O1:=Lib.hid (O0.out.below h1)
  clear h1 D0 O0 d0 d1 WD
  obtain ⟨d0,d1,-,-⟩:=D1.out.cells
  go_wp2
  clear d0 d1
  go_loopw [20] (fun i wr=>∃ j:Nat,j≤n∧i=.int .i64 j∧Hid (Dr wr bd s (.slice A n cap))∧Hid (OwnS wr B (.slice A n cap) (wL 65536 L j))∧Hid (Below B w wr)) (fun i _=>n - (intOf i).toNat)
  case atStart=>exact ⟨0,Nat.zero_le _,rfl,D1.out,O1.out,B1.out⟩
  case round=>
   clear D1 O1 B1
   obtain ⟨j,hj,rfl,D1,O1,B1⟩:=hrel
   by_cases hlt:j<n
   ·have hj1:j<L.length:=by have:=HN.out;omega
    have hj2:j<(wL 65536 L j).length:=by rw [hwl];exact hlt
    obtain ⟨g,off,cap',hA,-,-,hR⟩:=O1.out.nonnil (by omega)
    simp only [Value.slice.injEq] at hA
    obtain ⟨rfl,-,-⟩:=hA
    obtain ⟨p0,p1,p2⟩:=hR.at_ j hj2
    rw [(AT 65536).out j hj1 hj2] at p0 p1 p2
    have hgb:=hR.apart D1.out
    have hgl:=hR.lt
    have fz:=hR.frozen (off+j*3+2)
    have Y:=Lib.hid ((YES 65536).out j hj1)
    have N:=Lib.hid ((NOT 65536).out j hj1)
    obtain ⟨⟨y0,y1,y2⟩,hy⟩:∃ y,L[j]=y:=⟨_,rfl⟩
    rw [hy] at p0 p1 p2 Y N
    simp only at p0 p1 p2 Y N
    obtain ⟨d0,d1,-,-⟩:=D1.out.cells
    have D2:=fun o=>Lib.hid (D1.out.alloc o)
    have B2:=fun o=>Lib.hid (B1.out.alloc (Nat.le_trans (Nat.le_trans hB (Nat.le_of_lt SB.out)) B1.out.size) o)
    have hgB:Hid (B≤g):=hR.1
    have hBr:Hid (B≤wr.heap.size):=Nat.le_trans (Nat.le_trans hB (Nat.le_of_lt SB.out)) B1.out.size
    have hR:=Lib.hid hR
    have hne1:g≠wr.heap.size:=by omega
    have hne2:bd≠wr.heap.size:=by have:=D1.out.lt;omega
    have O2:∀ o,Hid (OwnS (wr.alloc o) B (.slice (some ⟨g,off,none⟩) n cap) (wL 65536 L j)):=fun o=>O1.out.alloc o
    clear hj1 hj2 hy O1
    by_cases k6:y0=6
    ·by_cases a1 : -32768≤y2
     ·by_cases a2:y2<0
      ·have hx:=Y.out ⟨k6,by omega,a2⟩
       have R3:∀ o,Hid (OwnS ((wr.setCell ⟨g,off+j*3+2,none⟩ (.int .i64 (y2+65536))).alloc o) B (.slice (some ⟨g,off,none⟩) n cap) (wL 65536 L (j+1))):=fun o=>by
        have h3:=hR.out.put (j*3+2) _ hx
        rw [← Nat.add_assoc] at h3
        exact OwnS.alloc (.inr ⟨g,off,cap,by rw [hwl],by rw [hwl];exact hlc,hcm,h3⟩) o
       have D3:∀ o,Hid (Dr ((wr.setCell ⟨g,off+j*3+2,none⟩ (.int .i64 (y2+65536))).alloc o) bd s (.slice (some ⟨g,off,none⟩) n cap)):=fun o=>(D1.out.other hgb _ _).alloc o
       have B3:∀ o,Hid (Below B w ((wr.setCell ⟨g,off+j*3+2,none⟩ (.int .i64 (y2+65536))).alloc o)):=fun o=>(B1.out.setCell (p:=⟨g,off+j*3+2,none⟩) hgB.out _).alloc (by simp;exact hBr.out) o
       subst k6
       have e1:=(D2 (.cells #[.int .i64 6,.int .i64 y1,.int .i64 y2] 55)).out.cells.2.1
       have e2:(wr.alloc (.cells #[.int .i64 6,.int .i64 y1,.int .i64 y2] 55)).cell? ⟨g,off+j*3+2,none⟩=some (.int .i64 y2):=(World.cell?_alloc_lt wr _ _ hgl).trans p2
       clear hx Y N O2 D2 B2 D1 B1 hR
       go_wp2
       go_roundw
       case rel=>exact ⟨j+1,by omega,by go_num,(D3 _).out,(R3 _).out,(B3 _).out⟩
       case measure=>simp [intOf];omega
      ·have hx:=N.out fun q=>absurd q.2.2 (by omega)
       rw [hx] at O2
       subst k6
       clear hx Y N D1 B1 hR
       go_wp2
       go_roundw
       case rel=>exact ⟨j+1,by omega,by go_num,(D2 _).out,(O2 _).out,(B2 _).out⟩
       case measure=>simp [intOf];omega
     ·have hx:=N.out fun q=>absurd q.2.1 (by omega)
      rw [hx] at O2
      subst k6
      clear hx Y N D1 B1 hR
      go_wp2
      go_roundw
      case rel=>exact ⟨j+1,by omega,by go_num,(D2 _).out,(O2 _).out,(B2 _).out⟩
      case measure=>simp [intOf];omega
    ·have hx:=N.out fun q=>k6 q.1
     rw [hx] at O2
     clear hx Y N D1 B1 hR
     go_wp2
     go_roundw
     case rel=>exact ⟨j+1,by omega,by go_num,(D2 _).out,(O2 _).out,(B2 _).out⟩
     case measure=>simp [intOf];omega
   ·have hjn:j=n:=by omega
    subst hjn
    rw [(WE 65536).out] at O1
    go_wp2
    refine bodyPost_end (v:=.tuple #[]) ?_ rfl ⟨rfl,D1.out,O1.out,B1.out⟩
    simp [results,Tryz.results103,go_sem]
end Go.Proofs.YtajlleeonddinaaGreatDoor
namespace Go.Proofs.YtajlleeonddinaaGreatDoor
open Go.RowKit
theorem acc_any (w:World):Calls Tryz.prog 137 #[] w fun e w'=>e=.returned (.agg #[.int .i64 1,.int .i64 7,.int .i64 0])∧Below w.heap.size w w':=by
 have B0:∀ o,Hid (Below w.heap.size w (w.alloc o)):=fun o=>(Below.refl _ _).alloc (Nat.le_refl _) _
 go_enter Tryz.func137,Tryz.ntmps137
 go_wp2
 refine bodyPost_ret (v:=.agg #[.int .i64 1,.int .i64 7,.int .i64 0]) ?_ rfl ⟨rfl,(B0 _).out⟩
 simp [results,Tryz.results137,go_sem]
theorem canpair_any (r:Int) (w:World):Calls Tryz.prog 140 #[.int .i64 r] w fun e w'=>e=.returned (.agg #[.int .i64 3,.int .i64 r,.int .i64 0])∧Below w.heap.size w w':=by
 have B0:∀ o,Hid (Below w.heap.size w (w.alloc o)):=fun o=>(Below.refl _ _).alloc (Nat.le_refl _) _
 go_enter Tryz.func140,Tryz.ntmps140
 go_wp2
 refine bodyPost_ret (v:=.agg #[.int .i64 3,.int .i64 r,.int .i64 0]) ?_ rfl ⟨rfl,(B0 _).out⟩
 simp [results,Tryz.results140,go_sem]
end Go.Proofs.YtajlleeonddinaaGreatDoor
namespace Go.Mixed2
open Go Go.Mixed
section
variable {P:Program} {ops:Array Oper} {md:Region.Mode}
def CS (s:Nat) (C:World→Prop) (listed:Array Bool) (w:World):Prop:=listed.getD s true=false→C w
def wpAnyC (P:Program) (md:Region.Mode) (ops:Array Oper) (n s:Nat) (C:World→Prop) (L:Array Bool→Act→World→Prop):Nat→Array Bool→Act→World→Prop
 | 0,listed,a,w=>CS s C listed w∧L listed a w
 | f+1,listed,a,w=>CS s C listed w∧Region.ready md ops listed≠[]∧∀ i∈Region.ready md ops listed,i<n∧wpOp P ops QF i (wpAnyC P md ops n s C L f (listed.setIfInBounds i true)) a w
theorem wpAnyC_C {n s:Nat} {C:World→Prop} {L:Array Bool→Act→World→Prop} {f:Nat} {listed:Array Bool} {a:Act} {w:World} (h:wpAnyC P md ops n s C L f listed a w):CS s C listed w:=by
 cases f <;> exact h.1
theorem wpAny_of_headC {n g s:Nat} {C:World→Prop} {L:Array Bool→Act→World→Prop} {Q':Exit→Act→World→Prop} (hL:∀ listed a w,L listed a w→wpAny P md ops Q' g listed a w) :
  ∀ (f:Nat) (listed:Array Bool) (a:Act) (w:World),wpAnyC P md ops n s C L f listed a w→wpAny P md ops Q' (f+g) listed a w
 | 0,listed,a,w,h=>by rw [Nat.zero_add];exact hL _ _ _ h.2
 | f+1,listed,a,w,h=>by
  rw [show f+1+g=(f+g)+1 by omega]
  exact ⟨fun h0=>absurd h0 h.2.1,fun i hi=>wpOp_QF (fun a' w' h'=>wpAny_of_headC hL f _ a' w' h') (h.2.2 i hi).2⟩
theorem wpAnyC_first {C D:World→Prop} {n i s:Nat} {oi:Oper} {v:Value} {L:Array Bool→Act→World→Prop} (hi:ops[i]?=some oi) (hsel:∀ (j:Nat) (o:Oper) cs b,ops[j]?=some o→o.op≠.select cs b)
  (hs:Region.sinkB md ops n=true) (hc:Region.chainB md ops n=true) (hn:n<ops.size) (hin:i<n) (his:i≠s)
  (hD:∀ listed w,HeadInv md ops n listed→listed.getD i true=false→CS s C listed w→D w)
  (hdone:∀ listed a w,L listed a w→∀ j∈Region.ready md ops listed,n≤j) :
  ∀ (f:Nat) (listed:Array Bool) (a:Act) (w:World),HeadInv md ops n listed→
   (∀ j oj,ops[j]?=some oj→j≠i→listed.getD j true=false→(∀ e∈oj.after,Region.binds md e=true→e.on≠i)→oi.apart ops oj=true)→
   i∈Region.ready md ops listed→Pure P ops D oi v a→CS s C listed w→
   wpAnyC P md ops n s C L f (listed.setIfInBounds i true) (a.put oi.dst v) w→wpAnyC P md ops n s C L (f+1) listed a w:=by
 intro f
 induction f with
 | zero=>
  intro listed a w inv _ hr hy hCw H
  have hun:=(mem_ready.1 hr).1
  refine ⟨hCw,fun h=>(by rw [h] at hr;cases hr),fun j hj=>?_⟩
  have hjn:j<n:=by
   rcases Nat.lt_or_ge j n with h | h
   ·exact h
   ·exact absurd hj (tail_waits hs hc hn inv _ i rfl hin hun j h)
  refine ⟨hjn,?_⟩
  by_cases hji:j=i
  ·subst hji;exact hy.wpOp hi (hD _ _ inv hun hCw) H
  ·have:=hdone _ _ _ H.2 j (ready_mono hj hji)
   omega
 | succ f ih=>
  intro listed a w inv hfree hr hy hCw H
  have hun:=(mem_ready.1 hr).1
  refine ⟨hCw,fun h=>(by rw [h] at hr;cases hr),fun j hj=>?_⟩
  have hjn:j<n:=by
   rcases Nat.lt_or_ge j n with h | h
   ·exact h
   ·exact absurd hj (tail_waits hs hc hn inv _ i rfl hin hun j h)
  refine ⟨hjn,?_⟩
  by_cases hji:j=i
  ·subst hji;exact hy.wpOp hi (hD _ _ inv hun hCw) H
  ·have h1:=(H.2.2 j (ready_mono hj hji)).2
   obtain ⟨hjun,oj,hoj,hall⟩:=mem_ready.1 hj
   have hnot:∀ e∈oj.after,Region.binds md e=true→e.on≠i:=fun e he hb heq=>by
    have h1:=hall e he hb
    rw [heq,getD_both hun] at h1
    cases h1
   have h2:=Mixed.wpOp_put hoj (hfree j oj hoj hji hjun hnot) (fun cs b=>hsel i oi cs b hi) (fun cs b=>hsel j oj cs b hoj) hy h1
   have hfree':∀ k ok,ops[k]?=some ok→k≠i→(listed.setIfInBounds j true).getD k true=false→
     (∀ e∈ok.after,Region.binds md e=true→e.on≠i)→oi.apart ops ok=true:=fun k ok hk hki hun hno=>by
    refine hfree k ok hk hki ?_ hno
    by_cases hjk:j=k
    ·subst hjk;exact hjun
    ·rw [getD_set_ne true hjk] at hun;exact hun
   refine wpOp_QF (fun a' w' h3=>?_) h2
   obtain ⟨h3,h4⟩:=h3
   rw [Array.setIfInBounds_comm _ _ (fun e=>hji e.symm)] at h4
   have hi':=ready_mono hr (Ne.symm hji)
   refine ih (listed.setIfInBounds j true) a' w' (inv.set hj hjn) hfree' hi' h3 (fun hsl=>?_) h4
   have h5:=wpAnyC_C h4
   refine h5 ?_
   rw [getD_set_ne true his]
   exact hsl
def ordB (md:Region.Mode) (ops:Array Oper) (n g s:Nat):List (Nat×Nat)→Array Bool→Bool
 | [],listed=>Region.seqB md ops g n listed
 | (k,0) :: r,listed=>(Region.ready md ops listed).contains k&&decide (k<n)&&decide (k≠s)&&Region.waitsFor md ops s k&&Region.free md ops listed k&&ordB md ops n g s r (listed.setIfInBounds k true)
 | (k,1) :: r,listed=>(Region.ready md ops listed).contains k&&decide (k<n)&&decide (k≠s)&&Region.free md ops listed k&&ordB md ops n g s r (listed.setIfInBounds k true)
 | (k,_) :: r,listed=>decide (Region.ready md ops listed=[k])&&decide (k<n)&&ordB md ops n g s r (listed.setIfInBounds k true)
def mixedB (md:Region.Mode) (ops:Array Oper) (n s:Nat) (ord:List (Nat×Nat)):Bool:=
 Region.noSelect ops&&decide (n<ops.size)&&decide (ord.length+(ops.size - n)=ops.size)&&Region.sinkB md ops n&&Region.chainB md ops n&&ordB md ops n (ops.size - n) s ord (Array.replicate ops.size false)
def wpMix (P:Program) (ops:Array Oper) (s:Nat) (C:World→Prop) (T:Act→World→Prop):Bool→List (Nat×Nat)→Act→World→Prop
 | _,[],a,w=>T a w
 | sw,(k,0) :: r,a,w=>match ops[k]? with
  | none=>False
  | some o=>∃ v,Pure P ops C o v a∧wpMix P ops s C T sw r (a.put o.dst v) w
 | sw,(k,1) :: r,a,w=>match ops[k]? with
  | none=>False
  | some o=>∃ v,Pure P ops (fun _=>True) o v a∧wpMix P ops s C T sw r (a.put o.dst v) w
 | sw,(k,_) :: r,a,w=>wpOp P ops QF k (fun a' w'=>((sw||decide (k=s))=false→C w')∧wpMix P ops s C T (sw||decide (k=s)) r a' w') a w
theorem head_waits {n s k:Nat} {listed:Array Bool} (inv:HeadInv md ops n listed) (hw:Region.waitsFor md ops s k=true) (hk:listed.getD k true=false) (hss:s<listed.size):listed.getD s true=false:=by
 obtain ⟨os,hos,e,he,hb,hon⟩:=Region.waitsFor_spec hw
 cases hl:listed.getD s false with
 | true=>
  have:=inv.closed s os hos hl e he hb
  rw [hon,getD_both hk] at this
  cases this
 | false=>exact getD_in hss hl
theorem wpAnyC_ord {C:World→Prop} {n g s:Nat} {T:Act→World→Prop} (hsel:Region.noSelect ops=true) (hs:Region.sinkB md ops n=true) (hc:Region.chainB md ops n=true) (hn:n<ops.size) :
  ∀ (ord:List (Nat×Nat)) (sw:Bool) (listed:Array Bool) (a:Act) (w:World),HeadInv md ops n listed→(sw=true→listed.getD s true=true)→ordB md ops n g s ord listed=true→CS s C listed w→wpMix P ops s C T sw ord a w→
  wpAnyC P md ops n s C (fun listed' a' w'=>Region.seqB md ops g n listed'=true∧T a' w') ord.length listed a w
 | [],sw,listed,a,w,_,_,hB,hC,h=>⟨hC,hB,h⟩
 | (k,0) :: r,sw,listed,a,w,inv,hsw,hB,hC,h=>by
  simp only [ordB,Bool.and_eq_true,decide_eq_true_eq] at hB
  obtain ⟨⟨⟨⟨⟨hr,hk⟩,hks⟩,hws⟩,hf⟩,hB'⟩:=hB
  have hr':k∈Region.ready md ops listed:=by simpa using hr
  simp only [wpMix] at h
  cases ho:ops[k]? with
  | none=>rw [ho] at h;exact h.elim
  | some o=>
   rw [ho] at h
   obtain ⟨v,hv,hK⟩:=h
   refine wpAnyC_first ho (Region.noSelect_spec hsel) hs hc hn hk hks (fun listed w inv hun hCS=>hCS (head_waits inv hws hun ?_)) (fun listed' a' w' hL=>seqB_ready hL.1) r.length listed a w inv (Region.free_spec ho hf) hr' hv hC
    (wpAnyC_ord hsel hs hc hn r sw _ _ w (inv.set hr' hk) (fun h=>?_) hB' (fun h=>hC ?_) hK)
   ·obtain ⟨os,hos,_⟩:=Region.waitsFor_spec hws
    rw [inv.size]
    exact (Array.getElem?_eq_some_iff.1 hos).1
   ·rw [getD_set_ne true hks];exact hsw h
   ·rw [getD_set_ne true hks] at h;exact h
 | (k,1) :: r,sw,listed,a,w,inv,hsw,hB,hC,h=>by
  simp only [ordB,Bool.and_eq_true,decide_eq_true_eq] at hB
  obtain ⟨⟨⟨⟨hr,hk⟩,hks⟩,hf⟩,hB'⟩:=hB
  have hr':k∈Region.ready md ops listed:=by simpa using hr
  simp only [wpMix] at h
  cases ho:ops[k]? with
  | none=>rw [ho] at h;exact h.elim
  | some o=>
   rw [ho] at h
   obtain ⟨v,hv,hK⟩:=h
   refine wpAnyC_first ho (Region.noSelect_spec hsel) hs hc hn hk hks (fun listed w inv hun hCS=>trivial) (fun listed' a' w' hL=>seqB_ready hL.1) r.length listed a w inv (Region.free_spec ho hf) hr' hv hC
    (wpAnyC_ord hsel hs hc hn r sw _ _ w (inv.set hr' hk) (fun h=>?_) hB' (fun h=>hC ?_) hK)
   ·rw [getD_set_ne true hks];exact hsw h
   ·rw [getD_set_ne true hks] at h;exact h
 | (k,m+2) :: r,sw,listed,a,w,inv,hsw,hB,hC,h=>by
  simp only [ordB,Bool.and_eq_true,decide_eq_true_eq] at hB
  obtain ⟨⟨hr,hk⟩,hB'⟩:=hB
  simp only [wpMix] at h
  have hne:Region.ready md ops listed≠[]:=by rw [hr];exact List.cons_ne_nil _ _
  refine ⟨hC,hne,fun i hi=>?_⟩
  rw [hr] at hi
  have hik:i=k:=by simpa using hi
  subst hik
  have hks:i<listed.size:=by rw [inv.size];omega
  refine ⟨hk,wpOp_QF (fun a' w' h'=>?_) h⟩
  refine wpAnyC_ord hsel hs hc hn r _ _ a' w' (inv.set (by rw [hr];exact List.mem_singleton.2 rfl) hk) (fun h=>?_) hB' (fun hsl=>h'.1 ?_) h'.2
  ·by_cases e:i=s
   ·subst e;simp [hks]
   ·rw [getD_set_ne true e]
    simp only [decide_eq_false e,Bool.or_false] at h
    exact hsw h
  ·by_cases e:i=s
   ·subst e;simp [hks] at hsl
   ·rw [getD_set_ne true e] at hsl
    cases sw with
    | true=>rw [hsw rfl] at hsl;cases hsl
    | false=>simp [e]
theorem wp_region_mixed {id:Nat} {Q:Exit→Act→World→Prop} {a:Act} {w:World} {l:List Oper} (C:World→Prop) (n s:Nat) (ord:List (Nat×Nat)) (hm:P.follows .mixedOrders=true) (hB:mixedB .any l.toArray n s ord=true)
  (hC:C w.drew) (h:wpMix P l.toArray s C (fun a' w'=>wpList P l.toArray Q (l.drop n) a' w') false ord a w.drew):(Code.region id l.toArray true).wp P Q a w:=by
 simp only [mixedB,Bool.and_eq_true,decide_eq_true_eq] at hB
 obtain ⟨⟨⟨⟨⟨hsel,hn⟩,hlen⟩,hs⟩,hc⟩,hord⟩:=hB
 have hdl:(l.drop n).length=l.toArray.size - n:=by simp
 have inv0:HeadInv .any l.toArray n (Array.replicate l.toArray.size false):=
  ⟨by simp,fun j oj _ hl=>(by rw [getD_replicate_false] at hl;cases hl),fun t _ ht=>getD_in (by simpa using ht) (getD_replicate_false _ _)⟩
 have H:=wpAnyC_ord (s:=s) hsel hs hc hn ord false _ a w.drew inv0 (fun h=>by cases h) hord (fun _=>hC) h
 refine wp_region_any hm ?_
 have:=wpAny_of_headC (Q':=Q) (g:=l.toArray.size - n) (fun listed a' w' hL=>by
  have:=wpAny_of_seq (md:=.any) (Q':=Q) (l.drop n) n listed a' w' (fun j=>by simp [List.getElem?_drop]) (by rw [hdl];exact hL.1) hL.2
  rwa [hdl] at this) _ _ _ _ H
 rw [hlen] at this
 exact this
theorem wpMix_held {s:Nat} {sw:Bool} {C:World→Prop} {T:Act→World→Prop} {k:Nat} {r:List (Nat×Nat)} {a:Act} {w:World} {o:Oper} (ho:ops[k]?=some o) (hw:Region.wanted o (yielded ops a.tmps)=true) (v:Value)
  (hv:∀ w,C w→(execOp a.eval o).run P w=.ok (.value v) w) (h:wpMix P ops s C T sw r (a.put o.dst v) w):wpMix P ops s C T sw ((k,0) :: r) a w:=by
 simp only [wpMix,ho]
 exact ⟨v,.inl ⟨hw,hv⟩,h⟩
theorem wpMix_pure {s:Nat} {sw:Bool} {C:World→Prop} {T:Act→World→Prop} {k:Nat} {r:List (Nat×Nat)} {a:Act} {w:World} {o:Oper} (ho:ops[k]?=some o) (hw:Region.wanted o (yielded ops a.tmps)=true) (v:Value)
  (hv:∀ w,(execOp a.eval o).run P w=.ok (.value v) w) (h:wpMix P ops s C T sw r (a.put o.dst v) w):wpMix P ops s C T sw ((k,1) :: r) a w:=by
 simp only [wpMix,ho]
 exact ⟨v,.inl ⟨hw,fun w _=>hv w⟩,h⟩
theorem wpMix_move {s:Nat} {sw:Bool} {C:World→Prop} {T:Act→World→Prop} {k:Nat} {r:List (Nat×Nat)} {a:Act} {w:World} {o:Oper} (ho:ops[k]?=some o) (hw:Region.wanted o (yielded ops a.tmps)=true) (x:Operand) (hx:o.op=.move x) (v:Value)
  (hv:a.eval x=v) (h:wpMix P ops s C T sw r (a.put o.dst v) w):wpMix P ops s C T sw ((k,1) :: r) a w:=by
 subst hv
 exact wpMix_pure ho hw _ (fun w=>by unfold execOp;simp [hx]) h
theorem wpMix_loud {s:Nat} {sw:Bool} {C:World→Prop} {T:Act→World→Prop} {k:Nat} {r:List (Nat×Nat)} {a:Act} {w:World} {o:Oper} (ho:ops[k]?=some o)
  (h:wpList P ops (QK fun a' w'=>((sw||decide (k=s))=false→C w')∧wpMix P ops s C T (sw||decide (k=s)) r a' w') [o] a w):wpMix P ops s C T sw ((k,2) :: r) a w:=by
 simp only [wpMix]
 unfold wpOp
 simp only [ho]
 simp only [wpList] at h
 split
 ·rename_i hw
  simp only [hw,if_true] at h
  rcases h with h | h
  ·exact .inl (upon_QK h)
  ·exact absurd h.2 (not_letsOut_QK _)
 ·rename_i hw
  simp only [hw] at h
  exact h
end
end Go.Mixed2
namespace Go.Proofs.YtajlleeonddinaaGreatDoor
open Go.RowKit
theorem cells_setA:∀ (L:List Tr) (k:Nat) (a:Int) (h:k<L.length),(cellsT L).set (k*3) (.int .i64 a)=cellsT (L.set k (a,L[k].2.1,L[k].2.2))
 | x :: t,0,a,h=>rfl
 | x :: t,k+1,a,h=>by
  have ih:=cells_setA t k a (by simpa using h)
  rw [show (k+1)*3=(k*3)+1+1+1 by omega]
  have e:∀ y:List Tr,cellsT (x :: y)=.int .i64 x.1 :: .int .i64 x.2.1 :: .int .i64 x.2.2 :: cellsT y:=fun _=>rfl
  simp only [List.set_cons_succ,List.getElem_cons_succ,e]
  rw [ih]
theorem cells_setB:∀ (L:List Tr) (k:Nat) (a:Int) (h:k<L.length),(cellsT L).set (k*3+1) (.int .i64 a)=cellsT (L.set k (L[k].1,a,L[k].2.2))
 | x :: t,0,a,h=>rfl
 | x :: t,k+1,a,h=>by
  have ih:=cells_setB t k a (by simpa using h)
  rw [show (k+1)*3+1=(k*3+1)+1+1+1 by omega]
  have e:∀ y:List Tr,cellsT (x :: y)=.int .i64 x.1 :: .int .i64 x.2.1 :: .int .i64 x.2.2 :: cellsT y:=fun _=>rfl
  simp only [List.set_cons_succ,List.getElem_cons_succ,e]
  rw [ih]
theorem RowS.put3 {w:World} {n g off:Nat} {L L':List Tr} (h:RowS w n g off L) (j:Nat) (t:Tr) (hj:j<L.length) (e:L.set j t=L') :
  RowS (((w.setCell ⟨g,off+j*3,none⟩ (.int .i64 t.1)).setCell ⟨g,off+j*3+1,none⟩ (.int .i64 t.2.1)).setCell ⟨g,off+j*3+2,none⟩ (.int .i64 t.2.2)) n g off L':=by
 have h1:=h.put (L':=L.set j (t.1,L[j].2.1,L[j].2.2)) (j*3) (.int .i64 t.1) (cells_setA L j _ hj)
 have hj1:j<(L.set j (t.1,L[j].2.1,L[j].2.2)).length:=by rw [List.length_set];exact hj
 have h2:=h1.put (L':=(L.set j (t.1,L[j].2.1,L[j].2.2)).set j (t.1,t.2.1,L[j].2.2)) (j*3+1) (.int .i64 t.2.1) (by
  have:=cells_setB (L.set j (t.1,L[j].2.1,L[j].2.2)) j t.2.1 hj1
  simp only [List.getElem_set_self] at this
  exact this)
 have hj2:j<((L.set j (t.1,L[j].2.1,L[j].2.2)).set j (t.1,t.2.1,L[j].2.2)).length:=by rw [List.length_set];exact hj1
 have h3:=h2.put (L':=L') (j*3+2) (.int .i64 t.2.2) (by
  have:=cells_set ((L.set j (t.1,L[j].2.1,L[j].2.2)).set j (t.1,t.2.1,L[j].2.2)) j t.1 t.2.1 t.2.2 hj2 (by simp) (by simp)
  rw [← this,List.set_set,List.set_set,← e])
 rw [← Nat.add_assoc,← Nat.add_assoc] at h3
 exact h3
theorem grownBy_set {w w':World} {g:Nat} (h:w.grownBy w' (some g)) (j:Nat) (u:Value):w.grownBy (w'.setCell ⟨g,j,none⟩ u) (some g):=
 ⟨h.os,h.tape,h.output,by simpa using h.size,fun k hk hne=>(heap_setCell_other w' ⟨g,j,none⟩ k u (fun e=>hne (by rw [e]))).trans (h.block k hk hne)⟩
theorem grownBy_drew {w w':World} {r:Option Nat} (h:w.grownBy w' r):w.grownBy w'.drew r:=⟨h.os,h.tape,h.output,h.size,h.block⟩
theorem RowS.drew {w:World} {n g off:Nat} {L:List Tr} (h:RowS w n g off L):RowS w.drew n g off L:=h
theorem rev2_any (B g off cap:Nat) (x y:Tr) (w:World) (hR:RowS w B g off [x,y]) :
  Calls Tryz.prog 141 #[.slice (some ⟨g,off,none⟩) 2 cap] w fun e w'=>e=.returned (.tuple #[])∧RowS w' B g off [y,x]∧w.grownBy w' (some g):=by
 have h0:=hR.at_ 0 (by simp)
 have h1:=hR.at_ 1 (by simp)
 have z0:=hR.frozen
 simp only [List.getElem_cons_zero,List.getElem_cons_succ,Nat.zero_mul,Nat.add_zero,Nat.one_mul] at h0 h1
 have N1:=hR.put3 0 y (by simp) (L':=[y,y]) rfl
 have N2:=N1.put3 1 x (by simp) (L':=[y,x]) rfl
 simp only [Nat.zero_mul,Nat.add_zero,Nat.one_mul] at N2
 have NN:=Lib.hid N2.drew
 obtain ⟨x0,x1,x2⟩:=x
 obtain ⟨y0,y1,y2⟩:=y
 simp only at h0 h1 NN
 have C1:Hid ((w.drew.cell? ⟨g,off,none⟩=some (.int .i64 x0)∧w.drew.cell? ⟨g,off+1,none⟩=some (.int .i64 x1)∧w.drew.cell? ⟨g,off+2,none⟩=some (.int .i64 x2))∧
   (w.drew.cell? ⟨g,off+3,none⟩=some (.int .i64 y0)∧w.drew.cell? ⟨g,off+3+1,none⟩=some (.int .i64 y1)∧w.drew.cell? ⟨g,off+3+2,none⟩=some (.int .i64 y2))):=⟨h0,h1⟩
 have GG:=Lib.hid (grownBy_drew (grownBy_set (grownBy_set (grownBy_set (grownBy_set (grownBy_set (grownBy_set (g:=g) (World.grownBy.refl w (some g)) off (.int .i64 y0)) (off+1) (.int .i64 y1)) (off+2) (.int .i64 y2)) (off+3) (.int .i64 x0)) (off+3+1) (.int .i64 x1)) (off+3+2) (.int .i64 x2)))
 have H0:=Lib.hid h0
 have H1:=Lib.hid h1
 clear hR N1 N2 h0 h1
 go_enter Tryz.func141,Tryz.ntmps141
 go_wp2
 go_loopw [2,3] (fun i j wr=>(i=.int .i64 0∧j=.int .i64 1∧wr=w)∨(i=.int .i64 1∧j=.int .i64 0∧Hid (RowS wr B g off [(y0,y1,y2),(x0,x1,x2)])∧Hid (w.grownBy wr (some g)))) (fun i j _=>(intOf j - intOf i+1).toNat)
 case atStart=>exact .inl ⟨rfl,rfl,rfl⟩
 case round=>
  rcases hrel with ⟨rfl,rfl,rfl⟩ | ⟨rfl,rfl,R,G⟩
  ·go_wp2
   refine Mixed2.wp_region_mixed (fun w'=>(w'.cell? ⟨g,off,none⟩=some (.int .i64 x0)∧w'.cell? ⟨g,off+1,none⟩=some (.int .i64 x1)∧w'.cell? ⟨g,off+2,none⟩=some (.int .i64 x2))∧
     (w'.cell? ⟨g,off+3,none⟩=some (.int .i64 y0)∧w'.cell? ⟨g,off+3+1,none⟩=some (.int .i64 y1)∧w'.cell? ⟨g,off+3+2,none⟩=some (.int .i64 y2))) 15 13
    [(0,1),(1,1),(2,1),(3,1),(4,1),(5,1),(6,1),(7,0),(8,1),(9,1),(10,1),(11,0),(12,1),(13,2),(14,1)] (by kernel_rfl) (by kernel_rfl) C1.out ?_
   refine Mixed2.wpMix_move rfl rfl _ rfl _ rfl ?_
   refine Mixed2.wpMix_move rfl rfl _ rfl _ rfl ?_
   refine Mixed2.wpMix_move rfl rfl _ rfl _ rfl ?_
   refine Mixed2.wpMix_move rfl rfl _ rfl _ rfl ?_
   refine Mixed2.wpMix_move rfl rfl _ rfl _ rfl ?_
   refine Mixed2.wpMix_move rfl rfl _ rfl _ rfl ?_
   refine Mixed2.wpMix_pure rfl rfl _ (fun w=>by go_simp;rfl) ?_
   refine Mixed2.wpMix_held rfl rfl _ (fun w h=>by obtain ⟨⟨p1,p2,p3⟩,p4,p5,p6⟩:=h;go_simp;rfl) ?_
   refine Mixed2.wpMix_move rfl rfl _ rfl _ rfl ?_
   refine Mixed2.wpMix_move rfl rfl _ rfl _ rfl ?_
   refine Mixed2.wpMix_pure rfl rfl _ (fun w=>by go_simp;rfl) ?_
   refine Mixed2.wpMix_held rfl rfl _ (fun w h=>by obtain ⟨⟨p1,p2,p3⟩,p4,p5,p6⟩:=h;go_simp;rfl) ?_
   refine Mixed2.wpMix_pure rfl rfl _ (fun w=>by go_simp;rfl) ?_
   refine Mixed2.wpMix_loud rfl ?_
   obtain ⟨p1,p2,p3⟩:=H0.out
   obtain ⟨p4,p5,p6⟩:=H1.out
   have f0:=z0 off
   have f1:=z0 (off+1)
   have f2:=z0 (off+2)
   have f3:=z0 (off+3)
   have f4:=z0 (off+3+1)
   have f5:=z0 (off+3+2)
   go_wp2
   show Mixed2.wpMix _ _ _ _ _ _ _ _ _
   refine Mixed2.wpMix_pure rfl rfl _ (fun w=>by go_simp;rfl) ?_
   simp only [Mixed2.wpMix]
   go_wp2
   go_roundw
   case rel=>exact .inr ⟨rfl,rfl,NN.out,GG.out⟩
   case measure=>simp [intOf]
  ·go_wp2
   go_end0
   exact ⟨rfl,R.out,G.out⟩
end Go.Proofs.YtajlleeonddinaaGreatDoor
namespace Go.Proofs.YtajlleeonddinaaGreatDoor
open Go.RowKit
theorem ops_pair (w:World) (x y:Tr):OpsP (w.alloc (.cells #[.int .i64 x.1,.int .i64 x.2.1,.int .i64 x.2.2,.int .i64 y.1,.int .i64 y.2.1,.int .i64 y.2.2] 55)) (some ⟨w.heap.size,0,none⟩) [x,y]:=by
 refine .inr ⟨_,0,rfl,fun j hj=>?_⟩
 have:j=0∨j=1:=by simp at hj;omega
 rcases this with rfl | rfl <;> exact ⟨by simp [go_sem],by simp [go_sem],by simp [go_sem]⟩
theorem exL_no (c:Nat) (L:List Tr) (h:c≠3):L=exL c L:=by unfold exL;rw [if_neg (fun q=>h q.1)]
theorem exL_ne (L:List Tr) (h:¬L=[hlT,deT]):L=exL 3 L:=by unfold exL;rw [if_neg (fun q=>h q.2)]
def Mid (w0 w:World) (bd:Nat) (s:ByteArray) (v:Value) (B:Nat) (L:List Tr):Prop:=Dr w bd s v∧OwnS w B v L∧Below w0.heap.size w0 w
theorem Mid.go {w0 w w':World} {bd:Nat} {s:ByteArray} {v:Value} {B:Nat} {L:List Tr} (h:Mid w0 w bd s v B L) (hb:Below w.heap.size w w'):Mid w0 w' bd s v B L:=
 ⟨h.1.below hb,h.2.1.below hb,h.2.2.trans (hb.mono h.2.2.size)⟩
theorem Mid.alloc {w0 w:World} {bd:Nat} {s:ByteArray} {v:Value} {B:Nat} {L:List Tr} (h:Mid w0 w bd s v B L) (o:Obj):Mid w0 (w.alloc o) bd s v B L:=h.go ((Below.refl _ _).alloc (Nat.le_refl _) _)
theorem Mid.ops {w0 w:World} {bd:Nat} {s:ByteArray} {A:Option Addr} {n cap:Nat} {B:Nat} {L:List Tr} (h:Mid w0 w bd s (.slice A n cap) B L):OpsP w A L:=by
 obtain ⟨A',cap',e,hP,-⟩:=h.2.1.ops
 simp only [Value.slice.injEq] at e
 obtain ⟨rfl,-,-⟩:=e
 exact hP
attribute [local irreducible] Go.Mixed.wpMix
theorem ex_any (s:ByteArray) (B bd:Nat) (hB:B≤bd) (v:Value) (L:List Tr) (hL:L.length≤1000) (w:World) (hD:Dr w bd s v) (hO:OwnS w B v L) :
  Calls Tryz.prog 102 #[.pointer (some ⟨bd,0,none⟩)] w fun e w'=>e=.returned (.tuple #[])∧Dr w' bd s v∧OwnS w' B v (exL (opc s) L)∧Below B w w':=by
 obtain ⟨d0,d1,-,-⟩:=hD.cells
 by_cases h3:I3 s
 ·rw [opc_3 h3]
  obtain rfl:s=_:=h3
  obtain ⟨A,cap,rfl,hP,hlc,hcm⟩:=hO.ops
  have D0:=Lib.hid hD
  have O0:=Lib.hid hO
  have M0:Hid (Mid w w.drew bd ⟨#[69,88]⟩ (.slice A L.length cap) B L):=⟨hD,hO,below_drewN _ _ 1⟩
  have SB:Hid (B≤w.heap.size):=Nat.le_trans hB (Nat.le_of_lt hD.lt)
  have EQ:=Lib.hid (fun A2 c1 c2 (w':World) h1 h2=>equalO_any A A2 c1 c2 L [hlT,deT] (by unfold maxLen;omega) (by unfold maxLen;simp) w' h1 h2)
  have EN:=Lib.hid (exL_ne L)
  obtain ⟨n,hn⟩:∃ n,L.length=n:=⟨_,rfl⟩
  have HN:=Lib.hid hn
  rw [hn] at D0 O0 M0 hlc d1 ⊢
  rw [hn] at EQ
  obtain ⟨b,hb⟩:∃ b,decide (L=[hlT,deT])=b:=⟨_,rfl⟩
  have HB:=Lib.hid hb
  rw [hb] at EQ
  clear hD hO hP hn hL hb d0 d1
  go_enter Tryz.func102,Tryz.ntmps102
  go_wp2
  refine Mixed.wp_region_mixed (fun w'=>Dr w' bd ⟨#[69,88]⟩ (.slice A n cap)) 16 [(0,true),(1,true),(2,true),(3,true),(4,true),(5,true),(6,true),(7,true),(8,true),(9,true),(10,true),(11,true),(12,false),(13,false),(14,false),(15,false)] (by kernel_rfl) (by kernel_rfl) D0.out ?_
  refine Mixed.wpMix_move rfl (by kernel_rfl) _ rfl _ rfl ?_
  refine Mixed.wpMix_pure rfl (by kernel_rfl) (.pointer (some ⟨bd,0,none⟩)) (fun w h=>by obtain ⟨h1,h2,h3,h4⟩:=h.cells;clear h;go_simp;try rfl) ?_
  refine Mixed.wpMix_pure rfl (by kernel_rfl) (.pointer (some ⟨bd,0,none⟩)) (fun w h=>by obtain ⟨h1,h2,h3,h4⟩:=h.cells;clear h;go_simp;try rfl) ?_
  refine Mixed.wpMix_pure rfl (by kernel_rfl) (.pointer (some ⟨bd,0,none⟩)) (fun w h=>by obtain ⟨h1,h2,h3,h4⟩:=h.cells;clear h;go_simp;try rfl) ?_
  refine Mixed.wpMix_pure rfl (by kernel_rfl) (.string ⟨#[69,88]⟩) (fun w h=>by obtain ⟨h1,h2,h3,h4⟩:=h.cells;clear h;go_simp;try rfl) ?_
  refine Mixed.wpMix_pure rfl (by kernel_rfl) (.bool true) (fun w h=>by clear h;go_simp;try rfl) ?_
  refine Mixed.wpMix_move rfl (by kernel_rfl) _ rfl _ rfl ?_
  refine Mixed.wpMix_move rfl (by kernel_rfl) _ rfl _ rfl ?_
  refine Mixed.wpMix_pure rfl (by kernel_rfl) (.pointer (some ⟨bd,0,none⟩)) (fun w h=>by obtain ⟨h1,h2,h3,h4⟩:=h.cells;clear h;go_simp;try rfl) ?_
  refine Mixed.wpMix_pure rfl (by kernel_rfl) (.pointer (some ⟨bd,0,none⟩)) (fun w h=>by obtain ⟨h1,h2,h3,h4⟩:=h.cells;clear h;go_simp;try rfl) ?_
  refine Mixed.wpMix_pure rfl (by kernel_rfl) (.pointer (some ⟨bd,1,none⟩)) (fun w h=>by obtain ⟨h1,h2,h3,h4⟩:=h.cells;clear h;go_simp;try rfl) ?_
  refine Mixed.wpMix_pure rfl (by kernel_rfl) (.slice A n cap) (fun w h=>by obtain ⟨h1,h2,h3,h4⟩:=h.cells;clear h;go_simp;try rfl) ?_
  refine Mixed.wpMix_loudG rfl (by kernel_rfl) ?_
  go_wp2_with fail
  refine (canpair_any 2 _).mono ?_
  rintro e w1 ⟨rfl,h1⟩
  have M1:=Lib.hid (M0.out.go h1)
  have xx:=M1.out.1
  clear h1 M0 D0 O0
  go_wp2
  refine ⟨xx,?_⟩
  clear xx
  refine Mixed.wpMix_loudG rfl (by kernel_rfl) ?_
  go_wp2_with fail
  refine (canpair_any 1 _).mono ?_
  rintro e w2 ⟨rfl,h1⟩
  have M2:=Lib.hid (M1.out.go h1)
  have xx:=M2.out.1
  clear h1 M1
  go_wp2
  refine ⟨xx,?_⟩
  clear xx
  refine Mixed.wpMix_loudG rfl (by kernel_rfl) ?_
  have M3:=fun o=>Lib.hid (M2.out.alloc o)
  have P3:=Lib.hid (ops_pair w2 hlT deT)
  have xx:=fun o=>(M3 o).out.1
  go_wp2
  refine ⟨xx _,?_⟩
  clear xx
  refine Mixed.wpMix_loudG rfl (by kernel_rfl) ?_
  go_wp2_with fail
  refine (EQ.out _ cap 2 _ (M3 _).out.ops P3.out).mono ?_
  rintro e w4 ⟨rfl,h1⟩
  have M4:=Lib.hid ((M3 _).out.go h1)
  have xx:=M4.out.1
  clear h1 M3 M2 P3 EQ
  go_wp2
  refine ⟨xx,?_⟩
  clear xx
  simp only [Mixed.wpMix,List.drop_succ_cons,List.drop_zero]
  cases b with
  | false=>
   have E:=Lib.hid (EN.out (of_decide_eq_false HB.out))
   go_wp2
   go_end0
   rw [← E.out]
   exact ⟨rfl,M4.out.1,M4.out.2.1,M4.out.2.2.mono SB.out⟩
  | true=>
   obtain rfl:=of_decide_eq_true HB.out
   obtain rfl:n=2:=HN.out.symm
   obtain ⟨d0,d1,-,-⟩:=M4.out.1.cells
   obtain ⟨g,off,cap',hA,-,-,hR⟩:=M4.out.2.1.nonnil (by simp)
   simp only [Value.slice.injEq] at hA
   obtain ⟨rfl,-,-⟩:=hA
   have RV:=Lib.hid (rev2_any B g off cap hlT deT w4 hR)
   have HG:=Lib.hid (hR.apart M4.out.1)
   have HB2:Hid (B≤g):=hR.1
   clear hR
   go_wp2_with fail
   refine RV.out.mono ?_
   rintro e w5 ⟨rfl,hR,hG⟩
   have D5:Hid (Dr w5 bd ⟨#[69,88]⟩ (.slice (some ⟨g,off,none⟩) 2 cap)):=(hG.block _ M4.out.1.lt (fun e=>HG.out (by simp at e;exact e.symm))).trans M4.out.1
   have O5:Hid (OwnS w5 B (.slice (some ⟨g,off,none⟩) 2 cap) (exL 3 [hlT,deT])):=.inr ⟨g,off,cap,rfl,hlc,hcm,hR⟩
   have B5:Hid (Below B w w5):=(M4.out.2.2.mono SB.out).grown hG (Nat.le_trans SB.out M4.out.2.2.size) (fun k hk=>by simp at hk;have:=HB2.out;omega)
   clear hR hG
   go_wp2
   go_end0
   exact ⟨rfl,D5.out,O5.out,B5.out⟩
 ·have E:=Lib.hid (exL_no (opc s) L (opc_n3 h3))
  have q:(s.toList == [69,88])=false:=by simpa using strB_ne h3
  have D0:=Lib.hid hD
  have O0:=Lib.hid hO
  clear hD hO h3
  go_enter Tryz.func102,Tryz.ntmps102
  go_wp2
  go_quiet (fail)
  go_wp2
  go_end0
  rw [← E.out]
  exact ⟨rfl,D0.out,O0.out,(below_drewN _ _ _)⟩
end Go.Proofs.YtajlleeonddinaaGreatDoor
namespace Go.Proofs.YtajlleeonddinaaGreatDoor
open Go.RowKit
def cset3 (cur:Array Value) (o:Nat) (t:Tr):Array Value:=((cur.setIfInBounds o (.int .i64 t.1)).setIfInBounds (o+1) (.int .i64 t.2.1)).setIfInBounds (o+2) (.int .i64 t.2.2)
theorem set3_size (cur:Array Value) (o:Nat) (t:Tr):(cset3 cur o t).size=cur.size:=by simp [cset3]
theorem set3_at (cur:Array Value) (o:Nat) (t:Tr) (h:o+3≤cur.size):(cset3 cur o t)[o]?=some (.int .i64 t.1)∧(cset3 cur o t)[o+1]?=some (.int .i64 t.2.1)∧(cset3 cur o t)[o+2]?=some (.int .i64 t.2.2):=by
 unfold cset3
 refine ⟨?_,?_,?_⟩
 ·rw [Array.getElem?_setIfInBounds,if_neg (by omega),Array.getElem?_setIfInBounds,if_neg (by omega),Array.getElem?_setIfInBounds,if_pos rfl,if_pos (by omega)]
 ·rw [Array.getElem?_setIfInBounds,if_neg (by omega),Array.getElem?_setIfInBounds,if_pos rfl,if_pos (by simp;omega)]
 ·rw [Array.getElem?_setIfInBounds,if_pos rfl,if_pos (by simp;omega)]
theorem set3_other (cur:Array Value) (o:Nat) (t:Tr) (j:Nat) (h:j<o∨o+3≤j):(cset3 cur o t)[j]?=cur[j]?:=by
 unfold cset3
 rw [Array.getElem?_setIfInBounds,if_neg (by omega),Array.getElem?_setIfInBounds,if_neg (by omega),Array.getElem?_setIfInBounds,if_neg (by omega)]
theorem add_lit (b off j:Nat):(⟨b,off,none⟩:Addr).add j=⟨b,off+j,none⟩:=by unfold Addr.add;split <;> simp_all
theorem run_copyT (w:World) (ty:TypeId) (g o dLen dCap b off sLen sCap:Nat) (cur:Array Value) (t:Tr) (hg:w.heap[g]?=some (.cells cur 55 (0,0))) (hmin:Nat.min sLen dLen=1)
  (hsrc:∀ j u,(cellsT [t])[j]?=some u→w.cell? ⟨b,off+j,none⟩=some u) (hfit:o+3≤cur.size) :
  ∃ w',(Builtin.copy_ #[22,22] ty #[.slice (some ⟨g,o,none⟩) dLen dCap,.slice (some ⟨b,off,none⟩) sLen sCap]).run Tryz.prog w=.ok (goInt 1) w'∧
   w'.heap[g]?=some (.cells (cset3 cur o t) 55 (0,0))∧w.grownBy w' (some g):=by
 obtain ⟨i0,hi,hz0,hz1,hz2⟩:=info_parts info_opd
 have hl:=run_loadCells_list (P:=Tryz.prog) w ⟨b,off,none⟩ (cellsT [t]) (fun j u hj=>by rw [add_lit];exact hsrc j u hj)
 have hcell:∀ j,j<3→(w.cell? ⟨g,o+0+j,none⟩).isSome=true:=fun j hj=>by
  rw [Lib.cell_of_heap hg,Array.getElem?_eq_getElem (by omega)];rfl
 have hst:=run_storeCells_cells (P:=Tryz.prog) g o (cellsT [t]) 0 w hcell (fun j _=>Lib.frozen_of_heap hg _) (cellsT_one [t])
 refine ⟨((w.setCell ⟨g,o,none⟩ (.int .i64 t.1)).setCell ⟨g,o+1,none⟩ (.int .i64 t.2.1)).setCell ⟨g,o+1+1,none⟩ (.int .i64 t.2.2),?_,?_,?_⟩
 ·have hst':(storeCells ⟨g,o,none⟩ (cellsT [t])).run Tryz.prog w=.ok () (((w.setCell ⟨g,o,none⟩ (.int .i64 t.1)).setCell ⟨g,o+1,none⟩ (.int .i64 t.2.1)).setCell ⟨g,o+1+1,none⟩ (.int .i64 t.2.2)):=hst
  have h3:(cellsT [t]).length=3:=rfl
  rw [h3] at hl
  simp [Builtin.copy_,run_underlying Tryz.underlying22,Builtin.lenOf,Builtin.firstCells,sizeOf,typeInfo,hi,hz1,hmin,hl,hst']
 ·have h1:=heap_setCell_same w g o _ _ (.int .i64 t.1) hg
  have h2:=heap_setCell_same _ g (o+1) _ _ (.int .i64 t.2.1) h1
  exact heap_setCell_same _ g (o+1+1) _ _ (.int .i64 t.2.2) h2
 ·exact grownBy_set (grownBy_set (grownBy_set (World.grownBy.refl w (some g)) _ _) _ _) _ _
theorem wpList_run_app2 {w w1:World} {t tn ty:TypeId} {v y v':Value} (h1:(Builtin.append_ #[t,tn] ty #[v,y]).run Tryz.prog w=.ok v' w1) {ops:Array Oper} {rest:List Oper} {o:Oper} {a:Act} {Q:Exit→Act→World→Prop} (hgd:o.guard=none) (s x:Operand)
  (ho:o.op=.call {callee:=.builtin .append,args:=#[s,x],argTypes:=#[t,tn]}) (hty:o.type=ty) (hs:a.eval s=v) (hx:a.eval x=y) (hk:wpList Tryz.prog ops Q rest (a.put o.dst v') w1):wpList Tryz.prog ops Q (o :: rest) a w:=by
 subst hty
 refine wpList_plain hgd fun K hK=>?_
 unfold Oper.wp
 simp [execOp,ho,resolve,invoke,builtin,hs,hx,h1,Result.andThen]
 exact hK _ _ hk
theorem rowS_two {w:World} {B g:Nat} {cur:Array Value} {x y:Tr} (hB:B≤g) (hg:w.heap[g]?=some (.cells cur 55 (0,0)))
  (hx:cur[0]?=some (.int .i64 x.1)∧cur[1]?=some (.int .i64 x.2.1)∧cur[2]?=some (.int .i64 x.2.2)) (hy:cur[3]?=some (.int .i64 y.1)∧cur[4]?=some (.int .i64 y.2.1)∧cur[5]?=some (.int .i64 y.2.2)):RowS w B g 0 [x,y]:=by
 refine ⟨hB,cur,hg,fun j u hj=>?_⟩
 rw [Nat.zero_add]
 match j,hj with
 | 0,hj=>exact hx.1.trans hj
 | 1,hj=>exact hx.2.1.trans hj
 | 2,hj=>exact hx.2.2.trans hj
 | 3,hj=>exact hy.1.trans hj
 | 4,hj=>exact hy.2.1.trans hj
 | 5,hj=>exact hy.2.2.trans hj
 | j+6,hj=>cases hj
theorem run_over (w:World) (vb m vc g off lb cb:Nat) (hne:vb≠g) (cv cg:Array Value) (tv tg:TypeId) (hv:w.heap[vb]?=some (.cells cv tv (0,0))) (hg:w.heap[g]?=some (.cells cg tg (0,0))) (h0:cg.size≠0) :
  (callFunc 169 #[.slice (some ⟨vb,0,none⟩) m vc,.slice (some ⟨g,off,none⟩) lb cb]).run Tryz.prog w=.ok (.value (.bool false)) w:=by
 obtain ⟨i0,hi,hz0,hz1,hz2⟩:=info_parts info_opd
 rw [run_callFunc_extern Tryz.func169 (by kernel_rfl) (by kernel_rfl) (by kernel_rfl) (e:=Extern.SlicesOverlaps.overlaps #[22,22] #[4]) (by kernel_rfl),
  Lib.run_overlaps_apart w 22 4 55 Tryz.underlying22 3 (fun w=>by simp [sizeOf,typeInfo,hi,hz1]) ⟨vb,0,none⟩ ⟨g,off,none⟩ m vc lb cb hne tv tg cv.size cg.size (by simp [World.shape?,hv]) (by simp [World.shape?,hg]) h0 (Lib.frozen_of_heap hv 0) (Lib.frozen_of_heap hv _)]
 rfl
end Go.Proofs.YtajlleeonddinaaGreatDoor
namespace Go.Proofs.YtajlleeonddinaaGreatDoor
open Go.RowKit
attribute [local irreducible] Go.Mixed.wpMix
theorem insert_one (B g cap vb:Nat) (x:Tr) (w:World) (hO:OwnT w B (.slice (some ⟨g,0,none⟩) 1 cap) [x]) (hv:w.heap[vb]?=some (.cells #[.int .i64 1,.int .i64 7,.int .i64 0] 55 (0,0))) (hne:vb≠g) (hB:B≤w.heap.size) :
  Calls Tryz.prog 138 #[.slice (some ⟨g,0,none⟩) 1 cap,.int .i64 0,.slice (some ⟨vb,0,none⟩) 1 1] w fun e w'=>
   ∃ A2 cap2,e=.returned (.slice A2 2 cap2)∧OwnS w' B (.slice A2 2 cap2) [accT,x]∧w.grownBy w' (some g):=by
 obtain ⟨-,h | ⟨g',cap',cur,h,hg0,hg,h1c,hcm,hsz,hpre⟩⟩:=hO
 ·cases h.1
 simp only [Value.slice.injEq,Option.some.injEq,Addr.mk.injEq,and_true] at h
 obtain ⟨rfl,-,rfl⟩:=h
 have hcm':=hcm
 unfold maxLen at hcm'
 have h1c':1≤cap:=h1c
 have hX:∀ j u,(cellsT [x])[j]?=some u→w.cell? ⟨g,0+j,none⟩=some u:=fun j u hj=>by
  rw [Nat.zero_add,Lib.cell_of_heap hg]
  rw [← hpre,List.getElem?_take] at hj
  split at hj
  ·simpa using hj
  ·cases hj
 have hV:∀ j u,(cellsT [accT])[j]?=some u→w.cell? ⟨vb,0+j,none⟩=some u:=fun j u hj=>by
  rw [Nat.zero_add,Lib.cell_of_heap hv]
  match j,hj with
  | 0,hj=>exact hj
  | 1,hj=>exact hj
  | 2,hj=>exact hj
  | j+3,hj=>cases hj
 by_cases h2:2≤cap
 ·have hsz6:6≤cur.size:=by omega
  obtain ⟨w1,hr1,hg1,hG1⟩:=run_copyT w.drew 3 g 3 1 (cap - 1) g 0 2 cap cur x hg (by rfl) hX (by omega)
  have hv1:w1.heap[vb]?=some (.cells #[.int .i64 1,.int .i64 7,.int .i64 0] 55 (0,0)):=(hG1.block vb (Array.getElem?_eq_some_iff.1 hv).1 (fun e=>hne (by simpa using e))).trans hv
  obtain ⟨w2,hr2,hg2,hG2⟩:=run_copyT w1 3 g 0 2 cap vb 0 1 1 (cset3 cur 3 x) accT hg1 (by rfl) (fun j u hj=>by
   have hvl:=hV j u hj
   rw [Lib.cell_of_heap hv] at hvl
   rw [Lib.cell_of_heap hv1]
   exact hvl) (by rw [set3_size];omega)
  have hov:=run_over w vb 1 1 g 3 1 (cap - 1) hne _ cur _ _ hv hg (by omega)
  have hR:RowS w2 B g 0 [accT,x]:=rowS_two hg0 hg2 (by
    have:=set3_at (cset3 cur 3 x) 0 accT (by rw [set3_size];omega)
    simpa using this) (by
    have h3:=set3_at cur 3 x (by omega)
    rw [set3_other _ 0 accT 3 (.inr (by omega)),set3_other _ 0 accT 4 (.inr (by omega)),set3_other _ 0 accT 5 (.inr (by omega))]
    exact h3)
  have F:Hid (OwnS w2 B (.slice (some ⟨g,0,none⟩) 2 cap) [accT,x]∧w.grownBy w2 (some g)):=
   ⟨.inr ⟨g,0,cap,rfl,h2,hcm,hR⟩,⟨hG2.os.trans hG1.os,hG2.tape.trans hG1.tape,hG2.output.trans hG1.output,Nat.le_trans hG1.size hG2.size,fun k hk hkg=>(hG2.block k (Nat.lt_of_lt_of_le hk hG1.size) hkg).trans (hG1.block k hk hkg)⟩⟩
  have K1:=Lib.hid hr1
  have K2:=Lib.hid hr2
  have hn1:¬(cap=1):=by omega
  have hgt:decide ((cap:Int)<2)=false:=decide_eq_false (by omega)
  have hgt2:¬((cap:Int)<2):=by omega
  clear hr1 hr2 hR hG1 hG2 hg1 hg2 hv1 hX hV hsz hpre hcm hg hv hsz6
  go_enter Tryz.func138,Tryz.ntmps138
  go_wp2_with (simp only [hov])
  refine Mixed.wp_region_mixed (fun _=>True) 8 [(0,true),(1,true),(2,true),(3,true),(4,true),(5,true),(6,true),(7,true)] (by kernel_rfl) (by kernel_rfl) trivial ?_
  refine Mixed.wpMix_move rfl (by kernel_rfl) _ rfl _ rfl ?_
  refine Mixed.wpMix_move rfl (by kernel_rfl) _ rfl _ rfl ?_
  refine Mixed.wpMix_move rfl (by kernel_rfl) _ rfl _ rfl ?_
  refine Mixed.wpMix_pure rfl (by kernel_rfl) (.int .i64 1) (fun w h=>by clear h;go_simp;try rfl) ?_
  refine Mixed.wpMix_pure rfl (by kernel_rfl) (.slice (some ⟨g,3,none⟩) 1 (cap - 1)) (fun w h=>by clear h;go_simp;try omega) ?_
  refine Mixed.wpMix_move rfl (by kernel_rfl) _ rfl _ rfl ?_
  refine Mixed.wpMix_move rfl (by kernel_rfl) _ rfl _ rfl ?_
  refine Mixed.wpMix_pure rfl (by kernel_rfl) (.slice (some ⟨g,0,none⟩) 2 cap) (fun w h=>by clear h;go_simp;try omega) ?_
  simp only [Mixed.wpMix,List.drop_succ_cons,List.drop_zero]
  have k1:=K1.out
  have k2:=K2.out
  go_wp2_with (first | simp only [k1] | simp only [k2])
  go_ret
  exact ⟨_,cap,rfl,F.out.1,F.out.2⟩
 ·obtain rfl:cap=1:=by omega
  obtain ⟨i0,hi,hz0,hz1,hz2⟩:=info_parts info_opd
  have hold:(Builtin.firstCells i0.size 0 (.slice (some ⟨g,0,none⟩) 0 1)).run Tryz.prog w.drew=.ok ([]:List Value).toArray w.drew:=by
   rw [hz1]
   exact run_firstCells_some w.drew 3 0 ⟨g,0,none⟩ 0 1 [] rfl (fun j v hj=>by cases hj)
  have hap:=Lib.run_append_grow_zeros (P:=Tryz.prog) w 22 3 22 55 i0 _ .i64 .i64 Tryz.underlying22 Tryz.underlying3 hi hz0 (some ⟨g,0,none⟩) 0 1 [] hold 2 (by omega) (by rw [hz1];omega) (by omega) (by omega) (by rw [hz2];omega) (by
   refine Nat.le_trans (growslice_fits (need:=0+2) (old:=1) (by omega) (by rw [hz2];omega)) (Nat.le_refl _))
  rw [Nat.zero_add] at hap
  obtain ⟨G,hG⟩:∃ G,grownCap w 2 1 55=G:=⟨_,rfl⟩
  have hG2:2≤G:=by rw [← hG];exact grownCap_ge w _ _ _
  have hGm:G≤maxLen:=by rw [← hG];exact grownCap_le_maxLen w _ _ _ (by unfold maxLen;omega)
  rw [hG] at hap
  obtain ⟨ROW,hROW⟩:∃ ROW:Array Value,(([]:List Value).toArray++Builtin.zeroCells (Value.agg #[.int .i64 0,.int .i64 0,.int .i64 0]).cells 2++Builtin.zeroCells (Value.agg #[.int .i64 0,.int .i64 0,.int .i64 0]).cells (G - 2))=ROW:=⟨_,rfl⟩
  have hRs:6≤ROW.size:=by
   rw [← hROW]
   simp [Builtin.zeroCells,Value.cells]
  rw [hROW] at hap
  obtain ⟨W1,hW1⟩:∃ W1,w.drew.alloc (.cells ROW 55)=W1:=⟨_,rfl⟩
  rw [hW1] at hap
  have hgl:=(Array.getElem?_eq_some_iff.1 hg).1
  have hvl:=(Array.getElem?_eq_some_iff.1 hv).1
  have hN1:W1.heap[w.heap.size]?=some (.cells ROW 55 (0,0)):=by rw [← hW1];exact heap_alloc_new w.drew _
  have hG1:w.grownBy W1 (some w.heap.size):=by
   rw [← hW1]
   have h1:=World.grownBy_alloc w.drew (.cells ROW 55) (some w.heap.size)
   exact ⟨h1.os,h1.tape,h1.output,h1.size,h1.block⟩
  have hsame:∀ k,k<w.heap.size→W1.heap[k]?=w.heap[k]?:=fun k hk=>hG1.block k hk (fun e=>by simp at e;omega)
  have hW1s:w.heap.size<W1.heap.size:=(Array.getElem?_eq_some_iff.1 hN1).1
  obtain ⟨w2,hr2,hN2,hG2'⟩:=run_copyT W1 3 w.heap.size 0 2 G vb 0 1 1 ROW accT hN1 (by rfl) (fun j u hj=>by
   have h1:=hV j u hj
   rw [Lib.cell_of_heap hv] at h1
   rw [Lib.cell_of_heap ((hsame vb hvl).trans hv)]
   exact h1) (by omega)
  have hg2:w2.heap[g]?=w.heap[g]?:=(hG2'.block g (by omega) (fun e=>by simp at e;omega)).trans (hsame g hgl)
  obtain ⟨w3,hr3,hN3,hG3⟩:=run_copyT w2.drew 3 w.heap.size 3 1 (G - 1) g 0 1 1 (cset3 ROW 0 accT) x hN2 (by rfl) (fun j u hj=>by
   have h1:=hX j u hj
   rw [Lib.cell_of_heap hg] at h1
   have h2:w2.drew.heap[g]?=some (.cells cur 55 (0,0)):=hg2.trans hg
   rw [Lib.cell_of_heap h2]
   exact h1) (by rw [set3_size];omega)
  have hR:RowS w3 B w.heap.size 0 [accT,x]:=rowS_two hB hN3 (by
    rw [set3_other _ 3 x 0 (.inl (by omega)),set3_other _ 3 x 1 (.inl (by omega)),set3_other _ 3 x 2 (.inl (by omega))]
    have h1:=set3_at ROW 0 accT (by omega)
    simpa using h1) (by
    have h1:=set3_at (cset3 ROW 0 accT) 3 x (by rw [set3_size];omega)
    exact h1)
  have F:Hid (OwnS w3 B (.slice (some ⟨w.heap.size,0,none⟩) 2 G) [accT,x]∧w.grownBy w3 (some g)):=
   ⟨.inr ⟨w.heap.size,0,G,rfl,hG2,hGm,hR⟩,⟨hG3.os.trans (hG2'.os.trans hG1.os),hG3.tape.trans (hG2'.tape.trans hG1.tape),hG3.output.trans (hG2'.output.trans hG1.output),Nat.le_trans hG1.size (Nat.le_trans hG2'.size hG3.size),
    fun k hk hkg=>(hG3.block k (Nat.lt_of_lt_of_le (Nat.lt_of_lt_of_le hk hG1.size) hG2'.size) (fun e=>by simp at e;omega)).trans ((hG2'.block k (Nat.lt_of_lt_of_le hk hG1.size) (fun e=>by simp at e;omega)).trans (hsame k hk))⟩⟩
  have hGm':=hGm
  unfold maxLen at hGm'
  have hn1:¬(G=1):=by omega
  have hn0:¬(G=0):=by omega
  have Ka:=Lib.hid hap
  have Kb:=Lib.hid hr2
  have Kc:=Lib.hid hr3
  clear hap hr2 hr3 hR hG1 hG2' hG3 hN1 hN2 hN3 hsame hW1s hg2 hW1 hROW hRs hold hX hV hsz hpre hcm hg hv hG hGm hgl hvl hi hz0 hz1 hz2 h2 h1c
  have k2:=Kb.out
  have k3:=Kc.out
  go_enter Tryz.func138,Tryz.ntmps138
  go_wp2_with (first | (at_builtin;refine wpList_run_app2 Ka.out rfl _ _ rfl rfl rfl rfl ?_) | simp only [k2] | simp only [k3])
  refine Mixed.wp_region_mixed (fun _=>True) 8 [(0,true),(1,true),(2,true),(3,true),(4,true),(5,true),(6,true),(7,true)] (by kernel_rfl) (by kernel_rfl) trivial ?_
  refine Mixed.wpMix_move rfl (by kernel_rfl) _ rfl _ rfl ?_
  refine Mixed.wpMix_move rfl (by kernel_rfl) _ rfl _ rfl ?_
  refine Mixed.wpMix_move rfl (by kernel_rfl) _ rfl _ rfl ?_
  refine Mixed.wpMix_pure rfl (by kernel_rfl) (.int .i64 1) (fun w h=>by clear h;go_simp;try rfl) ?_
  obtain ⟨q,hq⟩:∃ q,w.heap.size=q:=⟨_,rfl⟩
  rw [hq] at k2 k3 F ⊢
  refine Mixed.wpMix_pure rfl (by kernel_rfl) (.slice (some ⟨q,3,none⟩) 1 (G - 1)) (fun w h=>by clear h;go_simp;try omega) ?_
  refine Mixed.wpMix_move rfl (by kernel_rfl) _ rfl _ rfl ?_
  refine Mixed.wpMix_move rfl (by kernel_rfl) _ rfl _ rfl ?_
  refine Mixed.wpMix_pure rfl (by kernel_rfl) (.slice (some ⟨g,0,none⟩) 1 1) (fun w h=>by clear h;go_simp;try omega) ?_
  simp only [Mixed.wpMix,List.drop_succ_cons,List.drop_zero]
  go_wp2_with (simp only [k3])
  go_ret
  exact ⟨_,G,rfl,F.out.1,F.out.2⟩
end Go.Proofs.YtajlleeonddinaaGreatDoor
namespace Go.Proofs.YtajlleeonddinaaGreatDoor
open Go.RowKit
attribute [local irreducible] Go.Mixed.wpMix
theorem RowS.tail {w:World} {n g:Nat} {x y:Tr} (h:RowS w n g 0 [x,y]):RowS w n g 3 [y]:=by
 obtain ⟨h1,cur,hc,h2⟩:=h
 refine ⟨h1,cur,hc,fun j u hj=>?_⟩
 match j,hj with
 | 0,hj=>exact h2 3 u hj
 | 1,hj=>exact h2 4 u hj
 | 2,hj=>exact h2 5 u hj
 | j+3,hj=>cases hj
theorem accL_len2 (L:List Tr) (h:¬L.length=2):L=accL 1 L:=by unfold accL;rw [if_neg (fun q=>h q.2.1),if_neg (by omega)]
theorem accL_ne (x y:Tr) (h:¬x=accT):[x,y]=accL 1 [x,y]:=by unfold accL;rw [if_neg (fun q=>h (by simpa using q.2.2)),if_neg (by omega)]
theorem accL_eq (y:Tr):[y]=accL 1 [accT,y]:=by unfold accL;rw [if_pos ⟨rfl,rfl,rfl⟩];rfl
theorem accL_len1 (L:List Tr) (h:¬L.length=1):L=accL 2 L:=by unfold accL;rw [if_neg (by omega),if_neg (fun q=>h q.2)]
theorem accL_put (x:Tr):[accT,x]=accL 2 [x]:=by unfold accL;rw [if_neg (by omega),if_pos ⟨rfl,rfl⟩]
theorem accL_other (c:Nat) (L:List Tr) (h1:c≠1) (h2:c≠2):L=accL c L:=by unfold accL;rw [if_neg (fun q=>h1 q.1),if_neg (fun q=>h2 q.1)]
def RetP (w:World) (bd:Nat) (s:ByteArray) (B:Nat) (L:List Tr) (e:Ending) (w':World):Prop:=e=.returned (.tuple #[])∧∃ v',Dr w' bd s v'∧OwnS w' B v' L∧Below B w w'
theorem place_1 (s:ByteArray) (h1:I1 s) (B bd:Nat) (hB:B≤bd) (v:Value) (L:List Tr) (hL:L.length≤1000) (w:World) (hD:Dr w bd s v) (hO:OwnT w B v L) :
  Calls Tryz.prog 101 #[.pointer (some ⟨bd,0,none⟩)] w (RetP w bd s B (accL 1 L)):=by
 obtain ⟨A,cap,rfl,hP,hlc⟩:=hO.ops
 have D0:=Lib.hid hD
 have O0:=Lib.hid hO.own
 by_cases h2:L.length=2
 ·obtain ⟨x,y,rfl⟩:=two_of L h2
  obtain ⟨g,cap',hA,-,-,hR⟩:∃ g cap',(Value.slice A [x,y].length cap)=.slice (some ⟨g,0,none⟩) 2 cap'∧2≤cap'∧cap'≤maxLen∧RowS w B g 0 [x,y]:=by
   have:=hO
   obtain ⟨g,off,c',e,e2,e3,hR⟩:=hO.own.nonnil (by simp)
   have:off=0:=by
    rcases hO.2 with ⟨h,_⟩ | ⟨g',cap',cur,h,_⟩
    ·rw [h] at e;simp at e
    ·rw [h] at e
     simp only [Value.slice.injEq,Option.some.injEq,Addr.mk.injEq,and_true] at e
     exact e.1.2.symm
   subst this
   exact ⟨g,c',e,e2,e3,hR⟩
  simp only [Value.slice.injEq] at hA
  obtain ⟨rfl,-,-⟩:=hA
  have hcm:cap≤maxLen:=by
   obtain ⟨A',cap',e,-,-,h4⟩:=hO.own.ops
   simp only [Value.slice.injEq] at e
   obtain ⟨-,-,rfl⟩:=e
   exact h4
  have hcm':=hcm
  unfold maxLen at hcm'
  have hlc':2≤cap:=hlc
  obtain ⟨p0,p1,p2⟩:=hR.at_ 0 (by simp)
  simp only [List.getElem_cons_zero,Nat.zero_mul,Nat.zero_add] at p0 p1 p2
  obtain ⟨d0,d1,-,-⟩:=hD.cells
  obtain ⟨x0,x1,x2⟩:=x
  simp only at p0 p1 p2
  have R0:=Lib.hid hR
  have CW:Hid (w.drew.cell? ⟨bd,1,none⟩=some (.slice (some ⟨g,0,none⟩) 2 cap)∧w.drew.cell? ⟨g,0,none⟩=some (.int .i64 x0)∧w.drew.cell? ⟨g,1,none⟩=some (.int .i64 x1)∧w.drew.cell? ⟨g,2,none⟩=some (.int .i64 x2)):=⟨d1,p0,p1,p2⟩
  have EN:=Lib.hid (accL_ne (x0,x1,x2) y)
  have SB:Hid (B≤w.heap.size):=Nat.le_trans hB (Nat.le_of_lt hD.lt)
  have HB2:Hid (bd<w.heap.size):=hD.lt
  clear hD hO hP hR p0 p1 p2 h2
  have e2:([(x0,x1,x2),y]:List Tr).length=2:=rfl
  rw [e2] at D0 O0 d1
  clear e2 hL
  rcases h1 with rfl | rfl | rfl | rfl | rfl
  all_goals
   go_enter Tryz.func101,Tryz.ntmps101
   go_wp2
   refine Mixed.wp_region_mixed (fun w'=>w'.cell? ⟨bd,1,none⟩=some (.slice (some ⟨g,0,none⟩) 2 cap)∧w'.cell? ⟨g,0,none⟩=some (.int .i64 x0)∧w'.cell? ⟨g,1,none⟩=some (.int .i64 x1)∧w'.cell? ⟨g,2,none⟩=some (.int .i64 x2)) 16
    [(0,true),(1,true),(2,true),(3,true),(4,true),(5,true),(6,true),(7,true),(8,true),(9,true),(10,true),(11,true),(12,true),(13,true),(14,true),(15,false)] (by kernel_rfl) (by kernel_rfl) CW.out ?_
   refine Mixed.wpMix_move rfl (by kernel_rfl) _ rfl _ rfl ?_
   refine Mixed.wpMix_pure rfl (by kernel_rfl) (.pointer (some ⟨bd,0,none⟩)) (fun w h=>by obtain ⟨h1,h2,h3,h4⟩:=h;go_simp;try rfl) ?_
   refine Mixed.wpMix_pure rfl (by kernel_rfl) (.pointer (some ⟨bd,0,none⟩)) (fun w h=>by obtain ⟨h1,h2,h3,h4⟩:=h;go_simp;try rfl) ?_
   refine Mixed.wpMix_pure rfl (by kernel_rfl) (.pointer (some ⟨bd,1,none⟩)) (fun w h=>by obtain ⟨h1,h2,h3,h4⟩:=h;go_simp;try rfl) ?_
   refine Mixed.wpMix_pure rfl (by kernel_rfl) (.slice (some ⟨g,0,none⟩) 2 cap) (fun w h=>by obtain ⟨h1,h2,h3,h4⟩:=h;go_simp;try rfl) ?_
   refine Mixed.wpMix_pure rfl (by kernel_rfl) (.int .i64 2) (fun w h=>by clear h;go_simp;try rfl) ?_
   refine Mixed.wpMix_pure rfl (by kernel_rfl) (.bool true) (fun w h=>by clear h;go_simp;try rfl) ?_
   refine Mixed.wpMix_move rfl (by kernel_rfl) _ rfl _ rfl ?_
   refine Mixed.wpMix_move rfl (by kernel_rfl) _ rfl _ rfl ?_
   refine Mixed.wpMix_pure rfl (by kernel_rfl) (.pointer (some ⟨bd,0,none⟩)) (fun w h=>by obtain ⟨h1,h2,h3,h4⟩:=h;go_simp;try rfl) ?_
   refine Mixed.wpMix_pure rfl (by kernel_rfl) (.pointer (some ⟨bd,0,none⟩)) (fun w h=>by obtain ⟨h1,h2,h3,h4⟩:=h;go_simp;try rfl) ?_
   refine Mixed.wpMix_pure rfl (by kernel_rfl) (.pointer (some ⟨bd,1,none⟩)) (fun w h=>by obtain ⟨h1,h2,h3,h4⟩:=h;go_simp;try rfl) ?_
   refine Mixed.wpMix_pure rfl (by kernel_rfl) (.slice (some ⟨g,0,none⟩) 2 cap) (fun w h=>by obtain ⟨h1,h2,h3,h4⟩:=h;go_simp;try rfl) ?_
   refine Mixed.wpMix_pure rfl (by kernel_rfl) (.pointer (some ⟨g,0,none⟩)) (fun w h=>by obtain ⟨h1,h2,h3,h4⟩:=h;go_simp;try rfl) ?_
   refine Mixed.wpMix_pure rfl (by kernel_rfl) (.agg #[.int .i64 x0,.int .i64 x1,.int .i64 x2]) (fun w h=>by obtain ⟨h1,h2,h3,h4⟩:=h;go_simp;try rfl) ?_
   refine Mixed.wpMix_loudG rfl (by kernel_rfl) ?_
   go_wp2_with fail
   refine (acc_any _).mono ?_
   rintro e w1 ⟨rfl,hb⟩
   have D1:=Lib.hid (D0.out.below (w':=w1) ((below_drewN _ _ 1).trans hb))
   have O1:=Lib.hid (O0.out.below (w':=w1) ((below_drewN _ _ 1).trans hb))
   have R1:=Lib.hid (R0.out.below (w':=w1) ((below_drewN _ _ 1).trans hb))
   have B1:Hid (Below B w w1):=((below_drewN w _ 1).trans hb).mono SB.out
   obtain ⟨e0,e1,-,f1⟩:=D1.out.cells
   obtain ⟨q0,q1,q2⟩:=R1.out.at_ 0 (by simp)
   simp only [List.getElem_cons_zero,Nat.zero_mul,Nat.zero_add] at q0 q1 q2
   have xx:w1.cell? ⟨bd,1,none⟩=some (.slice (some ⟨g,0,none⟩) 2 cap)∧w1.cell? ⟨g,0,none⟩=some (.int .i64 x0)∧w1.cell? ⟨g,1,none⟩=some (.int .i64 x1)∧w1.cell? ⟨g,2,none⟩=some (.int .i64 x2):=⟨e1,q0,q1,q2⟩
   clear hb D0 O0 R0 q0 q1 q2 e0 e1 d0 d1
   go_wp2
   refine ⟨xx,?_⟩
   clear xx
   simp only [Mixed.wpMix,List.drop_succ_cons,List.drop_zero]
   by_cases hx:(x0,x1,x2)=accT
   ·simp only [accT,Prod.mk.injEq] at hx
    obtain ⟨rfl,rfl,rfl⟩:=hx
    have hc1:¬(cap=1):=by omega
    have D2:=Lib.hid (D1.out.put (.slice (some ⟨g,3,none⟩) 1 (cap - 1)))
    have O2:Hid (OwnS (w1.setCell ⟨bd,1,none⟩ (.slice (some ⟨g,3,none⟩) 1 (cap - 1))) B (.slice (some ⟨g,3,none⟩) 1 (cap - 1)) (accL 1 [(1,7,0),y])):=by
     rw [show accL 1 [((1:Int),(7:Int),(0:Int)),y]=[y] from (accL_eq y).symm]
     exact OwnS.other (.inr ⟨g,3,cap - 1,rfl,by simp;omega,by omega,R1.out.tail⟩) D1.out 1
    have B2:Hid (Below B w (w1.setCell ⟨bd,1,none⟩ (.slice (some ⟨g,3,none⟩) 1 (cap - 1)))):=B1.out.setCell (p:=⟨bd,1,none⟩) hB _
    obtain ⟨e0,e1,-,f1⟩:=D1.out.cells
    clear D1 O1 R1 B1
    go_wp2
    go_end0
    exact ⟨rfl,_,D2.out,O2.out,B2.out⟩
   ·have EE:=Lib.hid (EN.out hx)
    have hn:=tr_ne hx
    simp only [accT] at hn
    obtain ⟨e0,e1,-,f1⟩:=D1.out.cells
    rcases hn with h | ⟨rfl,h⟩ | ⟨rfl,rfl,h⟩
    all_goals
     go_wp2
     go_end0
     rw [← EE.out]
     exact ⟨rfl,_,D1.out,O1.out,B1.out⟩
 ·have EE:=Lib.hid (accL_len2 L h2)
  obtain ⟨d0,d1,-,-⟩:=hD.cells
  obtain ⟨n,hn⟩:∃ n,L.length=n:=⟨_,rfl⟩
  rw [hn] at D0 O0 d1 h2 hL
  have h3:¬((n:Int)=2):=by omega
  clear hD hO hP hn hlc
  rcases h1 with rfl | rfl | rfl | rfl | rfl
  all_goals
   go_enter Tryz.func101,Tryz.ntmps101
   go_wp2
   go_quiet (fail)
   go_wp2
   go_end0
   rw [← EE.out]
   exact ⟨rfl,_,D0.out,O0.out,below_drewN _ _ _⟩
end Go.Proofs.YtajlleeonddinaaGreatDoor
