/-
  SeReqRSK, SeRfqRSK, LpAqRSK, CoAqRSK, CoBqRSK, CoCqRSK, LpBqRSK, CoDqRSK, CoEqRSK, CoFqRSK, CoGqRSK, SeKqRSK.
-/
import Derived.Test.YtjafbmfcedijmaaGreatDoorKAH
import Derived.Deep.CutBlock
set_option linter.all false
set_option maxRecDepth 100000
set_option maxHeartbeats 4000000
namespace Go.Proofs.YtjafbmfcedijmaaGreatDoor
open Tryz
open Go.RowKit Go.Shelf
attribute [local go_sem] Oper.semAt_some
attribute [local irreducible] Go.Mixed.qD8
theorem quL {m ex:Str} {L:List Tr} {s:ByteArray} {C:List Tr} {k:Nat} (h:k<C.length) (y:qhV ex L k (C.getD k tr0)=false):qa3 m L ex s C=false:=by
 unfold qa3;rw [show ((List.range C.length).all fun k=>qhV ex L k (C.getD k tr0))=false from List.all_eq_false.2 ⟨k,QW.2 h,by rw [y];decide⟩];simp
theorem qtd {m ex:Str} {L:List Tr} {s:ByteArray} {C:List Tr} (h:qfU m L s C=true) (z:∀ k,k<C.length->qhV ex L k (C.getD k tr0)=true):qa3 m L ex s C=true:=by
 unfold qa3;rw [h,show ((List.range C.length).all fun k=>qhV ex L k (C.getD k tr0))=true from QR.2 fun k y=>z k (QW.1 y)];rfl
theorem qlT (ad ah:Int) (m:Str) (A:Option Addr) (cap l:Nat) (L:List Tr) (aP:L.length=l) (bt:l<=1000) (ex:Str) (bJ:ex.length<=1000) (al:Bool) (s:ByteArray) (an:Option Addr) (az ae:Nat) (I:List Tr) (bR:I.length=ae) (ce:ae<=900) (w:World) (H:qaj w A L) (bp:qaj w an I) :
  Calls prog 74 #[enV ad ah m (.slice A l cap) ex al,.agg #[.string s,.slice an ae az]] w fun ab z=>ab=.returned (.bool (qa3 m L ex s (canL (opc s) I)))/\Below w.heap.size w z:=by
 have aF:=fun w b=>qjc s an az I (by omega) w b
 rw [bR] at aF;have bm:=qdR (opc s) I;obtain ⟨n,bb⟩:=N9 (canL (opc s) I);rw [bb] at aF bm;rw [bb];obtain ⟨y,a9⟩:=N9 (n.length);have bW:y<=1000:=by omega
 have aX:=fun x (bd:x<l) z b=>qh9 ad ah m A cap l L aP bt ex bJ al x bd z b
 have aZ:=fun aC R z h i=>qiG ad ah m A cap l L aP bt ex al s aC R y n a9 bW z h i
 unfold enV at aX aZ |-;obtain ⟨ax,au⟩:=N9 ((w.alloc (.cells #[.int .i64 ad,.int .u8 ah,.string (sB m),.slice A l cap,.string (sB ex),.bool al] 66)).alloc (.cells #[.string s,.slice an ae az] 24));obtain ⟨q,ac⟩:=N9 (w.heap.size);have aA:Below q w ax:=by rw [<- au,<- ac];exact ((B0 (w:=w))).alloc (by simp) _
 have b1:ax.heap.size=q+1+1:=by rw [<- au,<- ac];simp
 have bD:ax.heap[q]?=some (.cells #[.int .i64 ad,.int .u8 ah,.string (sB m),.slice A l cap,.string (sB ex),.bool al] 66 (0,0)):=by
  rw [<- au,<- ac];exact (Below.heap_alloc _ _ _ (by simp)).trans (World.alloc_heap_new w _)
 have aY:ax.heap[q+1]?=some (.cells #[.string s,.slice an ae az] 24 (0,0)):=by
  rw [<- au,<- ac];have b:=World.alloc_heap_new (w.alloc (.cells #[.int .i64 ad,.int .u8 ah,.string (sB m),.slice A l cap,.string (sB ex),.bool al] 66)) (.cells #[.string s,.slice an ae az] 24)
  rwa [QL] at b
 have bI:=J9 (aF ax (bp.below (by rw [ac];exact aA)));have bS:=J9 aX;have bB:=J9 aZ;have aI:=J9 ac;have B0:=J9 aA;have bq:=J9 bD;have bM:=J9 (H.below (by rw [ac];exact aA));have bH:=J9 aP;have aK:=J9 a9;have b3:=C9 aY 0;have bP:=C9 aY 1;clear aF aX aZ bD aY aA H bp bJ bb bm aP a9
 go_enter func74,ntmps74
 go_wp2_with fail
 refine bI.o.mono ?_;rintro ab bc ⟨cd,rfl,bs,r⟩;obtain ⟨aC,R,rfl,bn,-,-⟩:=bs.ops;rw [aK.o];have bg:=J9 (B0.o.trans (r.mono (by omega)));have bw:=J9 ((r.block q (by omega)).trans bq.o);have bE:=J9 (bM.o.below r);have R1:=J9 bn;have bv:Hid (q+2<=bc.heap.size):=by have:=r.size;show _<=_;omega
 clear bI r bs bn B0 bq bM b3 bP au b1
 go_upto_region 2 with fail
 obtain ⟨E,be⟩:=N9 (bc.heap.size);obtain ⟨b6,bF,aQ,v,b5⟩:=qjT bc s (.slice aC y R) E be;rw [bF,be];have cc:q+2<=E:=by have:=bv.o;omega
 have bu:=J9 (bg.o.trans (v.mono (by omega)));have aR:=J9 (bE.o.below v);have R2:=J9 (R1.o.below v);have M:=J9 ((v.block q (by omega)).trans bw.o);have bz:=J9 aQ;have br:=bB.o aC R b6 aR.o R2.o;have aS:=C9 M.o 0;have aV:=C9 M.o 1;have aU:=C9 M.o 2;have a4:=C9 M.o 3;have a2:=C9 M.o 4;have a3:=C9 M.o 5;have bZ:=C9 aQ 0;have V:=C9 aQ 1;clear bF be aQ v bg bE R1 bw bv bB
 go_wp2_with fail
 refine br.mono ?_;rintro ab am ⟨rfl,r⟩;have aO:=J9 (bu.o.trans (r.mono (by omega)));have bh:=J9 (aR.o.below r);have ay:=J9 (R2.o.below r);have bQ:=J9 ((r.block q (by omega)).trans M.o);have bC:=J9 ((r.block E (by omega)).trans bz.o);have ar:Hid (E+1<=am.heap.size):=by have:=r.size;show _<=_;omega
 clear br r bu aR R2 M bz aS aV aU a4 a2 a3 bZ V b5;cases av:qfU m L s n with
 | false=>
  have T:Hid (false=qa3 m L ex s n):=by show false=_;unfold qa3;rw [av];rfl
  clear av;go_wp2;go_ret;exact ⟨qaa T.o,by rw [aI.o];exact aO.o⟩
 | true=>
  have bX:y=l:=by
   have h:=av;unfold qfU at h;simp only [Qh,Ql] at h;have:=qat h.2;have:=bH.o;have:=aK.o;omega
  subst bX;have b2:=J9 av;have V:=C9 bC.o 1;clear av;go_wp2;clear V
  go_loopw [6] (fun a6 wr=>∃ e:Nat,e<=y/\a6=.int .i64 e/\Hid (∀ x,x<e->qhV ex L x (n.getD x tr0)=true)/\Hid (Below am.heap.size am wr)) (fun a6 _=>y - (intOf a6).toNat)
  case atStart=>exact ⟨0,Qs _,rfl,fun x b=>by omega,Qc _ _⟩
  case round=>
   obtain ⟨e,cf,rfl,aE,K⟩:=hrel;have J:=(K.o.block q (by have:=ar.o;omega)).trans bQ.o;have aN:=(K.o.block E (by have:=ar.o;omega)).trans bC.o;have V:=C9 aN 1;have bL:Hid (Below q w wr):=aO.o.trans (K.o.mono (by have:=ar.o;omega));by_cases bY:e<y
   ·have aT:e<L.length:=by have:=bH.o;omega
    have aJ:e<n.length:=(by have:=aK.o;omega);have aW:=bS.o e bY wr (bh.o.below K.o);have aS:=C9 J 0;have aV:=C9 J 1;have aU:=C9 J 2;have a4:=C9 J 3;have a2:=C9 J 4;have a3:=C9 J 5;have bx:L.getD e tr0=L[e]:=(by rw [Qo,Qi aT];rfl);have bN:n.getD e tr0=n[e]:=(by rw [Qo,Qi aJ];rfl);have a7:=J9 J;have a5:=J9 aN;have aj:Hid (qhV ex L e (n.getD e tr0)=true->∀ x,x<e+1->qhV ex L x (n.getD x tr0)=true):=fun b x bd=>by
     by_cases ab:x=e
     ·subst ab;exact b
     ·exact aE.o x (by omega)
    have ag:Hid (qhV ex L e (n.getD e tr0)=false->qa3 m L ex s n=false):=(fun b=>quL aJ b);have U:Hid (qhV ex L e (n.getD e tr0)=if letR ex L e=0 then decide ((L.getD e tr0).2.2=(n.getD e tr0).2.2) else withR (letR ex L e) (n.getD e tr0).2.2):=(by show _=_;unfold qhV;rfl);obtain ⟨O,bA⟩:=N9 (letR ex L e);rw [bA] at aW U;have bO:=qdK O 0;clear bA J aN aE
    go_wp2_with fail
    refine aW.mono ?_;rintro ab a8 ⟨rfl,r⟩;have aD:=J9 (K.o.trans (r.mono K.o.size));have bl:=(r.block q (Qb.1 a7.o).1).trans a7.o;have bf:=(r.block E (Qb.1 a5.o).1).trans a5.o;obtain ⟨Z,aa,rfl,-,b4,bT,aH⟩:=(bh.o.below aD.o).at_ aT;obtain ⟨C,B,rfl,-,bV,b7,aB⟩:=(ay.o.below aD.o).at_ aJ;rw [<- bx] at aH;rw [<- bN] at aB;obtain ⟨ao,bo⟩:=N9 ((L.getD e tr0).2.2);obtain ⟨v,bG⟩:=N9 ((n.getD e tr0).2.2);rw [bo] at aH U;rw [bG] at aB U;have bk:=(fun aw=>J9 (aD.o.trans (below_drewN a8 am.heap.size aw)));have b0:Hid (∀ aw,Below q w (a8.drewN aw)):=(fun aw=>aO.o.trans ((bk aw).o.mono (by have:=ar.o;omega)));have bK:=C9 bl 3;have V:=C9 bf 1;have b9:(e:Int)<(y:Int):=(by omega);clear aW r aS aV aU a4 a2 a3 bx bN aT aJ b4 bT bV b7 bo bG bl bf bL K a7 a5;obtain ⟨af,aL⟩:=N9 ((O.toNat:Int));have ap:((af:Int) == 0)=decide (O=0):=(by rw [<- aL];exact qdK O 0);have aM:=(fun z=>qev O v z);rw [aL] at aM |-;clear bO
    go_upto_region 8 with fail
    obtain ⟨ak,aq⟩:=N9 (a8.drew);have aG:Hid (ak.cell? ⟨q,3,none⟩=some (.slice (some ⟨Z,aa,none⟩) y cap)/\ak.cell? ⟨E,1,none⟩=some (.slice (some ⟨C,B,none⟩) y R)/\ak.cell? ⟨Z,aa+e*3+2,none⟩=some (.int .i64 ao)/\ak.cell? ⟨C,B+e*3+2,none⟩=some (.int .i64 v)):=(by rw [<- aq];exact ⟨bK,V,aH,aB⟩);have a1:Hid (Below am.heap.size am ak):=(by rw [<- aq];exact aD.drew);have bi:Hid (Below q w ak):=aO.o.trans (a1.o.mono (by have:=ar.o;omega));clear bK V aH aB bk b0;refine Mixed.qD5 (fun z=>z.cell? ⟨q,3,none⟩=some (.slice (some ⟨Z,aa,none⟩) y cap)/\z.cell? ⟨E,1,none⟩=some (.slice (some ⟨C,B,none⟩) y R)/\z.cell? ⟨Z,aa+e*3+2,none⟩=some (.int .i64 ao)/\z.cell? ⟨C,B+e*3+2,none⟩=some (.int .i64 v)) 32 [(0,true),(1,true),(2,true),(3,true),(4,true),(5,true),(6,true),(7,true),(8,true),(9,true),(10,true),(11,true),(12,true),(13,true),(14,true),(15,true),(16,true),(17,true),(18,true),(19,true),(20,true),(21,true),(22,true),(23,true),(24,true),(25,true),(26,true),(27,true),(28,true),(29,false),(30,true),(31,true)] (by kernel_rfl) (by kernel_rfl) (by rw [aq];exact aG.o) ?_;rw [aq];clear aq;by_cases ai:O=0
    ·have G:Hid (qhV ex L e (n.getD e tr0)=decide (ao=v)):=by show _=_;rw [U.o,Qk ai]
     rw [Qn ai] at ap;obtain rfl:af=0:=by simpa using ap
     clear U ai aL aM ap;refine Mixed.mo rfl (.int .u8 0) (fun w b=>by obtain ⟨h,i,k,j⟩:=b;go_simp;try rfl) ?_;refine Mixed.mo rfl (.bool true) (fun w b=>by obtain ⟨h,i,k,j⟩:=b;go_simp;try rfl) ?_;refine Mixed.mp rfl (.bool true) ?_;refine Mixed.mp rfl (.pointer (some ⟨q,2,none⟩)) ?_;refine Mixed.mp rfl (.pointer (some ⟨q,3,none⟩)) ?_;refine Mixed.mo rfl (.slice (some ⟨Z,aa,none⟩) y cap) (fun w b=>by obtain ⟨h,i,k,j⟩:=b;go_simp;try rfl) ?_;refine Mixed.mp rfl (.int .i64 e) ?_;refine Mixed.mo rfl (.pointer (some ⟨Z,aa+e*3,none⟩)) (fun w b=>by obtain ⟨h,i,k,j⟩:=b;go_simp;try rfl) ?_;refine Mixed.mo rfl (.pointer (some ⟨Z,aa+e*3+2,none⟩)) (fun w b=>by obtain ⟨h,i,k,j⟩:=b;go_simp;try rfl) ?_;refine Mixed.mo rfl (.int .i64 ao) (fun w b=>by obtain ⟨h,i,k,j⟩:=b;go_simp;try rfl) ?_;refine Mixed.mp rfl (.pointer (some ⟨E,1,none⟩)) ?_;refine Mixed.mo rfl (.slice (some ⟨C,B,none⟩) y R) (fun w b=>by obtain ⟨h,i,k,j⟩:=b;go_simp;try rfl) ?_;refine Mixed.mp rfl (.int .i64 e) ?_;refine Mixed.mo rfl (.pointer (some ⟨C,B+e*3,none⟩)) (fun w b=>by obtain ⟨h,i,k,j⟩:=b;go_simp;try rfl) ?_;refine Mixed.mo rfl (.pointer (some ⟨C,B+e*3+2,none⟩)) (fun w b=>by obtain ⟨h,i,k,j⟩:=b;go_simp;try rfl) ?_;refine Mixed.mo rfl (.int .i64 v) (fun w b=>by obtain ⟨h,i,k,j⟩:=b;go_simp;try rfl) ?_;by_cases a0:ao=v
     ·subst a0
      have ay:=J9 (aj.o (by rw [G.o];exact Qn rfl));clear aj ag G;refine Mixed.mo rfl (.bool false) (fun w b=>by obtain ⟨h,i,k,j⟩:=b;go_simp;try rfl) ?_;refine Mixed.mp rfl (.bool false) ?_;refine Mixed.mp rfl (.bool false) ?_;refine Mixed.mo rfl (.int .u8 0) (fun w b=>by obtain ⟨h,i,k,j⟩:=b;go_simp;try rfl) ?_;refine Mixed.mo rfl (.bool false) (fun w b=>by obtain ⟨h,i,k,j⟩:=b;go_simp;try rfl) ?_;refine Mixed.mp rfl (.bool false) ?_
      iterate 7 refine Mixed.ms rfl ?_
      refine Mixed.qEC rfl (by kernel_rfl) aG.o ?_
      iterate 1 refine Mixed.ms rfl ?_
      refine Mixed.mp rfl (.bool false) ?_;simp only [Mixed.qD8,Qq,Qy];go_wp2;go_roundw
      case rel=>exact ⟨e+1,by omega,by go_num,ay.o,a1.o⟩
      case measure=>simp [intOf];omega
     ·have T:=J9 (ag.o (by rw [G.o];exact Qf a0))
      have ca:(ao == v)=false:=Qj.2 a0;clear aj ag G;refine Mixed.mo rfl (.bool true) (fun w b=>by obtain ⟨h,i,k,j⟩:=b;go_simp;try rfl) ?_;refine Mixed.mp rfl (.bool true) ?_;refine Mixed.mp rfl (.bool true) ?_
      iterate 10 refine Mixed.ms rfl ?_
      refine Mixed.qEC rfl (by kernel_rfl) aG.o ?_
      iterate 2 refine Mixed.ms rfl ?_
      simp only [Mixed.qD8,Qq,Qy];go_wp2;go_ret;exact ⟨qaa T.o.symm,by rw [aI.o];exact bi.o⟩
    ·have G:Hid (qhV ex L e (n.getD e tr0)=withR O v):=by show _=_;rw [U.o,Qd ai]
     rw [Qf ai] at ap;obtain ⟨bU,bj⟩:=N9 (withR O v);rw [bj] at aM G;have cg:¬af=0:=fun b=>by rw [b] at ap;simp at ap
     clear U ai bj aL;refine Mixed.mo rfl (.int .u8 af) (fun w b=>by obtain ⟨h,i,k,j⟩:=b;go_simp;try rfl) ?_;refine Mixed.mo rfl (.bool false) (fun w b=>by obtain ⟨h,i,k,j⟩:=b;go_simp;try rfl) ?_;refine Mixed.mp rfl (.bool false) ?_
     iterate 14 refine Mixed.ms rfl ?_
     refine Mixed.mp rfl (.bool false) ?_;refine Mixed.mp rfl (.bool false) ?_;refine Mixed.mo rfl (.int .u8 af) (fun w b=>by obtain ⟨h,i,k,j⟩:=b;go_simp;try rfl) ?_;refine Mixed.mo rfl (.bool true) (fun w b=>by obtain ⟨h,i,k,j⟩:=b;go_simp;try rfl) ?_;refine Mixed.mp rfl (.bool true) ?_;refine Mixed.mo rfl (.int .u8 af) (fun w b=>by obtain ⟨h,i,k,j⟩:=b;go_simp;try rfl) ?_;refine Mixed.mp rfl (.pointer (some ⟨E,1,none⟩)) ?_;refine Mixed.mo rfl (.slice (some ⟨C,B,none⟩) y R) (fun w b=>by obtain ⟨h,i,k,j⟩:=b;go_simp;try rfl) ?_;refine Mixed.mp rfl (.int .i64 e) ?_;refine Mixed.mo rfl (.pointer (some ⟨C,B+e*3,none⟩)) (fun w b=>by obtain ⟨h,i,k,j⟩:=b;go_simp;try rfl) ?_;refine Mixed.mo rfl (.pointer (some ⟨C,B+e*3+2,none⟩)) (fun w b=>by obtain ⟨h,i,k,j⟩:=b;go_simp;try rfl) ?_;refine Mixed.mo rfl (.int .i64 v) (fun w b=>by obtain ⟨h,i,k,j⟩:=b;go_simp;try rfl) ?_;refine Mixed.qD6 rfl (by kernel_rfl) ?_
     go_wp2_with fail
     refine (aM _).mono ?_;rintro ab b8 ⟨rfl,rfl⟩;go_wp2;refine ⟨aG.o,?_⟩;cases bU with
     | true=>
      have ay:=J9 (aj.o G.o);clear aj ag G;refine Mixed.mo rfl (.bool false) (fun w b=>by obtain ⟨h,i,k,j⟩:=b;go_simp;try rfl) ?_;refine Mixed.mp rfl (.bool false) ?_;simp only [Mixed.qD8,Qq,Qy];go_wp2;go_roundw
      case rel=>exact ⟨e+1,by omega,by go_num,ay.o,a1.o⟩
      case measure=>simp [intOf];omega
     | false=>
      have T:=J9 (ag.o G.o);clear aj ag G;refine Mixed.mo rfl (.bool true) (fun w b=>by obtain ⟨h,i,k,j⟩:=b;go_simp;try rfl) ?_;refine Mixed.mp rfl (.bool true) ?_;simp only [Mixed.qD8,Qq,Qy];go_wp2;go_ret;exact ⟨qaa T.o.symm,by rw [aI.o];exact bi.o⟩
   ·obtain rfl:e=y:=by omega
    have T:Hid (true=qa3 m L ex s n):=by
     show true=_;exact (qtd b2.o (fun x bd=>aE.o x (by have:=aK.o;omega))).symm
    clear aE K J aN;go_wp2;go_ret;exact ⟨qaa T.o,by rw [aI.o];exact bL.o⟩
end Go.Proofs.YtjafbmfcedijmaaGreatDoor
namespace Go.Proofs.YtjafbmfcedijmaaGreatDoor
open Tryz
open Go.RowKit Go.Shelf
attribute [local go_sem] Oper.semAt_some
def qlE (C:List Tr):Int:=if C.any qgi=true then 3 else 0
def quq (C:List Tr):Int:=if C.any qgi=true then 6 else 2
theorem qkT (s:ByteArray) (R:Option Addr) (ad o:Nat) (C:List Tr) (ak:C.length=o) (aK:o<=1000) (w:World) (am:qaj w R C) :
  Calls prog 70 #[.agg #[.string s,.slice R o ad]] w fun ai aF=>ai=.returned (.int .i64 (qlE C))/\Below w.heap.size w aF:=by
 obtain ⟨U,ab⟩:=N9 (w.alloc (.cells #[.string s,.slice R o ad] 24));obtain ⟨av,aw⟩:=N9 (w.heap.size);have aa:Below w.heap.size w U:=by rw [<- ab];exact up1 _ _
 have af:U.heap[av]?=some (.cells #[.string s,.slice R o ad] 24 (0,0)):=by rw [<- ab,<- aw];exact World.alloc_heap_new w _
 have B0:=J9 aa;have aE:=J9 (am.below aa);have ap:=J9 af;have ax:=J9 ak;have aP:=J9 aw;have an:=C9 af 1;clear am aa af ak
 go_enter func70,ntmps70
 go_wp2;clear an ab
 go_loopw [3] (fun Z wr=>∃ h:Nat,h<=o/\Z=.int .i64 h/\Hid (∀ i (y:i<C.length),i<h->qgi C[i]=false)/\Hid (Below w.heap.size w wr)/\Hid (Below U.heap.size U wr)) (fun Z _=>o - (intOf Z).toNat)
 case atStart=>exact ⟨0,Qs _,rfl,fun i y aC=>by omega,B0.o,Qc _ _⟩
 case round=>
  obtain ⟨h,aI,rfl,M,O,G⟩:=hrel;have ac:=(G.o.block av (Qb.1 ap.o).1).trans ap.o;have an:=C9 ac 1;by_cases aL:h<o
  ·have ag:h<C.length:=by have:=ax.o;omega
   obtain ⟨aG,aJ,rfl,az,ar,au,aq⟩:=(aE.o.below G.o).at_ ag;have k:Hid (qgi C[h]=true->qlE C=3):=fun y=>by
    unfold qlE;rw [Qk (Zr.2 ⟨_,QB ag,y⟩)]
   have j:Hid (qgi C[h]=false->∀ i (y:i<C.length),i<h+1->qgi C[i]=false):=fun y i aB aC=>by
    by_cases ai:i=h
    ·subst ai;exact y
    ·exact M.o i aB (by omega)
   obtain ⟨⟨n,x,E⟩,ay⟩:=N9 (C[h]);rw [ay] at ar au aq k j;simp only at ar au aq;have J:=(fun ah=>J9 (O.o.trans ((up1 wr ah).mono O.o.size)));have aj:=(fun ah=>J9 (G.o.trans ((up1 wr ah).mono G.o.size)));have aN:(h:Int)<(o:Int):=(by omega);clear ay ag M ac az O G;by_cases B:n=2
   ·subst B
    have e:qgi (2,x,E)=true:=rfl;have z:=J9 (k.o e);clear k j e;go_wp2;go_ret;exact ⟨by rw [z.o];rfl,(J _).o⟩
   ·have aH:(n == 2)=false:=Qj.2 B
    by_cases K:3<=n
    ·by_cases T:n<=5
     ·by_cases V:x=5
      ·subst V
       have e:qgi (n,5,E)=true:=(by unfold qgi;simp [B,K,T]);have z:=J9 (k.o e);clear k j e;go_wp2;go_ret;exact ⟨by rw [z.o];rfl,(J _).o⟩
      ·have aQ:(x == 5)=false:=Qj.2 V
       by_cases ae:x=6
       ·subst ae
        have e:qgi (n,6,E)=true:=(by unfold qgi;simp [B,K,T]);have z:=J9 (k.o e);clear k j e;go_wp2;go_ret;exact ⟨by rw [z.o];rfl,(J _).o⟩
       ·have aO:(x == 6)=false:=Qj.2 ae
        have e:qgi (n,x,E)=false:=(by unfold qgi;simp [B,K,T,V,ae]);have R2:=J9 (j.o e);clear k j e;go_wp2;go_roundw
        case rel=>exact ⟨h+1,by omega,by go_num,R2.o,(J _).o,(aj _).o⟩
        case measure=>simp [intOf];omega
     ·have e:qgi (n,x,E)=false:=by unfold qgi;simp [B,K,T]
      have R2:=J9 (j.o e);clear k j e;go_wp2;go_roundw
      case rel=>exact ⟨h+1,by omega,by go_num,R2.o,(J _).o,(aj _).o⟩
      case measure=>simp [intOf];omega
    ·have e:qgi (n,x,E)=false:=by unfold qgi;simp [B,K]
     have R2:=J9 (j.o e);clear k j e;go_wp2;go_roundw
     case rel=>exact ⟨h+1,by omega,by go_num,R2.o,(J _).o,(aj _).o⟩
     case measure=>simp [intOf];omega
  ·have z:Hid (qlE C=0):=by
    show qlE C=0;unfold qlE;rw [Qd];intro y;obtain ⟨aM,aA,ao⟩:=Zr.1 y;obtain ⟨i,aD,rfl⟩:=Zg aA;rw [M.o i aD (by have:=ax.o;omega)] at ao;cases ao
   clear M ac G;go_wp2;go_ret;exact ⟨by rw [z.o];rfl,O.o⟩
theorem qtK (s:ByteArray) (h:Option Addr) (y e:Nat) (C:List Tr) (z:C.length=e) (U:e<=1000) (w:World) (E:qaj w h C) :
  Calls prog 71 #[.agg #[.string s,.slice h e y]] w fun K V=>K=.returned (.int .i64 (quq C))/\Below w.heap.size w V:=by
 have q:=up1 w (.cells #[.string s,.slice h e y] 24);have f:=qkT s h y e C z U _ (E.below q);have B0:=J9 q;obtain ⟨O,M⟩:=N9 (C.any qgi);unfold qlE at f;unfold quq;rw [M] at f |-;clear E z M q
 go_enter func71,ntmps71
 go_wp2_with fail
 refine f.mono ?_;rintro K Z ⟨rfl,J⟩;have G:=J9 (B0.o.trans (J.mono B0.o.size));clear f J B0;cases O with
 | true=>
  simp only [Qk];go_wp2;go_ret;exact ⟨rfl,G.o⟩
 | false=>
  simp only [Bool.false_eq_true,if_false];go_wp2;go_ret;exact ⟨rfl,G.o⟩
end Go.Proofs.YtjafbmfcedijmaaGreatDoor
namespace Go.Stops
open Go Go.RowKit
variable {F:Fence} {n:Nat} {P:Program}
theorem qEZ {k:Type} {g:Operand} {ps:Array Tmp} {assign body:Code} {Q:Exit->Act->World->Prop} {a:Act} {w:World} (aK:F.round=none) (a0:1<=n)
  {gf:Nat} {lb:Array Value} (aN:a.eval g=.func (.func gf) #[] lb) (aT:F.fn gf) (aF:∀ args w,(callFunc gf args).run P w=.ok (.enter gf args) w)
  {ae:k->Array Value} {ao:List k->k->Prop} {ai:Nat} {E:World->World->Prop} {S:List k->Prop} (a5:qFi F (n - 1) P gf lb ae ao ai E S w) (bg:ai<w.heap.size)
  (ah:∀ {A B C:World},E A B->E B C->E A C) (az:∀ (W:World) (l:Nat) (o aL:Obj),w.heap.size<=l->W.heap[l]?=some o->o.isCells=false->E W (W.putObj l aL)) (aM:∀ x,(ae x).size=ps.size)
  (I ag:List k->World->Prop) (Z:OwnFrom w.heap.size I) (a9:Apart ai I) (aj:OwnFrom w.heap.size ag) (a6:I [] w) (af:k->Act->World->Prop) (aR:∀ x,OwnFrom w.heap.size (af x))
  (aU:∀ (l:Nat) (e:List k) (x:k) (W:World) (au:Act->World->Prop),I e W->ao e x->(∀ J ac,KeepsFrom w.heap.size W ac->E W ac->I e ac->af x J ac->au J ac)->
   assign.wpIn (F.inRound l) (n - 1 - 1) P (Exit.then au (fun _ _ _=>False)) {tmps:=(ps.zip (ae x)).foldl (fun t (p,v)=>t.setIfInBounds p v) a.tmps,defers:=[]} W)
  (a1:∀ (l:Nat) (e:List k) (x:k) (J:Act) (W:World),w.heap.size<=l->(∃ r,W.heap[l]?=some (.loop r))->I e W->af x J W->ao e x->body.wpIn (F.inRound l) (n - 1 - 1) P (qoj w.heap.size E I ag (e++[x]) W) J W)
  (aH:∀ (D:Nat) (xs:List k) (W:World),w.heap.size<=D->S xs->I xs W->W.heap[D]?=some (.deferred (some []))->Q .normal {a with defers:={target:=.collected D,args:=#[]} :: a.defers} W)
  (aE:∀ (D:Nat) (e:List k) (W:World),w.heap.size<=D->ag e W->W.heap[D]?=some (.deferred (some []))->Code.ret.wpIn F n P Q {a with defers:={target:=.collected D,args:=#[]} :: a.defers} W) :
  (Code.rangeFunc g ps assign body).wpIn F n P Q a w:=by
 refine wpIn_rangeFunc fun fn a2=>?_
 rw [aK];let s:LoopState->Option Code->Loop:=fun aG aS=>{state:=aG,pending:=aS,fn:=fn,tmps:=a.tmps,params:=ps,assign:=assign,body:=body,defers:=w.heap.size}
 let B:World:=(w.alloc (.deferred (some []))).alloc (.loop (s .ready none));have a7:B.heap[w.heap.size]?=some (.deferred (some [])):=(Below.heap_alloc _ _ _ (by simp)).trans (World.alloc_heap_new w _);have a4:B.heap[w.heap.size+1]?=some (.loop (s .ready none)):=by
  have a8:=World.alloc_heap_new (w.alloc (.deferred (some []))) (.loop (s .ready none))
  rwa [QL] at a8
 have aI:I [] B:=Z.alloc _ (Z.alloc _ a6);have aP:Below w.heap.size w B:=((B0 (w:=w))).alloc (by simp) _;have bb:B.heap.size=w.heap.size+1+1:=by simp [B]
 -- what a turn of a walk of the iterator's own leaves of the two blocks
 have walk:∀ {h Y:World} {row:Option Nat} {O:Nat} {o:Obj},h.grownBy Y row->(∀ r,row=some r->B.heap.size<=r/\∃ o:Obj,h.heap[r]?=some o/\o.isWalk=true)->h.heap[O]?=some o->O<w.heap.size+2->Y.heap[O]?=some o:=fun j q ap be=>
  (j.block _ (Qb.1 ap).1 fun aa=>by have:=(q _ aa.symm).1;omega).trans ap
 have ar:∀ {h Y:World} {row:Option Nat},(∀ r,row=some r->B.heap.size<=r/\∃ o:Obj,h.heap[r]?=some o/\o.isWalk=true)->(∀ r,row=some r->w.heap.size<=r/\∃ o:Obj,h.heap[r]?=some o/\o.isCells=false):=fun q r aa=>by
  obtain ⟨bc,o,aO,a3⟩:=q r aa;exact ⟨by omega,o,aO,Obj.not_cells_of_walk a3⟩
 refine ⟨w.heap.size+1,[{target:=.collected w.heap.size,args:=#[]}],B,{target:=.fn (.func gf) lb,args:=#[.func (.yield (w.heap.size+1)) #[] #[]]},B,gf,#[.func (.yield (w.heap.size+1)) #[] #[]]++lb,B,
  run_enterLoop_outer _ _ _ _ _,by simp only [resolve,aN];simp [go_sem],fun bf aq=>by simp [Target.leads] at aq;subst aq;exact aT,by simp [invoke,go_sem,aF],fun _=>a0,?_⟩
 refine (a5 (w.heap.size+1) (fun e W=>I e W/\W.heap[w.heap.size+1]?=some (.loop (s .ready none))/\W.heap[w.heap.size]?=some (.deferred (some [])))
  (fun e W=>ag e W/\W.heap[w.heap.size+1]?=some (.loop (s .done (some .ret)))/\W.heap[w.heap.size]?=some (.deferred (some []))) B aP ?_ ?_ ?_ ?_ ⟨aI,a4,a7⟩).mono ?_
 ·rintro ab h Y row ⟨K,G,R⟩ j q
  exact ⟨Z ab h Y row K j (ar (Y:=Y) q),walk j q G (by omega),walk j q R (by omega)⟩
 ·rintro ab h Y ⟨K,G,R⟩ j
  have av:∀ {O:Nat} {o:Obj},w.heap.size<=O->h.heap[O]?=some o->Y.heap[O]?=some o:=fun ap ay=>(j.block _ (Qb.1 ay).1 fun aa=>by have:=Qw aa;omega).trans ay
  exact ⟨a9 ab h Y K j,av (by omega) G,av (Qa _) R⟩
 ·rintro e x W ⟨K,G,R⟩ aA
  refine ⟨fn,_,assign,body,run_yield (P:=P) (args:=ae x) G (aM x),roundIn_of_wpIn a2 (aU _ e x W _ K aA fun J ak ax aX aY aZ=>?_)⟩;have ad:=ax.same _ _ (by omega) G rfl;have aJ:=ax.same _ _ (Qa _) R rfl;have aC:w.heap.size+1<ak.heap.size:=(Qb.1 ad).1;refine ⟨_,run_beginRound ad rfl,?_⟩;obtain ⟨V,X⟩:=N9 (ak.putObj (w.heap.size+1) (.loop {s .ready none with state:=.busy}));have an:V.heap[w.heap.size+1]?=some (.loop {s .ready none with state:=.busy}):=X ▸ World.putObj_heap_same aC;have aw:V.heap[w.heap.size]?=some (.deferred (some [])):=X ▸ (World.putObj_heap_other (by omega)).trans aJ;have aB:I e V:=X ▸ Z.putObj _ aY (by omega) ad rfl;have aV:af x J V:=X ▸ (aR x).putObj _ aZ (by omega) ad rfl;have aW:E W V:=ah aX (X ▸ az _ _ _ _ (by omega) ad rfl);show body.wpIn _ _ _ _ _ (ak.putObj (w.heap.size+1) (.loop {s .ready none with state:=.busy}));rw [X];refine wpIn_mono (a1 (w.heap.size+1) e x J V (Nat.le_succ _) ⟨_,an⟩ aB aV aA) ?_;rintro (_ | _ | _ | _ | _ | _) bd aQ am
  case normal=>
   obtain ⟨y,U,M⟩:=am;have z:=y.same _ _ (by omega) an rfl;exact ⟨_,_,run_endRound (P:=P) none z,.inl ⟨rfl,⟨Z.putObj _ M (by omega) z rfl,World.putObj_heap_same (Qb.1 z).1,(World.putObj_heap_other (by omega)).trans (y.same _ _ (Qa _) aw rfl)⟩,ah (ah aW U) (az _ _ _ _ (by omega) z rfl)⟩⟩
  case ret=>
   obtain ⟨y,M⟩:=am;have z:=y.same _ _ (by omega) an rfl;exact ⟨_,_,run_endRound (P:=P) (some .ret) z,.inr ⟨rfl,aj.putObj _ M (by omega) z rfl,World.putObj_heap_same (Qb.1 z).1,(World.putObj_heap_other (by omega)).trans (y.same _ _ (Qa _) aw rfl)⟩⟩
  all_goals exact am.elim
 ·rintro ab h Y row ⟨K,G,R⟩ j q
  exact ⟨aj ab h Y row K j (ar (Y:=Y) q),walk j q G (by omega),walk j q R (by omega)⟩
 ·rintro aa aQ ⟨⟨v,rfl⟩,(⟨xs,aD,y,U,M⟩ | ⟨e,y,U,M⟩)⟩
  ·exact ⟨none,_,run_endLoop (P:=P) U (by simp [s]),aH _ xs _ (Qa _) aD (Z.putObj _ y (by omega) U rfl) ((World.putObj_heap_other (by omega)).trans M)⟩
  ·exact ⟨some .ret,_,run_endLoop (P:=P) U (by simp [s]),aE _ e _ (Qa _) (aj.putObj _ y (by omega) U rfl) ((World.putObj_heap_other (by omega)).trans M)⟩
end Go.Stops
namespace Go.Each
open Go Go.RowKit
variable {F:Fence} {n:Nat} {P:Program}
def qFe {h:Type} (F:Fence) (n:Nat) (P:Program) (g:Nat) (ba lb:Array Value) (O:h->Array Value) (K:h->World->Prop) (M:World->World->Prop) (S:List h->Prop) (N:Nat) (w:World):Prop:=
 ∀ (G:Nat) (e:List h->World->Prop) (v:World),Below w.heap.size w v->AbidesFrom v.heap.size e->
  (∀ y x W1,e y W1->K x W1->y.length<N->YieldAt F (n - 1) P G (O x) W1 fun z l=>z=.returned (.bool true)/\e (y++[x]) l/\M W1 l)->
  e [] v->CallsIn F n P g (ba++#[.func (.yield G) #[] #[]]++lb) v fun z l=>(∃ J,z=.returned J)/\∃ E,S E/\e E l
theorem qE4 {h:Type} {g:Operand} {ps:Array Tmp} {assign body:Code} {Q:Exit->Act->World->Prop} {a:Act} {w:World} {ad:Nat} {af:Loop} (ax:F.round=some ad) (aN:w.heap[ad]?=some (.loop af)) (aU:1<=n)
  {gf:Nat} {ba lb:Array Value} (aA:a.eval g=.func (.func gf) ba lb) (aH:F.fn gf) (ar:∀ args w,(callFunc gf args).run P w=.ok (.enter gf args) w)
  {U:h->Array Value} {an:h->World->Prop} {s:World->World->Prop} {S:List h->Prop} {N:Nat} (a0:qFe F (n - 1) P gf ba lb U an s S N w)
  (Z:∀ {A B C:World},s A B->s B C->s A C) (am:∀ (W:World) (l:Nat) (o ay:Obj),w.heap.size<=l->W.heap[l]?=some o->o.isCells=false->s W (W.putObj l ay)) (az:∀ x,(U x).size=ps.size)
  (I:List h->World->Prop) (M:OwnFrom w.heap.size I) (a1:I [] w) (V:h->Act->World->Prop) (aG:∀ x,OwnFrom w.heap.size (V x))
  (aI:∀ (l:Nat) (e:List h) (x:h) (W:World) (aj:Act->World->Prop),I e W->an x W->(∀ y r,KeepsFrom w.heap.size W r->s W r->I e r->V x y r->aj y r)->
   assign.wpIn (F.inRound l) (n - 1 - 1) P (Exit.then aj (fun _ _ _=>False)) {tmps:=(ps.zip (U x)).foldl (fun t (p,v)=>t.setIfInBounds p v) a.tmps,defers:=[]} W)
  (aW:∀ (l:Nat) (e:List h) (x:h) (y:Act) (W:World),I e W->V x y W->e.length<N->body.wpIn (F.inRound l) (n - 1 - 1) P (qxe fun r=>KeepsFrom w.heap.size W r/\s W r/\I (e++[x]) r) y W)
  (av:∀ (xs:List h) (W:World),S xs->I xs W->Q .normal a W) :
  (Code.rangeFunc g ps assign body).wpIn F n P Q a w:=by
 refine wpIn_rangeFunc fun fn aX=>?_
 rw [ax];let z:LoopState->Loop:=fun au=>{state:=au,pending:=none,fn:=fn,tmps:=a.tmps,params:=ps,assign:=assign,body:=body,defers:=af.defers}
 let B:World:=w.alloc (.loop (z .ready));have aZ:B.heap[w.heap.size]?=some (.loop (z .ready)):=World.alloc_heap_new w _;have aw:I [] B:=M.alloc _ a1;have aE:Below w.heap.size w B:=(B0 (w:=w));have a2:B.heap.size=w.heap.size+1:=by simp [B]
 refine ⟨w.heap.size,[],B,{target:=.fn (.func gf) lb,args:=ba++#[.func (.yield w.heap.size) #[] #[]]},B,gf,ba++#[.func (.yield w.heap.size) #[] #[]]++lb,B,
  run_enterLoop_inner aN _ _ _ _ _,by simp only [resolve,aA];simp [go_sem],fun a5 ae=>by simp [Target.leads] at ae;subst ae;exact aH,by simp [invoke,go_sem,ar],fun _=>aU,?_⟩
 refine (a0 w.heap.size (fun e W=>I e W/\W.heap[w.heap.size]?=some (.loop (z .ready))) B aE ?_ ?_ ⟨aw,aZ⟩).mono ?_
 ·rintro aB ag aK row ⟨aa,J⟩ ai ah
  have aV:∀ E,row=some E->∃ o:Obj,ag.heap[E]?=some o/\o.isWalk=true:=fun E X=>(ah E X).2
  refine ⟨M aB ag aK row aa ai fun E X=>?_,(grownBy_keeps ai aV J rfl).trans J⟩;obtain ⟨a3,o,aC,aY⟩:=ah E X;exact ⟨by omega,o,aC,Obj.not_cells_of_walk aY⟩
 ·rintro e x W ⟨aa,J⟩ aQ aL
  refine ⟨fn,_,assign,body,run_yield (P:=P) (args:=U x) J (az x),roundIn_of_wpIn aX (aI _ e x W _ aa aQ fun y ab aM aR aS aT=>?_)⟩;have O:=aM.same _ _ (Qa _) J rfl;have ap:w.heap.size<ab.heap.size:=(Qb.1 O).1;refine ⟨_,run_beginRound O rfl,?_⟩;obtain ⟨G,K⟩:=N9 (ab.putObj w.heap.size (.loop {z .ready with state:=.busy}));have aO:G.heap[w.heap.size]?=some (.loop {z .ready with state:=.busy}):=K ▸ World.putObj_heap_same ap;have ao:I e G:=K ▸ M.putObj _ aS (Qa _) O rfl;have aJ:V x y G:=K ▸ (aG x).putObj _ aT (Qa _) O rfl;have aP:s W G:=Z aR (K ▸ am _ _ _ _ (Qa _) O rfl);show body.wpIn _ _ _ _ _ (ab.putObj w.heap.size (.loop {z .ready with state:=.busy}));rw [K];refine wpIn_mono (aW _ e x y G ao aJ aL) ?_;rintro (_ | _ | _ | _ | _ | _) a4 aF ak
  case normal=>
   obtain ⟨ac,Y,aD⟩:=ak;have R:=ac.same _ _ (Qa _) aO rfl;refine ⟨_,_,run_endRound (P:=P) none R,rfl,⟨M.putObj _ aD (Qa _) R rfl,World.putObj_heap_same (Qb.1 R).1⟩,Z (Z aP Y) (am _ _ _ _ (Qa _) R rfl)⟩
  all_goals exact ak.elim
 ·rintro X aF ⟨⟨v,rfl⟩,xs,aq,ac,Y⟩
  exact ⟨none,_,run_endLoop (P:=P) Y (by simp [z]),av xs _ aq (M.putObj _ ac (Qa _) Y rfl)⟩
end Go.Each
namespace Go.Proofs.YtjafbmfcedijmaaGreatDoor
open Tryz
open Go.RowKit Go.Shelf
attribute [local go_sem] Oper.semAt_some
def nxtG (h f:Int):Int:=bits .and .u8 (IntKind.u8.wrap (f - h)) h
def qqw (y h:Int):Nat->Int->List Int
 | 0,_=>[]
 | k+1,f=>bits .or .u8 y f :: (if f=h then [] else qqw y h k (nxtG h f))
def okG (y h:Int):Nat->Int->Bool
 | 0,_=>false
 | k+1,f=>decide (0<=bits .or .u8 y f)&&decide (bits .or .u8 y f<=255)&&(decide (f=h)||okG y h k (nxtG h f))
def opsP (p:Pat):List Int:=qqw (qtG p.1).1 (qtG p.1).2 256 0
def okP (p:Pat):Bool:=okG (qtG p.1).1 (qtG p.1).2 256 0
theorem qhD (z h:Int):∀ (k m:Nat) (v:Int),okG z h k v=true->k<=m->qqw z h m v=qqw z h k v
 | 0,m,v,y,_=>by cases y
 | k+1,0,v,_,E=>by omega
 | k+1,m+1,v,y,E=>by
  unfold okG at y;simp only [Qh,Zp,Ql] at y;unfold qqw;by_cases e:v=h
  ·rw [Qk e,Qk e]
  ·rw [Qd e,Qd e,qhD z h k m _ (y.2.resolve_left e) (by omega)]
theorem qsG (y h:Int) (k:Nat) (v:Int) (E:okG y h (k+1) v=true) (e:v≠h) (G:k+1<=256):(qqw y h 256 (nxtG h v)).length<(qqw y h 256 v).length:=by
 have z:=E;unfold okG at z;simp only [Qh,Zp,Ql] at z;rw [qhD y h (k+1) 256 v E G,qhD y h k 256 _ (z.2.resolve_left e) (by omega)];show _<(_ :: _).length;rw [Qd e];exact Nat.lt_succ_self _
theorem qiO (n:Nat) (p:Pat) (an:p.1.length=8) (ao:okP p=true) (w:World) :
  Each.qFe Fence.wide n prog 298 #[.agg #[.string (sB p.1),.string (sB p.2)]] #[] (fun x:Int=>#[.int .u8 x]) (fun x _=>0<=x/\x<=255) (fun _ _=>True) (fun xs=>xs=opsP p) 256 w:=fun aB O ab aD ai ak au=>by
 have X:∀ (U:List Int) (E K:World),O U E->Below E.heap.size E K->O U K:=fun U E K y v=>ai U E K none y ⟨v.os,v.tape,v.output,v.size,fun ax aw _=>v.block ax aw⟩ (fun aH ap=>by cases ap)
 have ac:=fun z=>qj5 p.1 p.2 an (ab.alloc z)
 obtain ⟨h,V⟩:=N9 ((qtG p.1).1);obtain ⟨f,J⟩:=N9 ((qtG p.1).2);have aq:Hid (opsP p=qqw h f 256 0):=by show opsP p=_;unfold opsP;rw [V,J]
 have r:Hid (okG h f 256 0=true):=by show _=_;rw [<- ao];unfold okP;rw [V,J]
 rw [V,J] at ac;have av:=J9 ak;have az:=J9 X;have ar:Hid (∀ z,O [] (ab.alloc z)):=fun z=>X _ _ _ au ((Qc _ _).alloc (Qa _) z)
 clear au ak X ai aD V J ao an;refine callsIn_wide.2 ?_;show Calls prog 298 #[.agg #[.string (sB p.1),.string (sB p.2)],.func (.yield aB) #[] #[]] ab _
 go_enter func298,ntmps298
 go_wp2_with fail
 refine (ac _).mono ?_;rintro ap aL ⟨rfl,ad⟩;have am:=J9 (az.o _ _ _ (ar.o _) ad);clear ac ad ar
 go_upto_region 2 with fail
 go_wp2
 go_loopw [6] (fun W wr=>∃ (k:List Int) (i:Nat) (e:Int),W=.int .u8 e/\Hid (okG h f i e=true)/\Hid (k++qqw h f i e=opsP p)/\Hid (k.length+i=256)/\Hid (O k wr)) (fun W _=>(qqw h f 256 (intOf W)).length)
 case atStart=>exact ⟨[],256,0,rfl,r.o,aq.o.symm,rfl,am.o⟩
 case round=>
  clear am aq r;obtain ⟨k,i,e,rfl,r,af,M,aj⟩:=hrel;cases i with
  | zero=>exact absurd r.o (by unfold okG;decide)
  | succ i=>
   have Y:Hid ((0<=bits .or .u8 h e/\bits .or .u8 h e<=255)/\(e=f\/okG h f i (nxtG f e)=true)):=by
    have y:=r.o;unfold okG at y;simp only [Qh,Zp,Ql] at y;exact y
   have aE:=av.o k (bits .or .u8 h e) wr aj.o Y.o.1 (by have:=M.o;omega);obtain ⟨aI,tmps,assign,body,aF,ae⟩:=aE;have aa:=J9 (qsG h f i e r.o);have aC:Hid (i+1<=256):=(by have:=M.o;omega:i+1<=256);have G:Hid (k++bits .or .u8 h e :: (if e=f then [] else qqw h f i (nxtG f e))=opsP p):=af.o;have ay:Hid ((k++[bits .or .u8 h e]).length+i=256):=(by show _=_;rw [Qg];have:=M.o;simp;omega);clear af r aj M
   go_upto_region 3 with fail
   refine (wpIn_wide (n:=n)).1 ?_
   gi_wp2
   refine ⟨fun y=>(by cases y),ae.mono ?_⟩;rintro aJ aK ⟨rfl,ag,-⟩;have ah:=J9 ag;clear ag ae aF;by_cases o:e=f
   ·have Z:Hid (k++[bits .or .u8 h e]=opsP p):=by show _=_;rw [<- G.o,Qk o]
    have v:(e == f)=true:=(by rw [o];exact beq_self_eq_true _);clear o G aa
    gi_wp2
    go_wp2
    go_end0
    exact ⟨⟨_,rfl⟩,_,Z.o,ah.o⟩
   ·have v:(e == f)=false:=by simpa using o
    have aA:Hid (okG h f i (nxtG f e)=true):=Y.o.2.resolve_left o;have Z:Hid ((k++[bits .or .u8 h e])++qqw h f i (nxtG f e)=opsP p):=(by show _=_;rw [<- G.o,Qd o,Ze];rfl);have aG:=J9 (aa.o o aC.o);clear o G aa Y
    gi_wp2
    go_wp2;go_roundw
    case rel=>exact ⟨k++[bits .or .u8 h e],i,nxtG f e,rfl,aA.o,Z.o,ay.o,ah.o⟩
    case measure=>exact aG.o
end Go.Proofs.YtjafbmfcedijmaaGreatDoor
namespace Go.Proofs.YtjafbmfcedijmaaGreatDoor
open Tryz
open Go.RowKit Go.Shelf
def qfj (ps:List Pat) (i:Nat):Pat:=(ps.find? fun h=>qcO h.1 (i:Int)).getD ([],[])
def mkF (ps:List Pat) (p:Pat) (xs:List Int) (i:Nat):Pat:=if (i:Int)∈xs/\(qfj ps i).1=[] then p else qfj ps i
theorem qyZ (ps:List Pat) (p:Pat) (i:Nat):mkF ps p [] i=qfj ps i:=by
 unfold mkF;rw [Qd (by simp)]
theorem quH (ps:List Pat) (p:Pat) (xs:List Int) (x:Nat) (k:(mkF ps p xs x).1≠[]) (i:Nat):mkF ps p (xs++[(x:Int)]) i=mkF ps p xs i:=by
 unfold mkF at k |-;by_cases z:i=x
 ·subst z
  by_cases h:(qfj ps i).1=[]
  ·by_cases y:(i:Int)∈xs
   ·rw [Qk ⟨by simp,h⟩,Qk ⟨y,h⟩]
   ·rw [Qd (fun e=>y e.1)] at k
    exact absurd h k
  ·rw [Qd (fun e=>h e.2),Qd (fun e=>h e.2)]
 ·have:((i:Int)∈xs++[(x:Int)])↔((i:Int)∈xs):=by
   simp only [QO,QA];exact ⟨fun e=>e.resolve_right (by omega),.inl⟩
  simp only [this]
theorem qxp (ps:List Pat) (p:Pat) (xs:List Int) (x:Nat) (h:(mkF ps p xs x).1=[]) (i:Nat):mkF ps p (xs++[(x:Int)]) i=if i=x then p else mkF ps p xs i:=by
 by_cases y:i=x
 ·subst y
  rw [Qk rfl];unfold mkF at h |-;by_cases k:(qfj ps i).1=[]
  ·rw [Qk ⟨by simp,k⟩]
  ·rw [Qd (fun e=>k e.2)] at h
   exact absurd h k
 ·rw [Qd y]
  unfold mkF;have:((i:Int)∈xs++[(x:Int)])↔((i:Int)∈xs):=by
   simp only [QO,QA];exact ⟨fun e=>e.resolve_right (by omega),.inl⟩
  simp only [this]
theorem qjy:∀ p∈mainP++cbP++edP,okP p=true/\p.1≠[]/\∀ i:Fin 256,decide ((i.val:Int)∈opsP p)=qcO p.1 (i.val:Int):=by decide +kernel
theorem qtU (ps:List Pat) (p:Pat) (E:p∈mainP++cbP++edP) (z:∀ q∈ps,q∈mainP++cbP++edP) (i:Nat) (G:i<256):mkF ps p (opsP p) i=qfj (ps++[p]) i:=by
 have h:=(qjy p E).2.2 ⟨i,G⟩;simp only at h;unfold mkF qfj;rw [List.find?_append];cases J:ps.find? fun p=>qcO p.1 (i:Int) with
 | none=>
  simp only [Option.getD_none,Option.none_or,List.find?_cons,List.find?_nil];cases y:qcO p.1 (i:Int)
  ·rw [y] at h
   rw [Qd (fun k=>Q3 h k.1)];rfl
  ·rw [y] at h
   rw [Qk ⟨Qt h,trivial⟩];rfl
 | some q=>
  have K:=(qjy q (z q (Zw J))).2.1;simp only [Option.getD_some,Option.some_or];rw [Qd (fun k=>K k.2)]
def qbl (ps:List Pat):Nat->List (Pat×Int)
 | 0=>[]
 | k+1=>if (qfj ps k).1=[] then qbl ps k else qbl ps k++[(qfj ps k,(k:Int))]
end Go.Proofs.YtjafbmfcedijmaaGreatDoor
namespace Go.Proofs.YtjafbmfcedijmaaGreatDoor
open Tryz
open Go.RowKit Go.Shelf
attribute [local go_sem] Oper.semAt_some
def qrG (f:Nat->Pat) (i:Nat):Value:=.string (sB (if i % 2=0 then (f (i / 2)).1 else (f (i / 2)).2))
theorem qwQ (f:Nat->Pat) (i:Nat):qrG f (i*2)=.string (sB (f i).1):=by
 unfold qrG;rw [Qk (by omega),show i*2 / 2=i by omega]
theorem qw0 (f:Nat->Pat) (i:Nat):qrG f (i*2+1)=.string (sB (f i).2):=by
 unfold qrG;rw [Qd (by omega),show (i*2+1) / 2=i by omega]
def qhC (w:World) (b:Nat) (f:Nat->Pat):Prop:=w.rowIs b 344 512 (qrG f)
theorem qhC.c0 {w:World} {b:Nat} {f:Nat->Pat} (h:qhC w b f) {i:Nat} (y:i<256):w.cell? ⟨b,i*2,none⟩=some (.string (sB (f i).1)):=by rw [World.rowIs.cell h (by omega),qwQ]
theorem qhC.c1 {w:World} {b:Nat} {f:Nat->Pat} (h:qhC w b f) {i:Nat} (y:i<256):w.cell? ⟨b,i*2+1,none⟩=some (.string (sB (f i).2)):=by rw [World.rowIs.cell h (by omega),qw0]
theorem qhC.lt {w:World} {b:Nat} {f:Nat->Pat} (h:qhC w b f):b<w.heap.size:=World.rowIs.lt h
theorem qhC.block {w w':World} {b:Nat} {f:Nat->Pat} (h:qhC w b f) (e:w'.heap[b]?=w.heap[b]?):qhC w' b f:=World.rowIs.of_block h e
theorem qhC.congr {w:World} {b:Nat} {f g:Nat->Pat} (h:qhC w b f) (e:∀ i,i<256->f i=g i):qhC w b g:=World.rowIs.congr h fun i y=>by
 unfold qrG;rw [e (i / 2) (by omega)]
theorem qhC.put {w:World} {b:Nat} {f:Nat->Pat} (y:qhC w b f) (i:Nat) (p:Pat):qhC ((w.setCell ⟨b,i*2,none⟩ (.string (sB p.1))).setCell ⟨b,i*2+1,none⟩ (.string (sB p.2))) b (fun j=>if j=i then p else f j):=
 World.rowIs.congr (World.rowIs.set (World.rowIs.set y (i*2) _) (i*2+1) _) fun j z=>by
  unfold qrG;show (if j=i*2+1 then Value.string (sB p.2) else if j=i*2 then .string (sB p.1) else .string (sB (if j % 2=0 then (f (j / 2)).1 else (f (j / 2)).2)))=.string (sB (if j % 2=0 then (if j / 2=i then p else f (j / 2)).1 else (if j / 2=i then p else f (j / 2)).2));by_cases e:j / 2=i
  ·rw [Qk e]
   by_cases h:j % 2=0
   ·rw [Qd (by omega),Qk (by omega),Qk h]
   ·rw [Qk (by omega),Qd h]
  ·rw [Qd e,Qd (by omega),Qd (by omega)]
theorem qoz:(prog.info? 344).map (fun i=>(i.zero,i.size))=some (some (.agg (Array.replicate 512 (.string ⟨#[]⟩))),512):=by kernel_rfl
theorem und_row:prog.underlying 344=some (.array 256 286):=by kernel_rfl
theorem qvP (w:World):(zeroValue 344).run prog w=.ok (.agg (Array.replicate 512 (.string ⟨#[]⟩))) w:=(zero_of_info qoz).1 w
theorem qxT (w:World):qhC (w.alloc (.cells (Array.replicate 512 (.string ⟨#[]⟩)) 344)) w.heap.size (qfj []):=by
 have i:=World.rowIs_alloc w (Array.replicate 512 (.string ⟨#[]⟩)) 344 (qrG (qfj [])) (fun y h=>by
  rw [Array.size_replicate] at h;rw [Array.getElem?_replicate,Qk h];unfold qrG qfj;split <;> rfl)
 rwa [Array.size_replicate] at i
def qwV (f:Nat->Pat):Array Value:=((List.range 512).map (qrG f)).toArray
theorem qoD (f:Nat->Pat) (j:Nat) (h:j<512):(qwV f)[j]?=some (qrG f j):=by
 unfold qwV;rw [List.getElem?_toArray,Za,List.getElem?_range h];rfl
theorem qkP (f:Nat->Pat):(qwV f).size=512:=by unfold qwV;simp
theorem qu1 {w:World} {b:Nat} {f:Nat->Pat} (E:qhC w b f):(Instr.loadAt 344 (.pointer (some ⟨b,0,none⟩))).run prog w=.ok (.agg (qwV f)) w:=by
 obtain ⟨h,G,z,i⟩:=E;have y:h=qwV f:=by
  apply Array.ext_getElem?;intro c;have J:=qkP f;by_cases e:c<512
  ·rw [i c e,qoD f c e]
  ·rw [Array.getElem?_eq_none (by omega),Array.getElem?_eq_none (by omega)]
 simp only [Instr.loadAt,Instr.sureAddr,Sem.run_bind,Sem.run_pure,Result.andThen];rw [<- y];exact run_loadVar_row _ b 344 344 h (0,0) _ G und_row rfl (by rw [z];exact (zero_of_info qoz).2)
theorem qv4 (f:Nat->Pat) (i:Nat) (y:i<256):(qwV f).extract (i*2) (i*2+2)=#[.string (sB (f i).1),.string (sB (f i).2)]:=by
 have z:=qkP f;have h:=qoD f;apply Array.ext_getElem?;intro j;rw [Array.getElem?_extract]
 match j with
 | 0=>rw [Qk (by omega),h _ (by omega),Nat.add_zero,qwQ];rfl
 | 1=>rw [Qk (by omega),h _ (by omega),qw0];rfl
 | j+2=>rw [Qd (by omega)];rfl
theorem qra (f:Nat->Pat) (i:Nat) (z:i<256) (w:World):(Instr.index 344 (.agg (qwV f)) (.int .i64 (i:Int))).run prog w=.ok (.agg #[.string (sB (f i).1),.string (sB (f i).2)]) w:=by
 have h:(prog.info? 286).map (fun i=>i.size)=some 2:=by kernel_rfl
 obtain ⟨y,J,G⟩:∃ y,prog.info? 286=some y/\y.size=2:=by
  cases E:prog.info? 286 with
  | none=>rw [E] at h;cases h
  | some i=>rw [E] at h;exact ⟨i,rfl,by simpa using h⟩
 have K:∀ w,(Go.sizeOf 286).run prog w=.ok 2 w:=fun w=>by simp [Go.sizeOf,typeInfo,J,G]
 have U:0<=(i:Int)/\(i:Int)<((256:Nat):Int):=by omega
 have M:=qv4 f i z;have O:¬256<=i:=by omega
 simp [Instr.index,run_underlying und_row,asIntOf,z,O,part,isAgg,K,M,run_underlying underlying286,go_sem]
end Go.Proofs.YtjafbmfcedijmaaGreatDoor
namespace Go.Each
open Go Go.RowKit
def qFg {h:Type} (F:Fence) (n:Nat) (P:Program) (g:Nat) (lb:Array Value) (O:h->Array Value) (K:h->World->Prop) (M:World->World->Prop) (S:List h->Prop) (N:Nat) (w:World):Prop:=
 ∀ (G:Nat) (e:List h->World->Prop) (v:World),Below w.heap.size w v->OwnFrom v.heap.size e->
  (∀ y x W1,e y W1->K x W1->y.length<N->YieldAt F (n - 1) P G (O x) W1 fun z l=>z=.returned (.bool true)/\e (y++[x]) l/\M W1 l)->
  e [] v->CallsIn F n P g (#[.func (.yield G) #[] #[]]++lb) v fun z l=>(∃ J,z=.returned J)/\∃ E,S E/\e E l
variable {F:Fence} {n:Nat} {P:Program}
theorem qE5 {h:Type} {g:Operand} {ps:Array Tmp} {assign body:Code} {Q:Exit->Act->World->Prop} {a:Act} {w:World} (ay:F.round=none) (aU:1<=n)
  {gf:Nat} {lb:Array Value} (aA:a.eval g=.func (.func gf) #[] lb) (aH:F.fn gf) (ar:∀ args w,(callFunc gf args).run P w=.ok (.enter gf args) w)
  {O:h->Array Value} {an:h->World->Prop} {o:World->World->Prop} {S:List h->Prop} {N:Nat} (a0:qFg F (n - 1) P gf lb O an o S N w)
  (aa:∀ {A B C:World},o A B->o B C->o A C) (ak:∀ (W:World) (l:Nat) (r aM:Loop),w.heap.size<=l->W.heap[l]?=some (.loop r)->o W (W.putObj l (.loop aM))) (az:∀ x,(O x).size=ps.size)
  (I:List h->World->Prop) (J:OwnFrom w.heap.size I) (a1:I [] w) (R:h->Act->World->Prop) (aG:∀ x,OwnFrom w.heap.size (R x))
  (aI:∀ (l:Nat) (e:List h) (x:h) (W:World) (ah:Act->World->Prop),I e W->an x W->(∀ y k,KeepsFrom w.heap.size W k->o W k->I e k->R x y k->ah y k)->
   assign.wpIn (F.inRound l) (n - 1 - 1) P (Exit.then ah (fun _ _ _=>False)) {tmps:=(ps.zip (O x)).foldl (fun t (p,v)=>t.setIfInBounds p v) a.tmps,defers:=[]} W)
  (aV:∀ (l:Nat) (e:List h) (x:h) (y:Act) (W:World),I e W->R x y W->e.length<N->body.wpIn (F.inRound l) (n - 1 - 1) P (qxe fun k=>KeepsFrom w.heap.size W k/\o W k/\I (e++[x]) k) y W)
  (av:∀ (D:Nat) (xs:List h) (W:World),w.heap.size<=D->S xs->I xs W->W.heap[D]?=some (.deferred (some []))->Q .normal {a with defers:={target:=.collected D,args:=#[]} :: a.defers} W) :
  (Code.rangeFunc g ps assign body).wpIn F n P Q a w:=by
 refine wpIn_rangeFunc fun fn aW=>?_
 rw [ay]
 -- the loop's record,ready or busy;the block of the rounds' deferred calls lies in front of it
 let s:LoopState->Loop:=fun au=>{state:=au,pending:=none,fn:=fn,tmps:=a.tmps,params:=ps,assign:=assign,body:=body,defers:=w.heap.size}
 let B:World:=(w.alloc (.deferred (some []))).alloc (.loop (s .ready));have a2:B.heap[w.heap.size]?=some (.deferred (some [])):=(Below.heap_alloc _ _ _ (by simp)).trans (World.alloc_heap_new w _);have aY:B.heap[w.heap.size+1]?=some (.loop (s .ready)):=by
  have a3:=World.alloc_heap_new (w.alloc (.deferred (some []))) (.loop (s .ready))
  rwa [QL] at a3
 have aw:I [] B:=J.alloc _ (J.alloc _ a1);have aD:Below w.heap.size w B:=((B0 (w:=w))).alloc (by simp) _;have a4:B.heap.size=w.heap.size+1+1:=by simp [B]
 refine ⟨w.heap.size+1,[{target:=.collected w.heap.size,args:=#[]}],B,{target:=.fn (.func gf) lb,args:=#[.func (.yield (w.heap.size+1)) #[] #[]]},B,gf,#[.func (.yield (w.heap.size+1)) #[] #[]]++lb,B,
  run_enterLoop_outer _ _ _ _ _,by simp only [resolve,aA];simp [go_sem],fun a8 af=>by simp [Target.leads] at af;subst af;exact aH,by simp [invoke,go_sem,ar],fun _=>aU,?_⟩
 -- what the caller keeps,the record and the block beside it
 refine (a0 (w.heap.size+1) (fun e W=>I e W/\W.heap[w.heap.size+1]?=some (.loop (s .ready))/\W.heap[w.heap.size]?=some (.deferred (some []))) B aD ?_ ?_ ⟨aw,aY,a2⟩).mono ?_
 ·rintro aB aE aK row ⟨ab,E,X⟩ ae ag
  have am:∀ V,V<B.heap.size->some V≠row:=fun V a9 U=>by have:=(ag V U.symm).1;omega
  refine ⟨J aB aE aK row ab ae fun r U=>?_,(ae.block _ (Qb.1 E).1 (am _ (by omega))).trans E,(ae.block _ (Qb.1 X).1 (am _ (by omega))).trans X⟩;obtain ⟨a5,aZ,aC,aX⟩:=ag r U;exact ⟨by omega,aZ,aC,aX⟩
 ·rintro e x W ⟨ab,E,X⟩ aQ aL
  have a7:w.heap.size+1<W.heap.size:=(Qb.1 E).1;refine ⟨fn,_,assign,body,run_yield (P:=P) (args:=O x) E (az x),roundIn_of_wpIn aW (aI _ e x W _ ab aQ fun y ac aj aR aS aT=>?_)⟩;have K:=aj.same _ _ (by omega) E rfl;have ax:=aj.same _ _ (Qa _) X rfl;have ap:w.heap.size+1<ac.heap.size:=(Qb.1 K).1;refine ⟨_,run_beginRound K rfl,?_⟩;obtain ⟨z,G⟩:=N9 (ac.putObj (w.heap.size+1) (.loop {s .ready with state:=.busy}));have aO:z.heap[w.heap.size+1]?=some (.loop {s .ready with state:=.busy}):=G ▸ World.putObj_heap_same ap;have aN:z.heap[w.heap.size]?=some (.deferred (some [])):=G ▸ (World.putObj_heap_other (by omega)).trans ax;have ao:I e z:=G ▸ J.putObj _ aS (by omega) K rfl;have aJ:R x y z:=G ▸ (aG x).putObj _ aT (by omega) K rfl;have aP:o W z:=aa aR (G ▸ ak _ _ _ _ (by omega) K);show body.wpIn _ _ _ _ _ (ac.putObj (w.heap.size+1) (.loop {s .ready with state:=.busy}));rw [G];refine wpIn_mono (aV _ e x y z ao aJ aL) ?_;rintro (_ | _ | _ | _ | _ | _) a6 aF ai
  case normal=>
   obtain ⟨Y,Z,ad⟩:=ai;have M:=Y.same _ _ (by omega) aO rfl;refine ⟨_,_,run_endRound (P:=P) none M,rfl,⟨J.putObj _ ad (by omega) M rfl,World.putObj_heap_same (Qb.1 M).1,(World.putObj_heap_other (by omega)).trans (Y.same _ _ (Qa _) aN rfl)⟩,aa (aa aP Z) (ak _ _ _ _ (by omega) M)⟩
  all_goals exact ai.elim
 ·rintro U aF ⟨⟨v,rfl⟩,xs,aq,Y,Z,ad⟩
  exact ⟨none,_,run_endLoop (P:=P) Z (by simp [s]),av _ xs _ (Qa _) aq (J.putObj _ Y (by omega) Z rfl) ((World.putObj_heap_other (by omega)).trans ad)⟩
def marks (y:List Nat):List Deferred:=y.map fun h=>{target:=.collected h,args:=#[]}
theorem qEO {fn:Func} {tmps:Array Value} {G:Ending->World->Prop} (I:World->Prop) (ok:Nat->Prop) (K:∀ w D,ok D->I w->w.heap[D]?=some (.deferred (some []))->I (w.putObj D (.deferred none))):∀ (e:List Nat) (w:World),e.Nodup->(∀ D∈e,ok D/\w.heap[D]?=some (.deferred (some [])))->I w->
  (∀ w',I w'->LeavesInM F n P fn tmps G [] .returning w')->LeavesInM F n P fn tmps G (marks e) .returning w
 | [],w,_,_,E,h=>h w E
 | D :: e,w,M,k,E,h=>by
  obtain ⟨R,J⟩:=k D (by simp);refine ⟨by simp,.inl ⟨D,_,rfl,run_takeDeferred J,?_⟩⟩;refine qEO I ok K e _ (List.nodup_cons.1 M).2 (fun y z=>⟨(k y (QZ _ z)).1,?_⟩) (K w D R E J) h;have U:y≠D:=fun O=>(List.nodup_cons.1 M).1 (O ▸ z)
  exact (World.putObj_heap_other (by omega)).trans (k y (QZ _ z)).2
end Go.Each
namespace Go.Proofs.YtjafbmfcedijmaaGreatDoor
open Tryz
open Go.RowKit Go.Shelf
attribute [local go_sem] Oper.semAt_some
def qep (W y:World):Prop:=∀ (h:Nat) (o:Option (List Deferred)),W.heap[h]?=some (.deferred o)->y.heap[h]?=some (.deferred o)
theorem qep.trans {A B C:World} (y:qep A B) (k:qep B C):qep A C:=fun h e o=>k h e (y h e o)
theorem qep.below {W e:World} (y:Below W.heap.size W e):qep W e:=fun o z h=>(y.block o (Qb.1 h).1).trans h
def qlo (ps:List Pat) (x:Pat×Int):Prop:=qfj ps x.2.toNat=x.1/\x.1.1≠[]/\0<=x.2/\x.2<256
theorem qr5 {ps:List Pat} {k:Nat} (y:k<256) (h:(qfj ps k).1≠[]):qlo ps (qfj ps k,(k:Int)):=⟨rfl,h,by simp,by simp;omega⟩
theorem qld (l:Str):(sB l).toList.isEmpty=l.isEmpty:=by
 rw [Qe];cases l <;> rfl
theorem qoU (X:World) (b i j:Nat) (u v:Value):X.grownBy ((X.setCell ⟨b,i,none⟩ u).setCell ⟨b,j,none⟩ v) (some b):=
 ⟨rfl,rfl,rfl,by simp,fun h k e=>(heap_setCell_other _ ⟨b,j,none⟩ h v (by simpa using e)).trans (heap_setCell_other _ ⟨b,i,none⟩ h u (by simpa using e))⟩
theorem qDs {P:Program} {w:World} {t:TypeId} {x:Operand} {p v:Value} {ops:Array Oper} {rest:List Oper} {o:Oper} {a:Act} {Q:Exit->Act->World->Prop} (J:(Instr.loadAt t p).run P w=.ok v w) (z:o.guard=none)
  (h:o.op=.load t x) (E:a.eval x=p) (G:wpList P ops Q rest (a.put o.dst v) w):wpList P ops Q (o :: rest) a w:=by
 refine wpList_plain z fun K y=>?_
 unfold Oper.wp;simp [execOp,h,E,J,Result.andThen];exact y _ _ G
theorem qye {ps z:List Pat} {x:Pat} (h:∀ p∈ps,p∈mainP++cbP++edP) (y:z++[x] <+: ps):x∈mainP++cbP++edP/\∀ q∈z,q∈mainP++cbP++edP:=
 ⟨h _ (y.subset (by simp)),fun q E=>h _ (y.subset (List.mem_append_left _ E))⟩
def qzH (h:Nat) (W:World) (y:List Pat) (X:World):Prop:=Below h W X/\h+2<=X.heap.size/\qhC X h (qfj y)
theorem qzH.own {h:Nat} {W X Y:World} {G:List Pat} {row:Option Nat} (e:qzH h W G X) (z:X.grownBy Y row) (E:∀ r,row=some r->h+1<=r):qzH h W G Y:=
 ⟨e.1.grown z (by have:=e.2.1;omega) fun r y=>by have:=E r y;omega,Qm e.2.1 z.size,e.2.2.block (z.block h e.2.2.lt fun y=>by have:=E _ y.symm;omega)⟩
theorem qfq (ps:List Pat):∀ k,(qbl ps k).length<=k
 | 0=>Qa _
 | k+1=>by
  have h:=qfq ps k;unfold qbl;split
  ·omega
  ·rw [Qg];simp;omega
theorem qkl (n:Nat) (Y:Nat) (l:Str) (aU:l.length<=100000) (bE:∀ p∈patsOf l,p∈mainP++cbP++edP) (w:World) (aM:Boxed w Y 9 (.string (sB l))) (bi:qac w) :
  Each.qFg Fence.wide n prog 297 #[.pointer (some ⟨Y,0,none⟩)] (fun x:Pat×Int=>#[qai x.1 x.2]) (fun x _=>qlo (patsOf l) x) qep (fun xs=>xs=qbl (patsOf l) 256) 256 w:=fun bb ac s aJ aS a9 bq=>by
 have bj:∀ (y:List (Pat×Int)) (f M:World),ac y f->Below f.heap.size f M->ac y M:=fun y f M h ag=>aS y f M none h ⟨ag.os,ag.tape,ag.output,ag.size,fun U ah _=>ag.block U ah⟩ (fun D i=>by cases i)
 have a3:Boxed s Y 9 (.string (sB l)):=(aJ.block Y aM.lt).trans aM;have aL:qac s:=bi.below aJ;obtain ⟨b,ab⟩:=N9 (s.heap.size);have bM:0 < b:=by rw [<- ab];exact aL.lt
 have bL:=qvP s;obtain ⟨P,am⟩:=N9 (s.alloc (.cells (Array.replicate 512 (.string ⟨#[]⟩)) 344));have bs:qhC P b (qfj []):=by rw [<- am,<- ab];exact qxT s
 have aD:Below b s P:=by rw [<- am,<- ab];exact B0
 have aP:P.heap.size=b+1:=by rw [<- am,<- ab];simp
 have bl:Boxed P Y 9 (.string (sB l)):=by rw [<- am];exact a3.alloc _
 have bT:=bl.cell;have bg:qac P:=aL.below (by rw [ab];exact aD);have aO:=qf3 l P;rw [aP] at aO;have bB:=J9 a9;have aR:=J9 bj;have bR:Hid (∀ (y:List (Pat×Int)) (f:World) (z:Nat) (ap:Option (List Deferred)),ac y f->b<=z->f.heap[z]?=some (.deferred ap)->ac y (f.putObj z (.deferred none))):=fun y f z ap h bd aZ=>aS y f _ (some z) h (grownBy_putObj' f z _) (fun D i=>by cases i;exact ⟨by omega,_,aZ,rfl⟩)
 have bW:=J9 bq;have bV:=J9 bE;have b5:=J9 ab;clear bq a9 bj aS aJ bi aM a3 aL bl;refine callsIn_wide.2 (callsIn_wide.1 (callsIn_of_wp_marks (n:=6) func297 rfl trivial ?_ rfl));simp only [ntmps297,Zx,Qv,QH,Nat.reduceAdd,Nat.reduceSub,Array.replicate_succ,Array.replicate_zero,List.push_toArray,List.append_toArray,Zk,List.cons_append];refine wpIn_wide.2 ?_
 go_wp2_with fail
 refine aO.mono ?_;rintro i X ⟨rfl,av⟩;have a2:Boxed X (b+1) 9 (.string (sB l)):=by
  have h:=Boxed.new P 9 (.string (sB l));rw [av,aP] at h;exact h
 have ca:X.heap.size=b+1+1:=by rw [<- av];simp;omega
 have aq:Below P.heap.size P X:=by rw [<- av];exact B0
 have bf:=aD.trans (aq.mono (by omega));have R1:qhC X b (qfj []):=bs.block (aq.block b (by omega));have aW:qac X:=bg.below aq;have bp:=qdu 5 (b+1) l aU X a2 aW;have bo:=J9 aW;have bx:Hid (qzH b s [] X):=⟨bf,by omega,R1⟩;clear bs aD bT bg aO a2 aq bf R1 aW am av aP bL aU P
 go_wp2_with fail
 refine wpIn_wide.1 (Stops.qEZ (F:=Fence.wide) (n:=6) rfl (by omega) (gf:=285) (lb:=#[.pointer (some ⟨b+1,0,none⟩)]) rfl trivial (enters_of func285 (by kernel_rfl) rfl)
  bp (by omega) (fun h an=>h.trans an) (fun s l ap bD aU _ _=>qk3 bo.o s l bD (by omega)) (fun _=>rfl)
  (qzH b s) (fun _ _=>False)
  (fun aj f M row h k W=>h.own k fun D i=>by have:=(W D i).1;omega)
  (fun aj f M h k=>h.own k fun D i=>by cases i;omega)
  (fun aj f M row h k W=>h.elim)
  bx.o
  (fun x ai W1=>∃ G,b+2<=G/\W1.heap[G]?=some (.cells #[.string (sB x.1),.string (sB x.2)] 286 (0,0))/\ai={tmps:=#[.func (.yield bb) #[] #[],.pointer (some ⟨Y,0,none⟩),undef,.pointer (some ⟨b,0,none⟩),.pointer (some ⟨G,0,none⟩),undef,undef,undef,.string (sB l),.func (.func 285) #[] #[.pointer (some ⟨b+1,0,none⟩)],.agg #[.string (sB x.1),.string (sB x.2)],undef,undef,undef,undef,undef,undef,undef,undef,undef,undef,undef,undef,undef,undef,undef,undef,undef,undef,undef,undef,undef,undef,undef,undef,undef,undef,undef,undef,undef],defers:=[]})
  (fun x aj f M row h k W=>by
   obtain ⟨G,az,aa,aI⟩:=h;exact ⟨G,az,(grownBy_keeps_cells k (fun D i=>(W D i).2) aa rfl).trans aa,aI⟩)
  ?assign ?body ?done (fun _ _ _ _ h=>h.elim))
 case assign=>
  rintro aE E x W1 bJ r b1 ae;have b9:=r.2.1
  gi_wp2
  refine ae _ _ ((KeepsOthers.alloc _ _).from _) (qex ((Qc b W1).alloc (by omega) _) bM) ⟨r.1.alloc (by omega) _,by simp;omega,World.rowIs.alloc r.2.2 _⟩ ⟨W1.heap.size,by omega,World.alloc_heap_new W1 _,rfl⟩
 case body=>
  rintro aE E x ai W1 ci ⟨cd,be⟩ r ⟨G,ag,ao,rfl⟩ aC;have aN:=J9 (qye bV.o aC);have aQ:=aN.o.1;have a8:=qjy x aQ;have bn:=(qiK x aQ).1;have bG:=C9 ao 0;have bX:=C9 ao 1;have bQ:=J9 ao;have aH:=J9 r;have bw:=qiO 3 x bn a8.1 W1;have bA:G<W1.heap.size:=(Qb.1 ao).1;have b6:b+2<=W1.heap.size:=r.2.1;have HR:=J9 be;have ch:=J9 aC;clear a8 bn aQ ao r aC be
  gi_wp2_with fail
  refine Each.qE4 (F:=Fence.wide.inRound aE) (n:=6 - 1 - 1) rfl HR.o (by omega) (gf:=298) (ba:=#[.agg #[.string (sB x.1),.string (sB x.2)]]) (lb:=#[]) rfl trivial (enters_of func298 (by kernel_rfl) rfl)
   (N:=256) (fun bv au W2 az aa aI bu=>(bw bv au W2 az aa aI bu).inRound aE) (fun _ _=>trivial) (fun _ _ _ _ _ _ _=>trivial) (fun _=>rfl)
   (fun xs f=>W1.grownBy f (some b)/\qhC f b (mkF E x xs))
   (fun aj f M row h k W=>⟨h.1.andThen k fun e i=>.inl (W e i).1,h.2.block (k.block b h.2.lt fun i=>by have:=(W _ i.symm).1;omega)⟩)
   ⟨World.grownBy.refl _ _,aH.o.2.2.congr fun U _=>(qyZ E x U).symm⟩
   (fun V ai f=>(0<=V/\V<=255)/\ai={tmps:=#[.func (.yield bb) #[] #[],.pointer (some ⟨Y,0,none⟩),undef,.pointer (some ⟨b,0,none⟩),.pointer (some ⟨G,0,none⟩),.int .u8 V,undef,undef,.string (sB l),.func (.func 285) #[] #[.pointer (some ⟨b+1,0,none⟩)],.agg #[.string (sB x.1),.string (sB x.2)],.agg #[.string (sB x.1),.string (sB x.2)],.func (.func 298) #[.agg #[.string (sB x.1),.string (sB x.2)]] #[],.int .u8 V,undef,undef,undef,undef,undef,undef,undef,undef,undef,undef,undef,undef,undef,undef,undef,undef,undef,undef,undef,undef,undef,undef,undef,undef,undef,undef],defers:=[]})
   (fun x aj f M row h k W=>h)
   ?assign2 ?body2 ?done2
  case assign2=>
   rintro bH xs V f bJ aZ ay ae
   gi_wp2
   exact ae _ _ (KeepsFrom.refl _ _) trivial aZ ⟨ay,rfl⟩
  case body2=>
   rintro bH xs V ai f ⟨K,Q⟩ ⟨⟨bO,bU⟩,rfl⟩ bK;obtain ⟨j,rfl⟩:∃ y:Nat,V=(y:Int):=⟨V.toNat,by omega⟩;have bc:j<256:=(by omega);have bS:=Q.c0 bc;have b7:=World.rowIs.frozen Q (j*2);have b0:=World.rowIs.frozen Q (j*2+1);have b3:=Q.c1 bc;have aK:=(K.block G bA (by simp;omega)).trans bQ.o;have ce:=C9 aK 0;have bZ:=C9 aK 1;have ad:=qld (mkF E x xs j).1;have aB:=J9 K;have a7:=J9 Q;have b4:G≠b:=(by omega);have a5:Hid (∀ ax,W1.grownBy ax (some b)->f.grownBy ax (some b)->KeepsFrom W1.heap.size f ax):=(fun ax az aa=>⟨aa.size,fun an ap bY ak _=>(aa.block an (Qb.1 ak).1 (by simp;omega)).trans ak⟩);clear K Q aK bO bU bK;by_cases o:(mkF E x xs j).1=[]
   ·rw [o] at ad bS
    rw [List.isEmpty_nil] at ad;have O:Hid (qhC ((f.setCell ⟨b,j*2,none⟩ (.string (sB x.1))).setCell ⟨b,j*2+1,none⟩ (.string (sB x.2))) b (mkF E x (xs++[(j:Int)]))):=
     (a7.o.put j x).congr fun U ah=>(qxp E x xs j o U).symm
    clear o
    gi_wp2
    have k:f.grownBy ((f.setCell ⟨b,j*2,none⟩ (.string (sB x.1))).setCell ⟨b,j*2+1,none⟩ (.string (sB x.2))) (some b):=qoU _ _ _ _ _ _;exact ⟨a5.o _ (aB.o.trans k) k,trivial,aB.o.trans k,O.o⟩
   ·rw [List.isEmpty_eq_false_iff.2 o] at ad
    have O:Hid (qhC f b (mkF E x (xs++[(j:Int)]))):=a7.o.congr fun U ah=>(quH E x xs j o U).symm
    clear o
    gi_wp2
    exact ⟨a5.o _ aB.o (World.grownBy.refl _ _),trivial,aB.o,O.o⟩
  case done2=>
   rintro xs f ar ⟨K,Q⟩;rw [show xs=opsP x from ar] at Q;have O:qzH b s (E++[x]) f:=⟨aH.o.1.trans ((Qc b W1).grown K (by omega) fun D i=>by cases i;omega),by have:=K.size;omega,Q.congr fun U ah=>qtU E x aN.o.1 aN.o.2 U ah⟩;have a1:KeepsFrom (b+2) W1 f:=⟨K.size,fun an ap bY ak _=>(K.block an (Qb.1 ak).1 (by simp;omega)).trans ak⟩;have a4:qgT W1 f:=QN (K.block _ (by show 0 < _;omega) (by simp;omega));have bt:=J9 (Zf a1 (Zf a4 O));clear K Q O a1 a4
   gi_wp2
   rw [show X.heap.size=b+2 by omega];exact bt.o
 case done=>
  rintro z xs W2 bd ar r ae;rw [show xs=patsOf l from ar] at r;have aV:=qu1 r.2.2;have au:=J9 (aR.o _ _ _ bW.o (by rw [ab];exact r.1));have DK:=J9 ae;have bN:Hid (b+2<=z):=by show _<=_;omega
  have aH:=J9 r;obtain ⟨J,aG⟩:=N9 (qfj (patsOf l));have aw:=J9 aG;rw [aG] at aV;clear ae bd r ar aG bp bo
  go_wp2_with (refine qDs aV rfl rfl rfl ?_)
  go_loopw [23] (fun D wr=>∃ e:Nat,D=.int .i64 (e:Int)/\e<=256/\Hid (ac (qbl (patsOf l) e) wr)/\Hid (wr.heap[z]?=some (.deferred (some [])))) (fun D _=>256 - (intOf D).toNat)
  case atStart=>exact ⟨0,rfl,by omega,au.o,DK.o⟩
  case round=>
   clear au DK aV;obtain ⟨e,rfl,bk,aA,Z⟩:=hrel;by_cases bh:e=256
   ·subst bh
    clear bk;go_wp2;refine ⟨by simp,.inl ⟨_,_,rfl,run_takeDeferred Z.o,?_⟩⟩;refine ⟨.tuple #[],by simp [results,results297,go_sem],⟨_,rfl⟩,_,rfl,bR.o _ _ _ _ aA.o (by have:=bN.o;omega) Z.o⟩
   ·have aF:e<256:=by omega
    have cg:(e:Int)<256:=(by omega);have bC:=qra J e aF;have cf:IntKind.u8.wrap (e:Int)=(e:Int):=(by show (e:Int) % 256=_;omega);have ad:=qld (J e).1;have af:=J9 aF;clear bh bk aF;by_cases o:(J e).1=[]
    ·rw [o] at ad bC
     rw [List.isEmpty_nil] at ad;have O:Hid (qbl (patsOf l) (e+1)=qbl (patsOf l) e):=by
      show qbl _ (e+1)=_;rw [qbl,aw.o,Qk o]
     clear o;go_wp2;refine ⟨⟨e+1,by simp,by have:=af.o;omega,?_,(Below.heap_alloc _ _ _ (Qb.1 Z.o).1).trans Z.o⟩,?_⟩
     ·show ac _ _
      rw [O.o];exact aR.o _ _ _ aA.o (B0)
     ·show 256 - ((e:Int)+1).toNat<256 - (e:Int).toNat
      have:=af.o;omega
    ·rw [List.isEmpty_eq_false_iff.2 o] at ad
     have O:Hid (qbl (patsOf l) (e+1)=qbl (patsOf l) e++[(J e,(e:Int))]):=by
      show qbl _ (e+1)=_;rw [qbl,aw.o,Qd o]
     have br:Hid (qlo (patsOf l) (J e,(e:Int))):=by
      have h:=qr5 (ps:=patsOf l) af.o (by rw [aw.o];exact o);rw [aw.o] at h;exact h
     obtain ⟨aT,aX⟩:=N9 (wr.alloc (.cells #[.string (sB (J e).1),.string (sB (J e).2)] 286));have aY:aT.heap[wr.heap.size]?=some (.cells #[.string (sB (J e).1),.string (sB (J e).2)] 286 (0,0)):=(by rw [<- aX];exact World.alloc_heap_new wr _);have bG:=C9 aY 0;have bX:=C9 aY 1;have bP:Hid (aT.heap[z]?=some (.deferred (some []))):=(by rw [<- aX];exact (Below.heap_alloc _ _ _ (Qb.1 Z.o).1).trans Z.o);have bz:=bB.o (qbl (patsOf l) e) (J e,(e:Int)) aT (by rw [<- aX];exact aR.o _ _ _ aA.o (B0)) br.o (Nat.lt_of_le_of_lt (qfq _ _) af.o);obtain ⟨cc,tmps,assign,body,ay,a0⟩:=bz;simp only [qai] at ay;clear o br aA Z aY
     go_upto_region 10 with fail
     refine (wpIn_wide (n:=n)).1 ?_
     gi_wp2
     refine ⟨fun h=>(by cases h),a0.mono ?_⟩;rintro b8 b2 ⟨rfl,a6,bm⟩;have bI:=J9 a6;have bF:=J9 (bm z _ bP.o);clear a6 bm a0 ay
     gi_wp2
     go_wp2;refine ⟨⟨e+1,by simp,by have:=af.o;omega,?_,bF.o⟩,?_⟩
     ·show ac _ _
      rw [O.o];exact bI.o
     ·show 256 - ((e:Int)+1).toNat<256 - (e:Int).toNat
      have:=af.o;omega
end Go.Proofs.YtjafbmfcedijmaaGreatDoor
namespace Go.Proofs.YtjafbmfcedijmaaGreatDoor
open Tryz
open Go.RowKit Go.Shelf
attribute [local go_sem] Oper.semAt_some
theorem qsQ (l:Str) (w:World) :
  Calls prog 277 #[.string (sB l)] w fun e h=>e=.returned (.func (.func 297) #[] #[.pointer (some ⟨w.heap.size,0,none⟩)])/\w.alloc (.cells #[.string (sB l)] 9)=h:=by
 go_enter func277,ntmps277
 go_wp2;go_ret;exact ⟨rfl,rfl⟩
theorem qls (p:Pat) (y:Int) (e:Good p y) (w:World) (K:qac w) :
  Calls prog 278 #[qai p y] w fun G z=>G=.returned (.string (sB (qal p y).1))/\Below w.heap.size w z:=by
 have h:=fun z (O:qac z)=>qk7 p e.len (by have:=e.form;omega) y e.op0 e.op1 e.na e.no z O
 unfold qai at h |-;have E:=qaG w (.cells #[.string (sB p.1),.string (sB p.2),.int .u8 y] 288);have h:=h _ (K.below E);have M:=J9 E;clear K E e
 go_enter func278,ntmps278
 go_wp2_with fail
 refine h.mono ?_;rintro G z ⟨rfl,J⟩;have U:=J9 (M.o.trans (J.mono (by simp)));clear h J;go_wp2;go_ret;exact ⟨rfl,U.o⟩
theorem qsk (a b:Str):((sB a).toList == (sB b).toList)=decide (a=b):=by
 rw [Qe,Qe];show (a == b)=_;by_cases h:a=b
 ·rw [h,Qn rfl]
  exact beq_self_eq_true _
 ·rw [Qf h]
  exact beq_false_of_ne h
theorem qm2 (m e:Str) (h:Nat) (w:World) (z:Boxed w h 9 (.string (sB e))):Calls prog 244 #[.string (sB m),.pointer (some ⟨h,0,none⟩)] w fun y E=>y=.returned (.bool (decide (m=e)))/\E=w:=by
 have G:=z.cell;rw [<- qsk]
 go_enter func244,ntmps244
 go_wp2;go_ret;exact ⟨rfl,rfl⟩
def qBe (z y:Int):Option En->List Ke
 | some h=>[(z,y,h.1,h.2.1,h.2.2.1,h.2.2.2)]
 | none=>[]
def qw8 (y:Str->Bool) (h:Int) (x:Pat×Int):List Ke:=if y (qal x.1 x.2).1=true then qBe h x.2 (qcu x.1 h x.2) else []
def qca (h:Str->Bool) (y:Int) (xs:List (Pat×Int)):List Ke:=xs.flatMap (qw8 h y)
theorem qfp (h:Str->Bool) (y:Int) (xs:List (Pat×Int)) (x:Pat×Int):qca h y (xs++[x])=qca h y xs++qw8 h y x:=by
 unfold qca;rw [List.flatMap_append];simp
def keysPg (y:Str->Bool) (h:Int):List Ke:=qca y h (qbl (patsOf (listS h)) 256)
def qay (h:Str->Bool) (y:List Int):List Ke:=y.flatMap (keysPg h)
theorem qfM (h:Str->Bool) (xs:List Int) (x:Int):qay h (xs++[x])=qay h xs++keysPg h x:=by
 unfold qay;rw [List.flatMap_append];simp
def qjb (w:World) (A:Option Addr) (L:List Int):Prop:=L=[]\/∃ h k,A=some ⟨h,k,none⟩/\∀ b (y:b<L.length),w.cell? ⟨h,k+b,none⟩=some (.int .i64 L[b])
theorem qjb.below {w w':World} {A:Option Addr} {L:List Int} (z:qjb w A L) (G:Below w.heap.size w w'):qjb w' A L:=by
 rcases z with rfl | ⟨y,E,rfl,b⟩
 ·exact .inl rfl
 ·exact .inr ⟨y,E,rfl,fun h k=>(G.cell (Qp w _ (b h k))).trans (b h k)⟩
theorem qx4 {ps:List Pat} {i:Nat} (h:(qfj ps i).1≠[]):qfj ps i∈ps:=by
 unfold qfj at h |-;cases p:ps.find? fun q=>qcO q.1 (i:Int) with
 | none=>rw [p] at h;exact absurd rfl h
 | some y=>exact Zw p
theorem qiz {ps:List Pat} {x:Pat×Int} (h:qlo ps x):x.1∈ps:=by
 rw [<- h.1];exact qx4 (by rw [h.1];exact h.2.1)
theorem qgt (y:Int):∀ p∈patsOf (listS y),p∈mainP++cbP++edP:=fun p h=>by
 rw [qcf] at h;exact qgx h
end Go.Proofs.YtjafbmfcedijmaaGreatDoor
namespace Go.Proofs.YtjafbmfcedijmaaGreatDoor
open Tryz
open Go.RowKit Go.Shelf
attribute [local go_sem] Oper.semAt_some
attribute [local irreducible] Go.Mixed.qD8
def qAf (w:World) (A:List Ke) (e:Ending) (w':World):Prop:=∃ y z h,e=.returned (.slice y h.length z)/\qbV w' w.heap.size (.slice y h.length z) h/\h.map Ee.k=A/\Below w.heap.size w w'
def qg4 (L:List Int):List Int:=if L=[] then [0,1,2,3,4,5,6] else L
theorem qCI (w:World):qjb (w.alloc (.cells #[.int .i64 0,.int .i64 1,.int .i64 2,.int .i64 3,.int .i64 4,.int .i64 5,.int .i64 6] 3)) (some ⟨w.heap.size,0,none⟩) [0,1,2,3,4,5,6]:=by
 refine .inr ⟨_,_,rfl,fun h k=>?_⟩;rw [QS,C9 (heap_alloc_new w _)];have y:h<7:=k;rcases (by omega:h=0\/h=1\/h=2\/h=3\/h=4\/h=5\/h=6) with rfl | rfl | rfl | rfl | rfl | rfl | rfl <;> rfl
theorem qbV.grown {X Y:World} {n:Nat} {v:Value} {m:List Ee} {row:Option Nat} (h:qbV X n v m) (E:X.grownBy Y row) (K:∀ r,row=some r->∃ o:Obj,X.heap[r]?=some o/\o.isCells=false):qbV Y n v m:=by
 have C:∀ (e:Value) (z:TypeId) (q u:Nat) (G:List Value),X.ownsRow n z q e u G->e.ownBlock=none\/e.ownBlock≠row:=fun e z q u G U=>by
  cases k:e.ownBlock with
  | none=>exact .inl rfl
  | some O=>
   refine .inr fun T=>?_
   obtain ⟨o,y,R⟩:=K O T.symm;rcases U.2 with ⟨rfl,_⟩ | ⟨aa,Z,V,rfl,_,M,_⟩
   ·simp [Value.ownBlock] at k
   ·simp only [Value.ownBlock,Qz] at k
    subst k;rw [M] at y;cases y;cases R
 exact ⟨World.ownsRow.kept h.1 E (C _ _ _ _ _ h.1),fun r J=>World.ownsRow.kept (h.2 r J) E (C _ _ _ _ _ (h.2 r J))⟩
theorem qvg (h:Str->Bool) (y:Int) (x:Pat×Int):(qw8 h y x).length<=1:=by
 unfold qw8;split
 ·unfold qBe
  split <;> simp
 ·simp
theorem qgE (h:Str->Bool) (t:Int):∀ xs:List (Pat×Int),(qca h t xs).length<=xs.length
 | []=>Qa _
 | x :: y=>by
  have z:=qgE h t y;have E:=qvg h t x;show (qw8 h t x++qca h t y).length<=y.length+1;rw [Qg];omega
theorem qgF (h:Str->Bool):∀ ps:List Int,(qay h ps).length<=256*ps.length
 | []=>Qa _
 | x :: t=>by
  have y:=qgF h t;have z:=Qm (qgE h x (qbl (patsOf (listS x)) 256)) (qfq _ _);show (keysPg h x++qay h t).length<=256*(t.length+1);rw [Qg];unfold keysPg;omega
def qmk (w2:World) (q:Nat) (G:List Nat) (D:List Ke) (X:World):Prop:=
 ∃ z y h,Boxed X q 262 (.slice z h.length y)/\qbV X (q+1) (.slice z h.length y) h/\h.map Ee.k=D/\Below q w2 X/\q+1<=X.heap.size/\∀ E∈G,X.heap[E]?=some (.deferred (some []))
theorem qmk.own {w2 X Y:World} {q:Nat} {E:List Nat} {J:List Ke} {row:Option Nat} (Z:qmk w2 q E J X) (ac:q<=w2.heap.size) (h:X.grownBy Y row) (y:∀ r,row=some r->q<r/\r∉E/\∃ o:Obj,X.heap[r]?=some o/\o.isCells=false):qmk w2 q E J Y:=by
 obtain ⟨aa,V,M,O,U,R,G,ab,K⟩:=Z;refine ⟨aa,V,M,O.kept h fun e=>?_,U.grown h fun r e=>(y r e).2.2,R,G.grown h (by have:=G.size;omega) fun r e=>by have:=(y r e).1;omega,Qm ab h.size,fun z D=>?_⟩
 ·have:=(y q e.symm).1;omega
 ·refine (h.block z (Qb.1 (K z D)).1 fun e=>?_).trans (K z D)
  exact (y z e.symm).2.1 D
theorem qmk.below {w2 X Y:World} {q:Nat} {i:List Nat} {h:List Ke} (E:qmk w2 q i h X) (G:q<=w2.heap.size) (e:Below X.heap.size X Y):qmk w2 q i h Y:=
 E.own G (row:=none) ⟨e.os,e.tape,e.output,e.size,fun z y _=>e.block z y⟩ (fun J r=>by cases r)
theorem qbV.type {X:World} {n:Nat} {v:Value} {z:List Ee} (h:qbV X n v z) {k:Nat} (e:v.ownBlock=some k):∃ E,X.heap[k]?=some (.cells E 163 (0,0))/\n<=k:=by
 have y:=h.1.2;rcases y with ⟨rfl,_⟩ | ⟨K,O,J,rfl,M,G,_⟩
 ·simp [Value.ownBlock] at e
 ·simp only [Value.ownBlock,Qz] at e
  subst e;exact ⟨_,G,(World.ownsRow.lt h.1 _ rfl).1⟩
theorem qb6 {F:Fence} {n:Nat} {w w1:World} {t ty:TypeId} {v y h:Value} (G:(Builtin.append_ #[t,t] ty #[v,y]).run prog w=.ok h w1) {ops:Array Oper} {rest:List Oper} {o:Oper} {a:Act} {Q:Exit->Act->World->Prop} (U:o.guard=none) (s x:Operand)
  (c:o.op=.call {callee:=.builtin .append,args:=#[s,x],argTypes:=#[t,t]}) (O:o.type=ty) (K:a.eval s=v) (E:a.eval x=y) (M:wpListIn F n prog ops Q rest (a.put o.dst h) w1):wpListIn F n prog ops Q (o :: rest) a w:=by
 subst O;refine wpListIn_plain U fun Z z=>?_
 unfold Oper.wpIn;refine ⟨?_,?_⟩
 ·simp [Oper.about,c,resolve,Target.leads,Sem.run_pure]
 ·rw [Oper.semAt_plain F _ _ (by rw [c];intro V J;cases J)]
  simp [execOp,c,resolve,invoke,builtin,K,E,G,Result.andThen];exact z _ _ M
theorem qbV.other {X:World} {n:Nat} {v:Value} {h:List Ee} (e:qbV X n v h) {b:Nat} (M:b<n) (u:Value):qbV (X.setCell ⟨b,0,none⟩ u) n v h:=by
 have r:∀ (u:Value) (q:TypeId) (m k:Nat) (z:List Value),X.ownsRow n q m u k z->u.ownBlock=none\/u.ownBlock≠some b:=fun u q m k z J=>by
  cases G:u.ownBlock with
  | none=>exact .inl rfl
  | some K=>exact .inr fun E=>by cases E;have:=(World.ownsRow.lt J _ G).1;omega
 exact ⟨World.ownsRow.kept e.1 (grownBy_setCell' X b u) (r _ _ _ _ _ e.1),fun y C=>World.ownsRow.kept (e.2 y C) (grownBy_setCell' X b u) (r _ _ _ _ _ (e.2 y C))⟩
theorem qgU {W h:World} (o:Below W.heap.size W h):KeepsOthers W h:=⟨o.size,fun y z k _=>(o.block y (Qb.1 k).1).trans k⟩
theorem qpZ (W:World) (l:Nat) (r z:Loop) (D:W.heap[l]?=some (.loop r)):qep W (W.putObj l (.loop z)):=fun o E e=>by
 have y:o≠l:=fun h=>by rw [h,D] at e;cases e
 exact (World.putObj_heap_other y).trans e
theorem qep.others {W e:World} (y:KeepsOthers W e):qep W e:=fun o z h=>y.same o _ h rfl
theorem qlY (g:Nat) (lb:Array Value) (dq:∀ args w,(callFunc g args).run prog w=.ok (.enter g args) w) (o:Str->Bool) (w:World) (bF:qac w) (A:Option Addr) (cap:Nat) (L:List Int) (cA:qjb w A L) (cc:L.length<=10)
  (cw:∀ (m:Str) (w':World),Below w.heap.size w w'->Calls prog g (#[.string (sB m)]++lb) w' fun e w2=>e=.returned (.bool (o m))/\w2=w') :
  Calls prog 243 #[.slice A L.length cap,.func (.func g) #[] lb] w (qAf w (qay o (qg4 L))):=by
 obtain ⟨n,aE⟩:=N9 (w.heap.size);have cq:0 < n:=by rw [<- aE];exact bF.lt
 obtain ⟨ay,a3⟩:=N9 (w.alloc (.cells #[.func (.func g) #[] lb] 166));have bw:Below n w ay:=by rw [<- a3,<- aE];exact B0
 have ac:ay.heap.size=n+1:=by rw [<- a3,<- aE];simp
 have cd:Boxed ay n 166 (.func (.func g) #[] lb):=by rw [<- a3,<- aE];exact Boxed.new _ _ _
 have cp:Hid (qjb ay A L):=cA.below (by rw [aE];exact bw);have cZ:=J9 cw;have ah:=J9 bw;have cI:=J9 cd;have bE:=J9 aE;have bY:=J9 bF;clear cA cw bw cd bF;refine callsIn_wide.1 (callsIn_of_wp_marks (n:=8) func243 rfl trivial ?_ rfl);simp only [ntmps243,Zx,Qv,QH,Nat.reduceAdd,Nat.reduceSub,Array.replicate_succ,Array.replicate_zero,List.push_toArray,List.append_toArray,Zk,List.cons_append];refine wpIn_wide.2 ?_;obtain ⟨l,bc⟩:=N9 (qg4 L);rw [bc];have bD:=J9 bc;have c1:l.length<=10:=by
  rw [<- bc];unfold qg4;split
  ·decide
  ·exact cc
 clear bc
 go_upto_if 13 with fail
 go_cut [0] from 11 to 14 (fun ci wx=>∃ ax aB,ci=.slice ax l.length aB/\Hid (qjb wx ax l)/\Hid (Below (n+1) ay wx))
 case first=>
  by_cases aY:L=[]
  ·subst aY
   obtain rfl:l=[0,1,2,3,4,5,6]:=bD.o.symm;clear c1;go_wp2
   go_meet
   exact ⟨_,_,rfl,(by have q:=qCI ay;rw [ac] at q;exact q),(Qc _ _).alloc (by omega) _⟩
  ·have dK:0<L.length:=Q9.2 aY
   have dN:¬((L.length:Int)=0):=(by omega);obtain rfl:l=L:=by rw [<- bD.o];unfold qg4;rw [Qd aY]
   clear aY;go_wp2
   go_meet
   exact ⟨_,_,rfl,cp.o,Qc _ _⟩
 case rest=>
  obtain ⟨ax,aB,rfl,bT,a8⟩:=hcut;clear cp bD cc;obtain ⟨j,aH⟩:=N9 (wc.heap.size);obtain ⟨w2,ba⟩:=N9 (wc.alloc (.cells #[.slice none 0 0] 262));have dH:n+1<=j:=by have:=a8.o.size;omega
  have aS:Below j wc w2:=by rw [<- ba,<- aH];exact B0
  have ad:w2.heap.size=j+1:=by rw [<- ba,<- aH];simp
  have cx:Hid (Boxed w2 j 262 (.slice none 0 0)):=by rw [<- ba,<- aH];exact Boxed.new _ _ _
  have bi:Hid (∀ P (q:P<l.length),∃ y Z,ax=some ⟨y,Z,none⟩/\y<j/\w2.cell? ⟨y,Z+P,none⟩=some (.int .i64 l[P])):=fun P q=>by
   rcases bT.o with bN | ⟨y,Z,rfl,ag⟩
   ·rw [bN] at q;cases q
   ·have aQ:=Qp wc _ (ag P q)
    exact ⟨y,Z,rfl,by rw [<- aH];exact aQ,(aS.cell (by rw [<- aH];exact aQ)).trans (ag P q)⟩
  have dd:Hid (Boxed w2 n 166 (.func (.func g) #[] lb)):=(aS.block n (by omega)).trans ((a8.o.block n (by omega)).trans cI.o);have a4:Hid (Below n w w2):=(ah.o.trans (a8.o.mono (by omega))).trans (aS.mono (by omega));have dy:=J9 aH;have dz:=J9 ba;clear bT a8 ah cI aS ac a3 ay
  go_upto_block 0 with fail
  apply wp_block;have I2:Hid (qmk w2 j [] (qay o (l.take 0)) w2):=⟨none,0,[],cx.o,qsm _ _,rfl,Qc _ _,by omega,fun v ab=>absurd ab Q8⟩;refine wp_loop (fun aw af=>∃ (s:Nat) (M:List Nat) (cr b7 b6 cv cu cB cl bm:Value),aw={tmps:=#[.slice ax l.length aB,.func (.func g) #[] lb,undef,.pointer (some ⟨n,0,none⟩),.slice none 0 0,.pointer (some ⟨j,0,none⟩),undef,cr,undef,undef,undef,u11,u12,u13,u14,.slice ax l.length aB,.int .i64 (l.length:Int),.int .i64 (s:Int),b7,b6,cv,cu,cB,cl,undef,undef,undef,undef,undef,undef,undef,undef,undef,undef,undef,undef,undef,undef,undef,undef,undef,bm,undef],defers:=Each.marks M}/\s<=l.length/\Hid (qmk w2 j M (qay o (l.take s)) af)/\Hid (M.Nodup/\∀ v∈M,j<v/\v<af.heap.size)) (fun aw af=>l.length - (intOf (aw.tmps.getD 17 undef)).toNat) ?_ ?_
  ·exact ⟨0,[],_,_,_,_,_,_,_,_,rfl,Qs _,I2.o,List.nodup_nil,fun v ab=>absurd ab Q8⟩
  ·clear I2 cx
   rintro aw af ⟨s,M,cr,b7,b6,cv,cu,cB,cl,bm,rfl,dI,aA,be⟩;by_cases br:s=l.length
   ·have dG:¬((s:Int)<(l.length:Int)):=by omega
    obtain ⟨ae,X,r,J,H,E,G,am,U⟩:=aA.o;have dv:=J.cell;have a7:=J9 (Zf H (Zf E (Zf G U)));clear J H E G am U aA
    go_wp2_with fail
    refine Each.qEO (fun k=>qbV k (j+1) (.slice ae r.length X) r/\Below n w k) (fun v=>j<v) ?_ M af be.o.1 (fun v ab=>⟨(be.o.2 v ab).1,a7.o.2.2.2 v ab⟩) ⟨a7.o.1,a4.o.trans (a7.o.2.2.1.mono (by omega))⟩ ?_
    ·rintro k v ab ⟨ac,ad⟩ dl
     exact ⟨ac.grown (grownBy_putObj' k v _) fun ai e=>by cases e;exact ⟨_,dl,rfl⟩,ad.grown (grownBy_putObj' k v _) (by have:=ad.size;omega) fun ai e=>by cases e;omega⟩
    ·rintro k ⟨ac,ad⟩
     refine ⟨.slice ae r.length X,by simp [results,results243,go_sem],ae,X,r,rfl,by rw [bE.o];exact ac.lift (by omega),?_,by rw [bE.o];exact ad⟩;have E:=a7.o.2.1
     rwa [br,List.take_length] at E
   ·have bJ:s<l.length:=by omega
    have dM:(s:Int)<(l.length:Int):=(by omega);obtain ⟨b,bB⟩:=N9 (l[s]);have cg:Hid (Below j w2 af):=(by obtain ⟨ae,X,r,J,H,E,G,am,U⟩:=aA.o;exact G);have dA:j+1<=af.heap.size:=(by obtain ⟨ae,X,r,J,H,E,G,am,U⟩:=aA.o;exact am);have ca:qac af:=(bY.o.qEr a4.o cq).qEr cg.o (by omega);have cQ:Hid (l.take (s+1)=l.take s++[b]):=(by show _=_;rw [Qx bJ,bB]);have dj:∃ y Z,ax=some ⟨y,Z,none⟩/\af.cell? ⟨y,Z+s,none⟩=some (.int .i64 b):=by
     obtain ⟨y,Z,rfl,aQ,ag⟩:=bi.o s bJ;exact ⟨y,Z,rfl,((cg.o.cell aQ).trans ag).trans (by rw [bB])⟩
    obtain ⟨bK,Z,rfl,du⟩:=dj;obtain ⟨x,aP⟩:=N9 (af.heap.size);obtain ⟨av,aX⟩:=N9 (af.alloc (.cells #[.int .i64 b] 3));have bh:Below x af av:=(by rw [<- aX,<- aP];exact qaG _ _);have bL:Boxed av x 3 (.int .i64 b):=(by rw [<- aX,<- aP];exact Boxed.new _ _ _);have bn:av.heap.size=x+1:=(by rw [<- aX,<- aP];simp);have bZ:=qh1 b av;have bO:=qsQ (listS b) av;rw [bn] at bO;have cD:qac av:=ca.qEr bh (by omega);have de:=bL.cell;have cy:=J9 bL;have df:=J9 bh;have b9:Hid (qmk w2 j M (qay o (l.take s)) av):=aA.o.below (by omega) (by rw [aP];exact bh);have dk:=J9 cD;have dn:=J9 br;have aW:Hid (M.Nodup/\∀ v∈M,j<v/\v<x):=(by rw [<- aP];exact be.o);clear bL bh cD ca aA bB br be
    go_wp2_with fail
    refine bZ.mono ?_;rintro e bk ⟨rfl,rfl⟩
    go_wp2_with fail
    refine bO.mono ?_;rintro e ao ⟨rfl,aZ⟩;have ck:Boxed ao (x+1) 9 (.string (sB (listS b))):=by
     have q:=Boxed.new bk 9 (.string (sB (listS b)))
     rwa [aZ,bn] at q
    have aU:Below bk.heap.size bk ao:=(by rw [<- aZ];exact qaG _ _);have dE:ao.heap.size=x+1+1:=(by rw [<- aZ];simp;omega);have cG:qac ao:=dk.o.below aU;have ak:Boxed ao x 3 (.int .i64 b):=(aU.block x (by omega)).trans cy.o;have cX:Hid (qmk w2 j M (qay o (l.take s)) ao):=b9.o.below (by omega) aU;have cW:=J9 ak;have bM:=qkl 7 (x+1) (listS b) (qk8 b) (qgt b) ao ck cG;clear bZ bO ck aU cG ak aZ bn de cy df b9 aX
    go_wp2_with fail
    have c4:Hid (qca o b (qbl (patsOf (listS b)) 256)=keysPg o b):=rfl;refine wpIn_wide.1 (Each.qE5 (F:=Fence.wide) (n:=8) rfl (by omega) (gf:=297) (lb:=#[.pointer (some ⟨x+1,0,none⟩)]) rfl trivial (enters_of func297 (by kernel_rfl) rfl)
     bM (fun q P=>q.trans P) (fun cV db ai c8 _ q=>qpZ cV db ai c8 q) (fun _=>rfl)
     (fun K k=>qmk w2 j M (qay o (l.take s)++qca o b K) k/\Boxed k x 3 (.int .i64 b)/\x+2<=k.heap.size)
     (fun cY z k row q aO aq=>⟨q.1.own (by omega) aO fun ai e=>⟨by have:=(aq ai e).1;omega,fun ab=>by have:=(aW.o.2 ai ab).2;have:=(aq ai e).1;omega,(aq ai e).2⟩,q.2.1.kept aO fun e=>by have:=(aq _ e.symm).1;omega,Qm q.2.2 aO.size⟩)
     ⟨by rw [show qca o b []=[] from rfl,Zs];exact cX.o,cW.o,by omega⟩
     (fun h aw k=>qlo (patsOf (listS b)) h/\∃ y,x+2<=y/\k.heap[y]?=some (.cells #[.string (sB h.1.1),.string (sB h.1.2),.int .u8 h.2] 288 (0,0))/\aw={tmps:=#[.slice (some ⟨bK,Z,none⟩) l.length aB,.func (.func g) #[] lb,undef,.pointer (some ⟨n,0,none⟩),.slice none 0 0,.pointer (some ⟨j,0,none⟩),undef,.pointer (some ⟨x,0,none⟩),.pointer (some ⟨y,0,none⟩),undef,undef,u11,u12,u13,u14,.slice (some ⟨bK,Z,none⟩) l.length aB,.int .i64 (l.length:Int),.int .i64 (s:Int),.bool true,.pointer (some ⟨bK,Z+s,none⟩),.int .i64 b,.int .i64 b,.string (sB (listS b)),.func (.func 297) #[] #[.pointer (some ⟨x+1,0,none⟩)],.agg #[.string (sB h.1.1),.string (sB h.1.2),.int .u8 h.2],undef,undef,undef,undef,undef,undef,undef,undef,undef,undef,undef,undef,undef,undef,undef,undef,bm,undef],defers:=[]})
     (fun h cY z k row q aO aq=>by
      obtain ⟨bN,y,J,H,E⟩:=q;exact ⟨bN,y,J,(grownBy_keeps_cells aO (fun ai e=>(aq ai e).2) H rfl).trans H,E⟩)
     ?assign ?body ?done)
    case assign=>
     rintro bV K h k dD ⟨ac,ad,a5⟩ D bp;simp only [qai]
     gi_wp2
     refine bp _ _ ((KeepsOthers.alloc _ _).from _) (qep.below (qaG _ _)) ⟨ac.below (by omega) (qaG _ _),ad.alloc _,by simp;omega⟩ ⟨D,k.heap.size,by omega,World.alloc_heap_new k _,rfl⟩
    case body=>
     rintro bV K h aw k ⟨ac,ad,a5⟩ ⟨D,y,aQ,ag,rfl⟩ dF;obtain ⟨ae,X,r,J,H,E,G,am,U⟩:=ac;have bq:=qgm (qgt b _ (qiz D)) h.2 D.2.2.1 (by have:=D.2.2.2;omega);have bU:=qgm (qgt b _ (qiz D)) (op6 h.2) (qst h.2 D.2.2.1 (by have:=D.2.2.2;omega)).1 (qst h.2 D.2.2.1 (by have:=D.2.2.2;omega)).2;have bs:qac k:=(bY.o.qEr a4.o cq).qEr G (by omega);obtain ⟨cj,bg⟩:=N9 (k.drew);have bv:Below k.heap.size k cj:=(by rw [<- bg];exact below_drewN _ _ 1);have bC:=qls h.1 h.2 bq.good cj (bs.below bv);have aD:=(fun z (q:qac z)=>qlm h.1 b h.2 bq bU z q);unfold qai at bC aD;have bl:Hid (∀ z,Below k.heap.size k z->z.cell? ⟨n,0,none⟩=some (.func (.func g) #[] lb)/\z.cell? ⟨y,0,none⟩=some (.string (sB h.1.1))/\z.cell? ⟨y,1,none⟩=some (.string (sB h.1.2))/\z.cell? ⟨y,2,none⟩=some (.int .u8 h.2)):=fun z aj=>by
      have aC:=((aj.block n (by omega)).trans (G.block n (by omega))).trans dd.o;have ar:=(aj.block y (Qb.1 ag).1).trans ag;exact ⟨Boxed.cell aC,C9 ar 0,C9 ar 1,C9 ar 2⟩
     have cU:=J9 (Zf J (Zf H (Zf E (Zf G U))));have dJ:=J9 ag;have cH:=J9 ad;have cM:=J9 bs;have dg:=J9 aD;have bb:=J9 bv;have cJ:Hid (∀ z,Below k.heap.size k z->Below w.heap.size w z):=fun z aj=>by rw [bE.o];exact (a4.o.trans (G.mono (by omega))).trans (aj.mono (by omega))
     have b2:Hid (∀ z,Below k.heap.size k z->qca o b (K++[h])=qca o b K->KeepsFrom ao.heap.size k z/\qep k z/\qmk w2 j M (qay o (l.take s)++qca o b (K++[h])) z/\Boxed z x 3 (.int .i64 b)/\x+2<=z.heap.size):=fun z aj bp=>
      ⟨(qgU aj).from _,qep.below aj,by rw [bp];exact qmk.below ⟨ae,X,r,J,H,E,G,am,U⟩ (by omega) aj,(aj.block x (by omega)).trans ad,Qm a5 aj.size⟩
     clear J H E G U ag bq bU bs aD bv D ad bM
     gi_wp2_with fail
     refine Mixed.qEF (fun w'=>w'.cell? ⟨n,0,none⟩=some (.func (.func g) #[] lb)/\w'.cell? ⟨y,0,none⟩=some (.string (sB h.1.1))/\w'.cell? ⟨y,1,none⟩=some (.string (sB h.1.2))/\w'.cell? ⟨y,2,none⟩=some (.int .u8 h.2)) 3 [(0,true),(1,true),(2,false)] (by kernel_rfl) (fun ⟨_,_,q⟩=>q) (by kernel_rfl) (by kernel_rfl) (by rw [bg];exact bl.o _ bb.o) ?_;rw [bg];clear bg;refine Mixed.mo rfl (.func (.func g) #[] lb) (fun w q=>by obtain ⟨J,H,E,G⟩:=q;go_simp;try rfl) ?_;refine Mixed.mo rfl (.agg #[.string (sB h.1.1),.string (sB h.1.2),.int .u8 h.2]) (fun w q=>by obtain ⟨J,H,E,G⟩:=q;go_simp;try rfl) ?_;refine Mixed.qEh rfl ?_
     go_wp2_with fail
     refine bC.mono ?_;rintro e c0 ⟨rfl,bS⟩;have ah:=J9 (bb.o.trans (bS.mono bb.o.size));have cC:=bl.o _ ah.o;have bH:=cZ.o (qal h.1 h.2).1 c0 (cJ.o _ ah.o);clear bC bS bb bl;have cO:=J9 cC;obtain ⟨cL,c7,cT,dh⟩:=cC;obtain ⟨m,bG⟩:=N9 ((qal h.1 h.2).1);rw [bG] at bH |-;have cF:=J9 bG;clear bG;go_wp2;refine ⟨cO.o,?_⟩;simp only [Mixed.qD8,Qq,Qy]
     go_wp2_with fail
     refine bH.mono ?_;rintro e bo ⟨rfl,rfl⟩;clear bH;cases a0:o m with
     | false=>
      have a6:Hid (qca o b (K++[h])=qca o b K):=by
       show _=_;rw [qfp,qw8,cF.o,a0,Qd (by decide),Zs]
      clear a0;go_wp2
      gi_wp2
      exact b2.o _ ah.o a6.o
     | true=>
      have a6:Hid (qca o b (K++[h])=qca o b K++qBe b h.2 (qcu h.1 b h.2)):=by
       show _=_;rw [qfp,qw8,cF.o,a0,Qk rfl]
      have c3:bo.cell? ⟨x,0,none⟩=some (.int .i64 b):=Boxed.cell ((ah.o.block x (by omega)).trans cH.o);have aD:=dg.o bo (cM.o.below ah.o);clear a0;go_wp2
      gi_wp2_with fail
      refine ⟨trivial,CallsIn.inRound bV (callsIn_wide.2 aD) |>.mono ?_⟩;rintro e az ⟨a9,bI⟩;have aM:=J9 (ah.o.trans (bI.mono ah.o.size));have cf:Hid (k.heap.size<=az.heap.size):=aM.o.size;have dm:Hid (j+1<=bo.heap.size):=(by have:=ah.o.size;show _<=_;omega);clear aD c3 cL c7 cT dh;cases aF:qcu h.1 b h.2 with
      | none=>
       rw [aF] at a9;subst a9;have bu:Hid (qca o b (K++[h])=qca o b K):=by
        show _=_;rw [a6.o,aF];exact Zs _
       simp only [enV];clear aF bI
       gi_wp2
       exact b2.o _ (aM.o.trans ((qaG _ _).mono cf.o)) bu.o
      | some cP=>
       obtain ⟨R,O,V,W⟩:=cP;rw [aF] at a9;obtain ⟨ci,rfl,a2⟩:=a9;simp only at a2 |-;obtain ⟨aa,Y,rfl,b0,-⟩:=a2.ops;have bu:Hid (qca o b (K++[h])=qca o b K++[(b,h.2,R,O,V,W)]):=by
        show _=_;rw [a6.o,aF];rfl
       simp only [enV];obtain ⟨J,H,E,G,U⟩:=cU.o;have b1:=a2.lift dm.o;obtain ⟨da,c5⟩:=N9 (az.heap.size);obtain ⟨ap,bx⟩:=N9 (az.alloc (.cells #[.int .i64 b,.int .u8 h.2,.string (sB R),.slice aa O.length Y,.string (sB V),.bool W] 163));have co:Hid (qbs ap da b h.2 R (.slice aa O.length Y) V W):=(by rw [<- bx,<- c5];exact World.alloc_heap_new az _);have aL:Below az.heap.size az ap:=(by rw [<- bx];exact qaG _ _);obtain ⟨cK,cN⟩:=N9 (ap.heap.size);obtain ⟨aK,bj⟩:=N9 (ap.alloc (.cells #[.int .i64 b,.int .u8 h.2,.string (sB R),.slice aa O.length Y,.string (sB V),.bool W] 163));have ch:Below ap.heap.size ap aK:=(by rw [<- bj];exact qaG _ _);have bR:=aL.trans (ch.mono aL.size);have al:=aM.o.trans (bR.mono cf.o);have bf:=qzn ap ⟨b,h.2,R,aa,Y,O,V,W⟩ (b0.below aL);simp only [Ee.v] at bf;rw [bj,cN] at bf;have bX:Boxed ap j 262 (.slice ae r.length X):=(aL.block j (by have:=aM.o.size;omega)).trans ((aM.o.block j (by omega)).trans J);have bz:Boxed aK j 262 (.slice ae r.length X):=(al.block j (by omega)).trans J;have aT:=H.below al;have di:r.length<=5000:=by
        have aC:r.length=(qay o (l.take s)++qca o b K).length:=(by rw [<- E,QM]);have ar:=qgF o (l.take s);have ce:=qgE o b K;rw [QD] at ar;rw [Qg] at aC;omega
       obtain ⟨dr,an,bW,bt,cE,aG⟩:=qq9 aK (j+1) (.slice ae r.length X) r aT (some ⟨cK,0,none⟩) 1 [(⟨b,h.2,R,aa,Y,O,V,W⟩:Ee)] bf (fun ai aq=>by
        obtain rfl:=QA.1 aq;exact b1.below bR) (by have:=al.size;omega) (by simp;omega)
       have b8:=bt;obtain ⟨au,ak,rfl,-,-⟩:=b8.es;have a1:Boxed an j 262 (.slice ae r.length X):=bz.kept aG fun e=>by
        have:=(World.ownsRow.lt aT.1 _ e.symm).1;omega
       have bP:∀ P aJ,aK.heap[P]?=some aJ->(∀ aN,aJ≠Obj.cells aN 163 (0,0))->an.heap[P]?=some aJ:=fun P aJ aR bd=>(aG.block P (Qb.1 aR).1 fun e=>by
        obtain ⟨aN,ag,-⟩:=aT.type e.symm;rw [aR] at ag;exact bd aN (Qw ag)).trans aR
       have aV:KeepsOthers k (an.setCell ⟨j,0,none⟩ (.slice au (r++[(⟨b,h.2,R,aa,Y,O,V,W⟩:Ee)]).length ak)):=
        (qgU al).trans (KeepsOthers.trans ⟨aG.size,fun P aJ aR bd=>bP P aJ aR fun aN e=>by rw [e] at bd;cases bd⟩ (KeepsOthers.setCell _ _ _))
       have cz:Hid (KeepsFrom ao.heap.size k (an.setCell ⟨j,0,none⟩ (.slice au (r++[(⟨b,h.2,R,aa,Y,O,V,W⟩:Ee)]).length ak))/\qep k (an.setCell ⟨j,0,none⟩ (.slice au (r++[(⟨b,h.2,R,aa,Y,O,V,W⟩:Ee)]).length ak))/\qmk w2 j M (qay o (l.take s)++qca o b (K++[h])) (an.setCell ⟨j,0,none⟩ (.slice au (r++[(⟨b,h.2,R,aa,Y,O,V,W⟩:Ee)]).length ak))/\Boxed (an.setCell ⟨j,0,none⟩ (.slice au (r++[(⟨b,h.2,R,aa,Y,O,V,W⟩:Ee)]).length ak)) x 3 (.int .i64 b)/\x+2<=(an.setCell ⟨j,0,none⟩ (.slice au (r++[(⟨b,h.2,R,aa,Y,O,V,W⟩:Ee)]).length ak)).heap.size):=by
        refine ⟨aV.from _,qep.others aV,⟨au,ak,r++[(⟨b,h.2,R,aa,Y,O,V,W⟩:Ee)],a1.set _,bt.other (by omega) _,?_,?_,?_,fun v ab=>aV.same v _ (U v ab) rfl⟩,?_,?_⟩
        ·rw [Zc,E,bu.o,Ze];rfl
        ·exact (G.trans (al.mono (by omega))).trans ((show Below j aK an from cE.mono (Nat.le_succ j)).setCell (p:=⟨j,0,none⟩) (Qa _) _)
        ·have aC:=aG.size;have ar:=al.size;rw [World.size_setCell];omega
        ·refine (heap_setCell_other _ ⟨j,0,none⟩ x _ (by simp;omega)).trans (bP x _ ((al.block x (by omega)).trans cH.o) fun aN e=>?_)
         simp at e
        ·have aC:=aG.size;have ar:=al.size;rw [World.size_setCell];omega
       have bA:=J9 bW;have dc:=bX.cell;have cS:=bz.cell;have cR:=a1.cell;have dp:=a1.frozen;obtain ⟨dL,aC,ar,ce,dw,dt,dx⟩:=co.o.cells;obtain ⟨ds,cm⟩:=N9 ((r++[(⟨b,h.2,R,aa,Y,O,V,W⟩:Ee)]).length);rw [cm] at bA cz;obtain ⟨dC,b4⟩:=N9 (r.length);rw [b4] at bA dc cS cR;obtain ⟨dB,cn⟩:=N9 (O.length);rw [cn] at bx bj ce |-;clear aF bI a2 b0 J H E G U b1 co aL ch bR al bf bX bz a1 aT di bW bt b8 cE aG bP aV cm b4 cn
       gi_wp2_with (gi_at_builtin;refine qb6 bA.o rfl _ _ rfl rfl rfl rfl ?_)
       exact cz.o
    case done=>
     rintro v c6 k ab b3 ⟨ac,ad,a5⟩ bQ;rw [show c6=_ from b3,c4.o,<- qfM,<- cQ.o] at ac;obtain ⟨ae,X,r,J,H,E,G,am,U⟩:=ac;have b5:v<k.heap.size:=(Qb.1 bQ).1;have c9:Hid (qmk w2 j (v :: M) (qay o (l.take (s+1))) k):=⟨ae,X,r,J,H,E,G,am,fun aI D=>by
      rcases QI.1 D with rfl | D
      ·exact bQ
      ·exact U aI D⟩
     have bi:Hid ((v :: M).Nodup/\∀ aI∈v :: M,j<aI/\aI<k.heap.size):=by
      refine ⟨List.nodup_cons.2 ⟨fun D=>by have:=(aW.o.2 v D).2;omega,aW.o.1⟩,fun aI D=>?_⟩;rcases QI.1 D with rfl | D
      ·exact ⟨by omega,b5⟩
      ·have:=aW.o.2 aI D
       exact ⟨this.1,by omega⟩
     have ct:=J9 bJ;clear J H E G am U bQ ad a5 ab b5 b3 bM;go_wp2;refine ⟨⟨s+1,v :: M,_,_,_,_,_,_,_,_,rfl,ct.o,c9.o,bi.o⟩,?_⟩;have:=ct.o;show l.length - ((s:Int)+1).toNat<l.length - (s:Int).toNat;omega
end Go.Proofs.YtjafbmfcedijmaaGreatDoor
namespace Go.Proofs.YtjafbmfcedijmaaGreatDoor
open Tryz
open Go.RowKit Go.Shelf
attribute [local go_sem] Oper.semAt_some
theorem qtJ (h:Int) (i:Nat):((qfj (patsOf (listS h)) i).1=[]->qdj (listS h) (i:Int)=none)/\((qfj (patsOf (listS h)) i).1≠[]->qdj (listS h) (i:Int)=some (qfj (patsOf (listS h)) i)):=by
 unfold qdj qfj;cases y:(patsOf (listS h)).find? fun E=>qcO E.1 (i:Int) with
 | none=>exact ⟨fun _=>rfl,fun p=>absurd rfl p⟩
 | some q=>
  have z:=(qjy q (qgt h q (Zw y))).2.1;exact ⟨fun p=>absurd p z,fun _=>rfl⟩
def qxi (h:Str->Bool) (y:Int) (k:Nat):List Ke:=(entsR y k).filter fun e=>h e.2.2.1
theorem qiy (z:Str->Bool) (h:Int) (J:∀ (i:Nat) (p:Pat) (G:En),i<256->qdj (listS h) (i:Int)=some p->qcu p h (i:Int)=some G->z (qal p (i:Int)).1=z G.1):∀ k,k<=256->qca z h (qbl (patsOf (listS h)) k)=qxi z h k
 | 0,_=>rfl
 | k+1,Z=>by
  have M:=qiy z h J k (by omega);have y:=ql5 h k (by omega);obtain ⟨V,K⟩:=qtJ h k;unfold atT at y;unfold qbl;by_cases E:(qfj (patsOf (listS h)) k).1=[]
  ·rw [Qk E,M]
   rw [V E] at y;unfold qxi;rw [entsR,<- y]
  ·rw [Qd E,qfp,M]
   rw [K E] at y;simp only at y;unfold qxi qw8;rw [entsR,<- y];cases U:qcu (qfj (patsOf (listS h)) k) h (k:Int) with
   | none=>split <;> simp [qBe]
   | some G=>
    have O:=J k _ G (by omega) (K E) U;simp only [List.filter_append,List.filter_cons,List.filter_nil,qBe];rw [O]
theorem qDY:∀ h∈mainP++cbP++edP,h∈cbP->∀ n<256,numN h.1 (n / 8*8+6) 97 8=numN h.1 n 97 8/\numN h.1 (n / 8*8+6) 111 8=numN h.1 n 111 8:=by decide +kernel
theorem qCD {p:Pat} (E:p∈mainP++cbP++edP) (z:p∈cbP) (n:Nat) (h:n<256):qbm p.1 (op6 (n:Int)) 97=qbm p.1 (n:Int) 97/\qbm p.1 (op6 (n:Int)) 111=qbm p.1 (n:Int) 111:=by
 have y:=qna ⟨n,h⟩;simp only at y;obtain ⟨J,G⟩:=qDY p E z n h;rw [y,qcz _ _ (by omega),qcz _ _ h,qcz _ _ (by omega),qcz _ _ h];omega
theorem qwU {p:Pat} (E:p∈mainP++cbP++edP) (h:p∈cbP) (n:Nat) (y:n<256):(qal p (op6 (n:Int))).1=(qal p (n:Int)).1:=by
 obtain ⟨G,z⟩:=qCD E h n y;unfold qal;rw [G,z]
theorem qic (p:Pat) (z h y:Int):(qbJ p z h y).1=(qal p (op6 h)).1:=by
 unfold qbJ;simp only;split
 ·rfl
 ·split <;> rfl
theorem qqe {y:Int} {p:Pat} {O:En} (n:Nat) (M:n<256) (V:qdj (listS y) (n:Int)=some p) (h:qcu p y (n:Int)=some O):(qal p (n:Int)).1=O.1:=by
 have Z:=qoi V;unfold qcu at h;by_cases J:y=3
 ·rw [Qk J] at h
  obtain ⟨aa,-,rfl⟩:=Option.map_eq_some_iff.1 h;rfl
 rw [Qd J] at h;by_cases K:y=4
 ·rw [Qk K] at h
  obtain ⟨aa,-,rfl⟩:=Option.map_eq_some_iff.1 h;rfl
 rw [Qd K] at h;have U:(y=5\/y=6)->p∈cbP:=fun ab=>by
  have z:=Zw V;rw [qcf] at z;unfold qdY at z;rw [Qd (by omega),Qk (by omega)] at z;exact z
 by_cases G:y=5
 ·rw [Qk G] at h
  obtain rfl:=Qw h;rw [qic];exact (qwU Z (U (.inl G)) n M).symm
 rw [Qd G] at h;by_cases E:y=6
 ·rw [Qk E] at h
  obtain rfl:=Qw h;rw [qic];exact (qwU Z (U (.inr E)) n M).symm
 rw [Qd E] at h;obtain rfl:=Qw h;rfl
theorem qcv (i:Str) (h:Int):keysPg (fun m=>decide (m=i)) h=(entsR h 256).filter fun e=>decide (e.2.2.1=i):=by
 unfold keysPg;rw [qiy _ h (fun z J G p E y=>congrArg (fun m=>decide (m=i)) (qqe z p E y)) 256 (Qa _)];rfl
theorem qsN (e:Str) (w:World) (V:qac w) (A:Option Addr) (cap:Nat) (L:List Int) (H:qjb w A L) (aa:L.length<=10) :
  Calls prog 203 #[.string (sB e),.slice A L.length cap] w (qAf w (qay (fun m=>decide (m=e)) (qg4 L))):=by
 obtain ⟨G,R⟩:=N9 (w.alloc (.cells #[.string (sB e)] 9));have h:Below w.heap.size w G:=by rw [<- R];exact qaG _ _
 have E:Boxed G w.heap.size 9 (.string (sB e)):=by rw [<- R];exact Boxed.new _ _ _
 have K:=qlY 244 #[.pointer (some ⟨w.heap.size,0,none⟩)] (enters_of func244 (by kernel_rfl) rfl) (fun m=>decide (m=e)) G (V.below h) A cap L (H.below h) aa
  (fun m U ab=>qm2 m e w.heap.size U ((ab.block _ E.lt).trans E))
 have z:=J9 h;clear H V h E
 go_enter func203,ntmps203
 go_wp2_with fail
 refine K.mono ?_;rintro ad U ⟨A1,ac,Z,rfl,J,O,M⟩;have y:=J9 (Zf (J.lift z.o.size) (Zf O (z.o.trans (M.mono z.o.size))));clear J O M K;go_wp2;go_ret;exact ⟨A1,ac,Z,rfl,y.o.1,y.o.2.1,y.o.2.2⟩
def qaD (cb:Nat) (W o:World):Prop:=W.heap.size<=o.heap.size/\∀ k h,k≠cb->W.heap[k]?=some h->h.isCells=true->o.heap[k]?=some h
theorem qaD.trans {cb:Nat} {A B C:World} (z:qaD cb A B) (k:qaD cb B C):qaD cb A C:=⟨Qm z.1 k.1,fun x h y E o=>k.2 x h y (z.2 x h y E o) o⟩
theorem qaD.refl (cb:Nat) (W:World):qaD cb W W:=⟨Qa _,fun _ _ _ h _=>h⟩
theorem qaD.of_below {cb:Nat} {W h:World} (o:Below W.heap.size W h):qaD cb W h:=⟨o.size,fun y z _ k _=>(o.block y (Qb.1 k).1).trans k⟩
theorem qaD.put {cb:Nat} (W:World) (l:Nat) (o x:Obj) (G:W.heap[l]?=some o) (y:o.isCells=false):qaD cb W (W.putObj l x):=⟨by simp,fun E J _ h k=>by
 have z:E≠l:=by
  rintro rfl;rw [G] at h;obtain rfl:=Qw h;rw [y] at k;cases k
 exact (World.putObj_heap_other z).trans h⟩
theorem qaD.cell {cb:Nat} {W h:World} (G:qaD cb W h) {a:Addr} {v:Value} (y:W.cell? a=some v) (J:a.block≠cb):h.cell? a=some v:=by
 obtain ⟨z,o,E⟩:=cells_of_cell y;exact (QN ((G.2 _ z J o E).trans o.symm)).trans y
theorem qaD.boxed {cb:Nat} {W h:World} (z:qaD cb W h) {b:Nat} {t:TypeId} {v:Value} (y:Boxed W b t v) (E:b≠cb):Boxed h b t v:=z.2 b _ E y rfl
theorem qaj.qEH {cb:Nat} {W z:World} {A:Option Addr} {L:List Tr} (j:qaj W A L) (k:qaD cb W z) (V:∀ a,A=some a->L≠[]->a.block≠cb):qaj z A L:=by
 by_cases b:L=[]
 ·exact .inl b
 rcases j with j | ⟨y,O,rfl,J⟩
 ·exact absurd j b
 ·have h:y≠cb:=V _ rfl b
  refine .inr ⟨y,O,rfl,fun M E=>?_⟩;obtain ⟨G,U,K⟩:=J M E;exact ⟨k.cell G h,k.cell U h,k.cell K h⟩
theorem KsP.qEH {cb:Nat} {W j:World} {A:Option Addr} {L:List Int} (h:KsP W A L) (k:qaD cb W j) (E:∀ a,A=some a->L≠[]->a.block≠cb):KsP j A L:=by
 by_cases b:L=[]
 ·exact .inl b
 rcases h with h | ⟨y,J,rfl,z⟩
 ·exact absurd h b
 ·have K:y≠cb:=E _ rfl b
  exact .inr ⟨y,J,rfl,fun G M=>k.cell (z G M) K⟩
theorem qac.qEH {cb:Nat} {W h:World} (y:qac W) (k:qaD cb W h) (z:0≠cb):qac h:=by
 obtain ⟨m,E⟩:=y;exact ⟨m,k.cell E z⟩
def EsN (N:Nat) (W:World) (A:Option Addr) (h:List Ee):Prop:=EsP W A h/\(∀ a,A=some a->h≠[]->N<=a.block)/\∀ r∈h,∀ a,r.A=some a->r.L≠[]->N<=a.block
theorem EsN.qEH {cb N:Nat} {W G:World} {A:Option Addr} {a:List Ee} (i:EsN N W A a) (k:qaD cb W G) (ab:cb<N):EsN N G A a:=by
 obtain ⟨K,z,u⟩:=i;refine ⟨?_,z,u⟩;by_cases b:a=[]
 ·exact .inl b
 rcases K with i | ⟨E,O,rfl,j⟩
 ·exact absurd i b
 ·have V:E≠cb:=by have:=z _ rfl b;simp at this;omega
  refine .inr ⟨E,O,rfl,fun y h=>⟨fun J M aa=>k.cell ((j y h).1 J M aa) V,(j y h).2.qEH k fun Z R U=>?_⟩⟩;have:=u _ (QB h) Z R U;omega
theorem qlx {w:World} {n:Nat} {v:Value} {L:List Tr} {A:Option Addr} {m c:Nat} (g:qah w n v L) (e:v=.slice A m c) (a:Addr) (y:A=some a):n<=a.block:=by
 subst e y;rcases g.2 with ⟨g,_⟩ | ⟨z,G,E,g,h,_⟩
 ·cases g
 ·cases g
  exact h
theorem qbV.esN {w:World} {n:Nat} {A:Option Addr} {cap:Nat} {e:List Ee} (a:qbV w n (.slice A e.length cap) e):EsN n w A e:=by
 obtain ⟨O,J,h,y,-⟩:=a.es;simp only [QC] at h;obtain ⟨rfl,-,-⟩:=h;refine ⟨y,fun r g _=>?_,fun G E r g _=>qlx (a.2 G E) rfl r g⟩;subst g;rcases a.1.2 with ⟨a,_⟩ | ⟨K,cap,M,a,z,_⟩
 ·cases a
 ·cases a
  exact z
def qzI (C:List Tr) (k:Ke):Bool:=decide (k.2.2.2.1.map ks2=C.map ks2)
def qf9 (m:Str) (C:List Tr) (l:List Int):List Ke:=(qay (fun h=>decide (h=m)) l).filter (qzI C)
def candK (h:Str) (C:List Tr):List Ke:=qf9 h C (qbG C)
def qhW (C:List Tr) (h:List Ee) (k:Nat):List Ke:=((h.take k).map Ee.k).filter (qzI C)
theorem qpn (C:List Tr) (h:List Ee) (k:Nat) (y:k<h.length):qhW C h (k+1)=qhW C h k++(if qzI C h[k].k=true then [h[k].k] else []):=by
 unfold qhW;rw [Qx y,Zc,List.filter_append];simp only [List.map_cons,List.map_nil,List.filter_cons,List.filter_nil]
theorem qoQ (h:Str) (C:List Tr) (l:List Int) (p:Int):qf9 h C (l++[p])=qf9 h C l++(keysPg (fun m=>decide (m=h)) p).filter (qzI C):=by
 unfold qf9;rw [qfM,List.filter_append]
theorem qsr (h:Str) (C:List Tr) (l:List Int) (j:Nat):qf9 h C (l.take j) <+: qf9 h C l:=by
 have y:qay (fun m=>decide (m=h)) (l.take j) <+: qay (fun m=>decide (m=h)) l:=by
  conv=>rhs;rw [<- Zy j l]
  unfold qay;rw [List.flatMap_append];exact List.prefix_append _ _
 exact y.filter _
theorem qmW (s:ByteArray) (A:Option Addr) (n cap:Nat) (w:World):Calls prog 150 #[.agg #[.string s,.slice A n cap]] w fun e h=>e=.returned (.func (.func 201) #[] #[.pointer (some ⟨w.heap.size,0,none⟩)])/\w.alloc (.cells #[.string s,.slice A n cap] 24)=h:=by
 go_enter func150,ntmps150
 go_wp2;go_ret;exact ⟨rfl,rfl⟩
def eeV (x:Ee):Value:=enV x.g x.o x.m x.v x.ex x.al
def ShE (h:Str) (C:List Tr) (y:List Ee) (x:Ee) (W:World):Prop:=(y++[x]).map Ee.k <+: candK h C/\qaj W x.A x.L
end Go.Proofs.YtjafbmfcedijmaaGreatDoor
