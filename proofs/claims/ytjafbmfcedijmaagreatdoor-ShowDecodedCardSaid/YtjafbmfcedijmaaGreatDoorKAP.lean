/-
  DgGqRS, DgHqRS, DgIqRS, DgJqRS.
-/
import Derived.Test.YtjafbmfcedijmaaGreatDoorKAO
set_option linter.all false
set_option maxRecDepth 100000
set_option maxHeartbeats 4000000
namespace Go.Proofs.YtjafbmfcedijmaaGreatDoor
open Tryz
open Go.RowKit Go.Shelf
attribute [local go_sem] Oper.semAt_some
attribute [local irreducible] Go.MixE.qEk
theorem qwz {p:Int} (h:0<=p/\p<=6):(qaQ p).length<=2/\kkP p<=4:=by rcases qp4 h with rfl | rfl | rfl | rfl | rfl | rfl | rfl <;> exact ⟨by decide,by decide⟩
theorem qib {w0 w w':World} {D:Nat} {S:Value} {b:Str} {l:Nat} (kind:Int) (y:kind≠4) (k:Nat) (E:k<=l) (h:itR b=qbB kind (b.take k)) {p nd d n:Int} (X:Dec w0 D S w' k p nd d n) (z:DK D w w') :
  qkx w0 D S b l w (.returned (.agg #[.int .i64 kind,.slice none 0 0,.string ⟨#[]⟩,.slice none 0 0,.bool false])) w':=by
 refine .inl ⟨by rw [h];exact y,⟨none,0,by rw [h];rfl,by rw [h];exact qc1 _ _⟩,⟨k,p,nd,d,n,E,by rw [h];rfl,X⟩,z⟩
theorem qpj {w0 w w1 w':World} {D:Nat} {S:Value} {b:Str} {l:Nat} (ag:b.length=l) (O:w.heap.size<=w1.heap.size) (G:DK D w w1) {p:Int} {o:UInt8} {t:Str} {x:En} {C:List Tr} {e:Ending}
  (K:hdB b=some (p,o,t)) (U:qaX p o.toNat=some x) (ac:qaZ x.2.2.1 x.2.1 (qdb x.2.2.1 t).1 (qdb x.2.2.1 t).2=some C) (z:kkP p+qc8 (qf8 p x.2.2.1) (qf8 p x.2.2.1).length=sizeT p x.2.2.1)
  (M:qvR w0 D S b l w1 (kkP p) p (sizeT p x.2.2.1:Nat) (qf8 p x.2.2.1) x.1 C x.2.2.2 e w'):qkx w0 D S b l w e w':=by
 have d:=qvK K;have y:=qeU K;rw [U] at d y;simp only at d y;rcases M with ⟨n,⟨V,R,h,Z⟩,⟨af,ah,B⟩,ae⟩ | ⟨n,h⟩
 ·rw [z] at n B
  rw [Qd (by omega),ac] at d;have J:(itR b).kind=1:=by rw [d]
  have ab:(itR b).raw=b.take (sizeT p x.2.2.1):=by rw [d]
  have ad:(itR b).m=x.1:=by rw [d]
  have E:(itR b).C=C:=by rw [d];rfl
  have aa:(itR b).al=x.2.2.2:=by rw [d]
  refine .inl ⟨by rw [J];decide,⟨V,R,?_,?_⟩,⟨_,_,_,_,_,n,ab,B⟩,G.trans ae⟩
  ·rw [J,ad,E,aa];exact h
  ·rw [E];exact row_mono Z O
 ·rw [z] at n
  rw [Qk (by omega)] at d;refine .inr ⟨d,p,?_⟩;rw [y];exact ⟨h.1,h.2.1,G.trans h.2.2⟩
theorem qq5 {w0:World} {D:Nat} {b:Str} {A:Option Addr} {l cap:Nat} (H:DH w0 D b A l cap) (bJ:qac w0) {w:World} {nd:Int} (X:Dec w0 D (.slice A l cap) w 0 0 nd 0 0) :
  Calls prog 141 #[.pointer (some ⟨D,0,none⟩)] w (qkx w0 D (.slice A l cap) b l w):=by
 have cq:=H.hl;obtain ⟨S,bO⟩:=N9 (Value.slice A l cap);have bW:=J9 (fun w (p nd d n:Int) aI X aw=>qoT H (w:=w) (p:=p) (nd:=nd) (d:=d) (n:=n) aI X aw);have cf:=J9 (fun w k (p nd d n:Int) aI X=>qgH H (w:=w) (k:=k) aI (p:=p) (nd:=nd) (d:=d) (n:=n) X);have bY:=J9 (fun w k (p nd d n:Int) aI X=>qvi H (w:=w) (k:=k) aI (p:=p) (nd:=nd) (d:=d) (n:=n) X);have bQ:=J9 (fun w k (p nd d n:Int) aI X i ex E cL q cX aT cW cD cK cM cZ c4 r bg cF aS C a1=>qpT H (w:=w) (k:=k) aI (p:=p) (nd:=nd) (d:=d) (n:=n) X (i:=i) (ex:=ex) E cL q cX aT cW cD cK cM cZ c4 r bg cF aS C a1);have bp:Hid (∀ w1,Below D w0 w1->qac w1):=fun w1 c=>bJ.qEr c (Zo bJ.lt H.hD)
 have dg:=H.hl2;rw [bO] at X bW cf bY bQ |-;have bj:=J9 cq;obtain ⟨bd,bH⟩:=N9 (w.heap.size);obtain ⟨bz,dd,bV,bo,db⟩:=qbY w bd bH;have cB:=J9 (X.all bo);have cd:=J9 (DK.of_below (D:=D) bo);have bu:D<bd:=by rw [<- bH];exact X.lt
 have aG:Hid (∀ M,DK D bz M->qar M bd 0 (.slice none 0 0) ⟨#[]⟩ (.slice none 0 0) false/\DK D w M):=fun M b8=>⟨b8.blk bV (by omega),cd.o.trans b8⟩
 have bt:=J9 bH;clear H bJ X bV bo cd bO cq
 go_enter func141,ntmps141
 go_wp2
 go_loopw [] (fun wr=>∃ (p:Int) (ca:Str) (nd:Int),(0<=p/\p<=6)/\Hid (b=qaQ p++ca)/\Hid (Dec w0 D S wr (qaQ p).length p nd 0 0/\DK D bz wr)) (fun wr=>3 - qCi D wr)
 case atStart=>exact ⟨0,b,nd,⟨by decide,by decide⟩,rfl,⟨cB.o,DK.refl _ _⟩⟩
 case round=>
  obtain ⟨p,ca,nd,aw,bE,a3⟩:=hrel;obtain ⟨cO,cC⟩:=qwz aw;have b2:(qaQ p).length<=l:=by
   have c:=congrArg List.length bE.o;rw [Qg,bj.o] at c;omega
  have cv:qCi D wr=(qaQ p).length:=a3.o.1.cnt;have bB:Hid (l<kkP p->itR b=qbB 4 b/\needR b=kkP p):=fun c=>qCt aw bE.o (by rw [bj.o];exact c)
  have ao:=fun w1 X=>bW.o w1 p nd 0 0 b2 X aw
  have aQ:=a3.o.1;obtain ⟨h,bi⟩:=N9 (b.getD (kkP p - 1) 0);have aR:Hid (kkP p<=l->∃ W,(p<=4->b=qaQ p++h :: W/\b.drop (kkP p)=W)/\(5<=p->hdB b=some (p,h,W)/\∃ cP,W=b.getD (qaQ p).length 0 :: cP)):=fun c=>by
   obtain ⟨c9,W,L,J⟩:=hasB aw bE.o (by rw [bj.o];exact c);rw [bi] at L;subst L;exact ⟨W,J⟩
  obtain ⟨F,bA⟩:=N9 (kkP p);obtain ⟨aA,bD⟩:=N9 (ddP b p 0);obtain ⟨b9,bM⟩:=N9 ((qaQ p).length);rw [bi] at ao;rw [bA] at ao bB cC;rw [bD] at ao;rw [bM] at ao aQ cv cO b2;have ao:=J9 ao;have c6:=J9 bi;have aL:=J9 bA;have b0:=J9 bD;have bx:=J9 bM;have bL:Hid (∀ O,l<F->(∃ d n,Dec w0 D S O l p F d n)->DK D wr O->qkx w0 D S b l w (.panicked qsf) O):=fun O c L J=>by
   obtain ⟨c2,cT⟩:=bB.o c;exact .inr ⟨c2,p,rfl,by rw [cT];exact L,(aG.o O (a3.o.2.trans J)).2⟩
  have bI:D<wr.heap.size:=aQ.lt;have aQ:=J9 aQ;have cU:Hid (DK D bz wr):=a3.o.2;clear bi bA bD bM bB a3
  go_upto_region 1 with fail
  go_cut [3,4] (fun cR cG wx=>∃ (I:Nat) (x y:Int) (q:Str) (u:Option Addr) (o t:Nat) (ex:Str) (r:Bool) (B:Int),cR=.pointer (some ⟨I,0,none⟩)/\cG=.int .i64 B/\Hid (F<=l/\wx.heap[I]?=some (.cells #[.int .i64 x,.int .u8 y,.string (sB q),.slice u o t,.string (sB ex),.bool r] 163 (0,0))/\Dec w0 D S wx F p F aA 0/\DK D wr wx/\
   (∀ a,qaX p h.toNat=some a->B=1/\x=p/\y=(h.toNat:Int)/\q=a.1/\ex=a.2.2.1/\r=a.2.2.2/\o=a.2.1.length/\qah wx (D+1) (.slice u o t) a.2.1)/\(qaX p h.toNat=none->B=rkindT p h.toNat)))
  case first=>
   obtain ⟨bk,a4⟩:=N9 (wr.drew);have bb:Below wr.heap.size wr bk:=(by rw [<- a4];exact below_drewN wr _ 1);have m:=J9 (aQ.o.all bb);have z:=J9 (DK.of_below (D:=D) bb);have c8:wr.heap.size<=bk.heap.size:=bb.size;refine MixE.qEG (fun w'=>w'.cell? ⟨D,2,none⟩=some (.int .i64 p)) (fun cr cI w'=>cI=[]/\qkx w0 D S b l w (.panicked cr) w') 12
    (.pure 0 (.pure 1 (.pure 2 (.pure 3 (.pure 4 (.two 5 (.two 6 (.pure 7 (.pure 8 (.pure 9 (.one 10 (.one 11 .done))))) 10 (.one 6 (.pure 7 (.pure 8 (.pure 9 (.one 11 .done)))))) 10 (.one 5 (.one 6 (.pure 7 (.pure 8 (.pure 9 (.one 11 .done)))))))))))) (by kernel_rfl) (by kernel_rfl) (by rw [a4];exact m.o.cells.2.2.1) (fun cr da w c=>⟨c.1,c.2⟩) ?_
   rw [a4];clear a4 bb;refine MixE.qEf rfl (by kernel_rfl) (.pointer (some ⟨D,0,none⟩)) (fun w c=>by clear c;go_simp;try rfl) ?_;refine MixE.qEf rfl (by kernel_rfl) (.pointer (some ⟨D,0,none⟩)) (fun w c=>by clear c;go_simp;try rfl) ?_;refine MixE.qEf rfl (by kernel_rfl) (.pointer (some ⟨D,2,none⟩)) (fun w c=>by clear c;go_simp;try rfl) ?_;refine MixE.qEf rfl (by kernel_rfl) (.int .i64 p) (fun w c=>by go_simp;try rfl) ?_;refine MixE.qEf rfl (by kernel_rfl) (.pointer (some ⟨D,0,none⟩)) (fun w c=>by clear c;go_simp;try rfl) ?_;refine MixE.qEM rfl (by kernel_rfl) rfl (by kernel_rfl) ?_ ?_
   ·go_wp2_with fail
    refine (ao.o bk m.o).mono ?_;rintro e O (⟨c,rfl,L,J⟩ | ⟨c,rfl,L,J⟩)
    rotate_left
    ·exact ⟨rfl,bL.o O c L (z.o.trans J)⟩
    have an:=J9 c;have m:=J9 L;have z:=J9 (z.o.trans J);have cN:wr.heap.size<=O.heap.size:=z.o.size;clear c L J;go_wp2;refine ⟨m.o.cells.2.2.1,?_⟩;refine MixE.qEM rfl (by kernel_rfl) rfl (by kernel_rfl) ?_ ?_
    ·go_wp2_with fail
     refine (qiP p h O (bp.o O m.o.bel)).mono ?_;rintro e ah ⟨x,y,q,u,o,t,ex,r,B,rfl,K,R,ab⟩;have au:D+1<=O.heap.size:=m.o.lt;have ac:Hid ((∀ a,qaX p h.toNat=some a->B=1/\x=p/\y=(h.toNat:Int)/\q=a.1/\ex=a.2.2.1/\r=a.2.2.2/\o=a.2.1.length/\qah ah (D+1) (.slice u o t) a.2.1)/\(qaX p h.toNat=none->B=rkindT p h.toNat)):=⟨fun a E=>by
      obtain ⟨aa,ae,V,ad,U,Z,af,ag⟩:=R a E;exact ⟨aa,ae,V,ad,U,Z,af,row_mono ag au⟩,ab⟩
     have m:=J9 (m.o.all K);have z:=J9 (z.o.trans (DK.of_below K));clear K R ab au;go_wp2;refine ⟨m.o.cells.2.2.1,?_⟩;refine MixE.qEf rfl (by kernel_rfl) (.tuple #[.agg #[.int .i64 x,.int .u8 y,.string (sB q),.slice u o t,.string (sB ex),.bool r],.int .i64 B]) (fun w c=>by clear c;go_simp;try rfl) ?_;refine MixE.qEf rfl (by kernel_rfl) (.agg #[.int .i64 x,.int .u8 y,.string (sB q),.slice u o t,.string (sB ex),.bool r]) (fun w c=>by clear c;go_simp;try rfl) ?_;refine MixE.qEf rfl (by kernel_rfl) (.int .i64 B) (fun w c=>by clear c;go_simp;try rfl) ?_;refine MixE.qEn rfl (by kernel_rfl) ?_;obtain ⟨I,aO,cp,cy,aB,ai,aX⟩:=Fr.box (Fr.nil ah) #[.int .i64 0,.int .u8 0,.string ⟨#[]⟩,.slice none 0 0,.string ⟨#[]⟩,.bool false] 163;have G:Hid (aO.heap[I]?=some (.cells #[.int .i64 0,.int .u8 0,.string ⟨#[]⟩,.slice none 0 0,.string ⟨#[]⟩,.bool false] 163 (0,0))):=aB.o.1;have ac:Hid ((∀ a,qaX p h.toNat=some a->B=1/\x=p/\y=(h.toNat:Int)/\q=a.1/\ex=a.2.2.1/\r=a.2.2.2/\o=a.2.1.length/\qah aO (D+1) (.slice u o t) a.2.1)/\(qaX p h.toNat=none->B=rkindT p h.toNat)):=⟨fun a E=>by
      obtain ⟨aa,ae,V,ad,U,Z,af,ag⟩:=ac.o.1 a E;exact ⟨aa,ae,V,ad,U,Z,af,ag.below ai⟩,ac.o.2⟩
     have a0:wr.heap.size<=I:=(by have:=z.o.size;omega);have m:=J9 (m.o.all ai);have z:=J9 (z.o.trans (DK.of_below ai));clear aB ai aX;go_wp2;refine ⟨m.o.cells.2.2.1,?_⟩;refine MixE.qEn rfl (by kernel_rfl) ?_;obtain ⟨M,az,av,aj,ay,ar⟩:=qmp m.o z.o bI G.o a0 #[.int .i64 x,.int .u8 y,.string (sB q),.slice u o t,.string (sB ex),.bool r];refine wpList_store_row rfl 163 _ _ rfl I #[.int .i64 x,.int .u8 y,.string (sB q),.slice u o t,.string (sB ex),.bool r] rfl rfl _ _ G.o (by kernel_rfl) (by kernel_rfl) (by kernel_rfl) ?_;rw [az];have al:Hid (F<=l/\M.heap[I]?=some (.cells #[.int .i64 x,.int .u8 y,.string (sB q),.slice u o t,.string (sB ex),.bool r] 163 (0,0))/\Dec w0 D S M F p F aA 0/\DK D wr M/\
      (∀ a,qaX p h.toNat=some a->B=1/\x=p/\y=(h.toNat:Int)/\q=a.1/\ex=a.2.2.1/\r=a.2.2.2/\o=a.2.1.length/\qah M (D+1) (.slice u o t) a.2.1)/\(qaX p h.toNat=none->B=rkindT p h.toNat)):=⟨an.o,av,aj,ay,fun a E=>by
       obtain ⟨aa,ae,V,ad,U,Z,af,ag⟩:=ac.o.1 a E;exact ⟨aa,ae,V,ad,U,Z,af,ar _ _ _ ag⟩,ac.o.2⟩
     refine ⟨aj.cells.2.2.1,?_⟩;clear az av aj ay ar m z ac G;simp only [MixE.qEk,Qq,Qy];go_wp2
     go_meet
     exact ⟨I,x,y,q,u,o,t,ex,r,B,rfl,rfl,al⟩
    ·obtain ⟨I,ah,cp,cy,aB,ai,aX⟩:=Fr.box (Fr.nil O) #[.int .i64 0,.int .u8 0,.string ⟨#[]⟩,.slice none 0 0,.string ⟨#[]⟩,.bool false] 163
     have G:Hid (ah.heap[I]?=some (.cells #[.int .i64 0,.int .u8 0,.string ⟨#[]⟩,.slice none 0 0,.string ⟨#[]⟩,.bool false] 163 (0,0))):=aB.o.1;have a0:wr.heap.size<=I:=(by have:=z.o.size;omega);have m:=J9 (m.o.all ai);have z:=J9 (z.o.trans (DK.of_below ai));clear aB ai aX;go_wp2;refine ⟨m.o.cells.2.2.1,?_⟩;refine MixE.qEn rfl (by kernel_rfl) ?_
     go_wp2_with fail
     refine (qiP p h ah (bp.o ah m.o.bel)).mono ?_;rintro e aO ⟨x,y,q,u,o,t,ex,r,B,rfl,K,R,ab⟩;have au:D+1<=ah.heap.size:=m.o.lt;have ac:Hid ((∀ a,qaX p h.toNat=some a->B=1/\x=p/\y=(h.toNat:Int)/\q=a.1/\ex=a.2.2.1/\r=a.2.2.2/\o=a.2.1.length/\qah aO (D+1) (.slice u o t) a.2.1)/\(qaX p h.toNat=none->B=rkindT p h.toNat)):=⟨fun a E=>by
      obtain ⟨aa,ae,V,ad,U,Z,af,ag⟩:=R a E;exact ⟨aa,ae,V,ad,U,Z,af,row_mono ag au⟩,ab⟩
     have G:=J9 ((K.block I (Qb.1 G.o).1).trans G.o);have m:=J9 (m.o.all K);have z:=J9 (z.o.trans (DK.of_below K));clear K R ab au;go_wp2;refine ⟨m.o.cells.2.2.1,?_⟩;refine MixE.qEf rfl (by kernel_rfl) (.tuple #[.agg #[.int .i64 x,.int .u8 y,.string (sB q),.slice u o t,.string (sB ex),.bool r],.int .i64 B]) (fun w c=>by clear c;go_simp;try rfl) ?_;refine MixE.qEf rfl (by kernel_rfl) (.agg #[.int .i64 x,.int .u8 y,.string (sB q),.slice u o t,.string (sB ex),.bool r]) (fun w c=>by clear c;go_simp;try rfl) ?_;refine MixE.qEf rfl (by kernel_rfl) (.int .i64 B) (fun w c=>by clear c;go_simp;try rfl) ?_;refine MixE.qEn rfl (by kernel_rfl) ?_;obtain ⟨M,az,av,aj,ay,ar⟩:=qmp m.o z.o bI G.o a0 #[.int .i64 x,.int .u8 y,.string (sB q),.slice u o t,.string (sB ex),.bool r];refine wpList_store_row rfl 163 _ _ rfl I #[.int .i64 x,.int .u8 y,.string (sB q),.slice u o t,.string (sB ex),.bool r] rfl rfl _ _ G.o (by kernel_rfl) (by kernel_rfl) (by kernel_rfl) ?_;rw [az];have al:Hid (F<=l/\M.heap[I]?=some (.cells #[.int .i64 x,.int .u8 y,.string (sB q),.slice u o t,.string (sB ex),.bool r] 163 (0,0))/\Dec w0 D S M F p F aA 0/\DK D wr M/\
      (∀ a,qaX p h.toNat=some a->B=1/\x=p/\y=(h.toNat:Int)/\q=a.1/\ex=a.2.2.1/\r=a.2.2.2/\o=a.2.1.length/\qah M (D+1) (.slice u o t) a.2.1)/\(qaX p h.toNat=none->B=rkindT p h.toNat)):=⟨an.o,av,aj,ay,fun a E=>by
       obtain ⟨aa,ae,V,ad,U,Z,af,ag⟩:=ac.o.1 a E;exact ⟨aa,ae,V,ad,U,Z,af,ar _ _ _ ag⟩,ac.o.2⟩
     refine ⟨aj.cells.2.2.1,?_⟩;clear az av aj ay ar m z ac G;simp only [MixE.qEk,Qq,Qy];go_wp2
     go_meet
     exact ⟨I,x,y,q,u,o,t,ex,r,B,rfl,rfl,al⟩
   ·obtain ⟨I,O,cp,cy,aB,ai,aX⟩:=Fr.box (Fr.nil bk) #[.int .i64 0,.int .u8 0,.string ⟨#[]⟩,.slice none 0 0,.string ⟨#[]⟩,.bool false] 163
    have G:Hid (O.heap[I]?=some (.cells #[.int .i64 0,.int .u8 0,.string ⟨#[]⟩,.slice none 0 0,.string ⟨#[]⟩,.bool false] 163 (0,0))):=aB.o.1;have a0:wr.heap.size<=I:=(by have:=z.o.size;omega);have m:=J9 (m.o.all ai);have z:=J9 (z.o.trans (DK.of_below ai));clear aB ai aX;go_wp2;refine ⟨m.o.cells.2.2.1,?_⟩;refine MixE.qEn rfl (by kernel_rfl) ?_
    go_wp2_with fail
    refine (ao.o O m.o).mono ?_;rintro e ah (⟨c,rfl,L,J⟩ | ⟨c,rfl,L,J⟩)
    rotate_left
    ·exact ⟨rfl,bL.o ah c L (z.o.trans J)⟩
    have an:=J9 c;have m:=J9 L;have z:=J9 (z.o.trans J);have cN:wr.heap.size<=ah.heap.size:=z.o.size;have G:=J9 (J.blk G.o (by omega));clear c L J;go_wp2;refine ⟨m.o.cells.2.2.1,?_⟩;refine MixE.qEn rfl (by kernel_rfl) ?_
    go_wp2_with fail
    refine (qiP p h ah (bp.o ah m.o.bel)).mono ?_;rintro e aO ⟨x,y,q,u,o,t,ex,r,B,rfl,K,R,ab⟩;have au:D+1<=ah.heap.size:=m.o.lt;have ac:Hid ((∀ a,qaX p h.toNat=some a->B=1/\x=p/\y=(h.toNat:Int)/\q=a.1/\ex=a.2.2.1/\r=a.2.2.2/\o=a.2.1.length/\qah aO (D+1) (.slice u o t) a.2.1)/\(qaX p h.toNat=none->B=rkindT p h.toNat)):=⟨fun a E=>by
     obtain ⟨aa,ae,V,ad,U,Z,af,ag⟩:=R a E;exact ⟨aa,ae,V,ad,U,Z,af,row_mono ag au⟩,ab⟩
    have G:=J9 ((K.block I (Qb.1 G.o).1).trans G.o);have m:=J9 (m.o.all K);have z:=J9 (z.o.trans (DK.of_below K));clear K R ab au;go_wp2;refine ⟨m.o.cells.2.2.1,?_⟩;refine MixE.qEf rfl (by kernel_rfl) (.tuple #[.agg #[.int .i64 x,.int .u8 y,.string (sB q),.slice u o t,.string (sB ex),.bool r],.int .i64 B]) (fun w c=>by clear c;go_simp;try rfl) ?_;refine MixE.qEf rfl (by kernel_rfl) (.agg #[.int .i64 x,.int .u8 y,.string (sB q),.slice u o t,.string (sB ex),.bool r]) (fun w c=>by clear c;go_simp;try rfl) ?_;refine MixE.qEf rfl (by kernel_rfl) (.int .i64 B) (fun w c=>by clear c;go_simp;try rfl) ?_;refine MixE.qEn rfl (by kernel_rfl) ?_;obtain ⟨M,az,av,aj,ay,ar⟩:=qmp m.o z.o bI G.o a0 #[.int .i64 x,.int .u8 y,.string (sB q),.slice u o t,.string (sB ex),.bool r];refine wpList_store_row rfl 163 _ _ rfl I #[.int .i64 x,.int .u8 y,.string (sB q),.slice u o t,.string (sB ex),.bool r] rfl rfl _ _ G.o (by kernel_rfl) (by kernel_rfl) (by kernel_rfl) ?_;rw [az];have al:Hid (F<=l/\M.heap[I]?=some (.cells #[.int .i64 x,.int .u8 y,.string (sB q),.slice u o t,.string (sB ex),.bool r] 163 (0,0))/\Dec w0 D S M F p F aA 0/\DK D wr M/\
     (∀ a,qaX p h.toNat=some a->B=1/\x=p/\y=(h.toNat:Int)/\q=a.1/\ex=a.2.2.1/\r=a.2.2.2/\o=a.2.1.length/\qah M (D+1) (.slice u o t) a.2.1)/\(qaX p h.toNat=none->B=rkindT p h.toNat)):=⟨an.o,av,aj,ay,fun a E=>by
      obtain ⟨aa,ae,V,ad,U,Z,af,ag⟩:=ac.o.1 a E;exact ⟨aa,ae,V,ad,U,Z,af,ar _ _ _ ag⟩,ac.o.2⟩
    refine ⟨aj.cells.2.2.1,?_⟩;clear az av aj ay ar m z ac G;simp only [MixE.qEk,Qq,Qy];go_wp2
    go_meet
    exact ⟨I,x,y,q,u,o,t,ex,r,B,rfl,rfl,al⟩
  case rest=>
   obtain ⟨I,x,y,q,u,o,t,ex,r,B,rfl,rfl,a7⟩:=hcut;obtain ⟨an,G,ak,aV,R,ab⟩:=a7.o;obtain ⟨W,ax,aF⟩:=aR.o (by rw [aL.o];exact an);have aE:=J9 (cU.o.trans aV);clear ao bL aQ a7;cases E:qaX p h.toNat with
   | some a=>
    obtain ⟨rfl,bh,be,a6,a5,a8,aN,aS⟩:=R a E;have aM:hdB b=some (p,h,W):=by
     by_cases aK:5<=p
     ·exact (aF aK).1
     ·rw [(ax (by omega)).1];exact qy4 ⟨aw.1,by omega⟩ W E
    have aP:=qip h.toNat_lt E;have bT:=qAd aP (fun c=>(ax c).2) (fun c=>(aF c).2);obtain ⟨C,a1⟩:=qm6 aP (qte h.toNat_lt E) (qm5 aP W);have b5:=qCu aP;have a9:=qcU.ok (k:=(p,(h.toNat:Int),a.1,a.2.1,a.2.2.1,a.2.2.2)) ⟨h.toNat,h.toNat_lt,rfl,E⟩;have cY:=a9.m;have aT:=a9.up;have cE:=a9.len;simp only at cY aT cE;rw [aN] at aS;have bm:=bQ.o wc F p F aA 0 an ak h.toNat a.2.2.1 aP (h.toNat:Int) a.1 (by omega) aT u a.2.1.length t a.2.1 rfl (by omega) a.2.2.2 (D+1) (by omega) aS C (fun _=>by rw [<- b0.o,<- aL.o,bT];exact a1);have bZ:=J9 (fun e w' a7=>qpj (w0:=w0) (w:=w) (w1:=wc) (w':=w') (D:=D) (S:=S) (b:=b) bj.o (aG.o wc aE.o).2.size (aG.o wc aE.o).2 (C:=C) (e:=e) aM E a1 b5 (by rw [aL.o];exact a7));unfold enV at bm;obtain ⟨b6,cw,bR,ch,b4,ci⟩:=Fr.qEL G;rw [bh] at b6;rw [be] at cw;rw [a6] at bR;rw [aN] at ch;rw [a5] at b4;rw [a8] at ci;clear G ak aV R ab aM aP bT a1 b5 a9 aT aS bh be a6 a5 a8 aN ax aF aR E
    go_wp2_with fail
    refine bm.mono ?_;rintro e aH bN;have bv:=bZ.o e aH bN;rcases bN with ⟨L,⟨bg,bl,rfl,bc⟩,-,aK⟩ | ⟨L,rfl,J⟩
    ·have I2:=(aG.o aH (aE.o.trans aK)).1
     obtain ⟨bG,cj,aq,ap,-,-,-,aC⟩:=I2.put 1 (.slice none 0 0) (sB a.1) (.slice bg C.length bl) a.2.2.2;have al:=J9 (bv.put I2 bu (Nat.le_of_eq bt.o) ap aC);obtain ⟨cn,bP,b3,cu,cm,cg⟩:=I2.cells;obtain ⟨aY,aU,aW,a2,aZ,b7⟩:=aq.cells;clear bm bZ bv L bc aK I2 aq ap aC b6 cw bR ch b4 ci;go_wp2;refine bodyPost_ret (v:=.agg #[.int .i64 1,.slice none 0 0,.string (sB a.1),.slice bg C.length bl,.bool a.2.2.2]) ?_ rfl al.o;simp [results,results141,go_sem,aY,aU,aW,a2,aZ]
    ·exact ⟨rfl,bv⟩
   | none=>
    obtain rfl:=ab E;rcases qAt aw E with ⟨J,c0,aD,ce,aJ,bS⟩ | ⟨cH,bq⟩
    ·rw [J]
     obtain ⟨bK,cA⟩:=ax c0;have bs:F=b9+1:=(by rw [<- aL.o,<- bx.o];unfold kkP;rw [Qd (by omega)]);have cl:b.take F=qaQ aD:=by
      rw [aJ,bs,<- bx.o,bK,List.take_append,QJ (by omega),show (qaQ p).length+1 - (qaQ p).length=1 by omega];rfl
     have br:(qaQ aD).length=F:=(by rw [aJ,bs,<- bx.o,Qg];rfl);have cS:aA=0:=(by rw [<- b0.o];unfold ddP;rw [Qd (by omega)]);have dc:=(qwz bS).1;have bF:=cf.o wc F p F aA 0 an ak;obtain ⟨c1,cJ,bh,be,a6,a5,a8⟩:=ak.cells;have bf:=J9 (fun bC bw w' c=>qik bC bw (qaQ aD) (by unfold maxLen;omega) w' c);rw [br,aJ,ce] at bf;rw [<- aJ] at bf;rw [cl] at bF;have cz:Hid (b=qaQ aD++W):=(by show b=_;rw [aJ,bK];simp);have ak:=J9 ak;subst cS;have cV:=J9 br;have df:b9<F:=(by omega);clear G aV R ab E ax aF aR ce cl cA bK aJ J br bs
     go_wp2_with fail
     refine bF.mono ?_;rintro e aH ⟨bC,bw,rfl,bc,K⟩;obtain ⟨de,bl,aN,co⟩:=bc.bytes;simp only [QC] at aN;obtain ⟨rfl,-,rfl⟩:=aN;have bU:=bf.o bC bw aH co;have ck:=ak.o.all K;have ct:=aE.o.trans (DK.of_below (D:=D) K);clear bF bc K co bf
     go_wp2_with fail
     refine bU.mono ?_;rintro e bG ⟨rfl,K⟩;have bn:=ck.all K;obtain ⟨c7,aa,ae,V,ad,U,Z⟩:=bn.cells;have m:=J9 (bn.set2 aD);have z:=J9 ((ct.trans (DK.of_below (D:=D) K)).set 2 (.int .i64 aD));clear bU K ck bn ct c1 cJ bh be a6 a5 a8;go_wp2;go_roundw
     case rel=>exact ⟨aD,W,F,bS,cz,by show _/\_;rw [cV.o];exact ⟨m.o,z.o⟩⟩
     case measure=>rw [m.o.cnt,cv];omega
    ·have aM:hdB b=some (p,h,W):=by
      by_cases aK:5<=p
      ·exact (aF aK).1
      ·have c:=bq (by omega) W
       rw [<- (ax (by omega)).1] at c;exact c
     have am:=qvK aM;rw [E] at am;simp only at am;have I2:=(aG.o wc aE.o).1;have cc:=J9 (aG.o wc aE.o).2;rcases cH with cx | ⟨b1,cQ⟩
     ·rw [cx] at am |-
      rw [Qk rfl] at am;have bX:=bY.o wc F p F aA 0 an ak;have c3:1<=l:=by
       have:1<=F:=by rw [<- aL.o];unfold kkP;split <;> omega
       omega
      have c5:=J9 am;clear G ak aV R ab E ax aF aR aM am bq cx
      go_wp2_with fail
      refine bX.mono ?_;rintro e aH ⟨rfl,L,J⟩;have I3:qar aH bd _ _ _ _ _:=(aG.o aH (aE.o.trans J)).1;obtain ⟨bG,cj,aq,ap,-,-,-,aC⟩:=I3.put 2 (.slice none 0 0) ⟨#[]⟩ (.slice none 0 0) false;have al:=J9 ((qib (b:=b) 2 (by decide) 1 c3 c5.o L (cc.o.trans J)).put I3 bu (Nat.le_of_eq bt.o) ap aC);obtain ⟨cn,bP,b3,cu,cm,cg⟩:=I3.cells;obtain ⟨aY,aU,aW,a2,aZ,b7⟩:=aq.cells;clear bX L J I3 I2 aq ap aC;go_wp2;refine bodyPost_ret (v:=.agg #[.int .i64 2,.slice none 0 0,.string ⟨#[]⟩,.slice none 0 0,.bool false]) ?_ rfl al.o;simp [results,results141,go_sem,aY,aU,aW,a2,aZ]
     ·rw [b1] at am |-
      rw [Qd (by decide)] at am;obtain rfl:F=2:=by rw [<- aL.o,cQ];rfl
      obtain ⟨bG,cj,aq,ap,-,-,-,aC⟩:=I2.put 3 (.slice none 0 0) ⟨#[]⟩ (.slice none 0 0) false;have al:=J9 ((qib (b:=b) 3 (by decide) 2 an am ak cc.o).put I2 bu (Nat.le_of_eq bt.o) ap aC);obtain ⟨cn,bP,b3,cu,cm,cg⟩:=I2.cells;obtain ⟨aY,aU,aW,a2,aZ,b7⟩:=aq.cells;clear G ak aV R ab E ax aF aR aM am bq b1 I2 aq ap aC;go_wp2;refine bodyPost_ret (v:=.agg #[.int .i64 3,.slice none 0 0,.string ⟨#[]⟩,.slice none 0 0,.bool false]) ?_ rfl al.o;simp [results,results141,go_sem,aY,aU,aW,a2,aZ]
end Go.Proofs.YtjafbmfcedijmaaGreatDoor
namespace Go.Proofs.YtjafbmfcedijmaaGreatDoor
open Tryz
open Go.RowKit Go.Shelf
attribute [local go_sem] Oper.semAt_some
theorem qar.put1 {w:World} {b:Nat} {kind:Int} {va vb:Value} {s:ByteArray} {al:Bool} (E:qar w b kind va s vb al) (y:Value) :
  ∃ h,w.setCell ⟨b,1,none⟩ y=h/\qar h b kind y s vb al/\Below b w h/\∀ k,k≠b->h.heap[k]?=w.heap[k]?:=
 ⟨_,rfl,heap_setCell_same w b 1 _ _ _ E,(Qc b w).setCell (p:=⟨b,1,none⟩) (Qa _) _,fun k z=>heap_setCell_other _ ⟨b,1,none⟩ k _ z⟩
theorem qto {w0 w G:World} {D:Nat} {S:Value} {b:Str} {k I:Nat} {p nd d n:Int} (X:Dec w0 D S w k p nd d n) (Z:D<I) {kind:Int} {va vb:Value} {s:ByteArray} {al:Bool} (O:qar w I kind va s vb al) {u:Option Addr} {y:Nat} (V:qap G w.heap.size (.slice u k y) (b.take k)) (J:Below w.heap.size w G) :
  ∃ h,G.setCell ⟨I,1,none⟩ (.slice u k y)=h/\qar h I kind (.slice u k y) s vb al/\qap h D (.slice u k y) (b.take k)/\Dec w0 D S h k p nd d n/\∀ B E z,qah w B E z->qah h B E z:=by
 have I3:=O.all J;have K:=X.all J;obtain ⟨h,U,aa,L,M⟩:=I3.put1 (.slice u k y);exact ⟨h,U,aa,(qgI I3 V M).lift (Zb X.lt),⟨(L.block D Z).trans K.blk,K.bel.trans (L.mono (by omega))⟩,fun B E z ab=>qer I3 (ab.below J) M⟩
theorem qpK {w0:World} {D:Nat} {b:Str} {A:Option Addr} {l cap:Nat} (H:DH w0 D b A l cap) {w:World} {k:Nat} (aA:k<=l) {p nd d n:Int} (X:Dec w0 D (.slice A l cap) w k p nd d n) {I x:Nat} (ad:D<I) (aJ:D<x) (O:PtD w x D) {kind:Int} {va vb:Value} {s:ByteArray} {al:Bool} (aa:qar w I kind va s vb al) :
  CallsD prog 139 #[.pointer (some ⟨I,0,none⟩),.pointer (some ⟨x,0,none⟩)] (.panicking qsf) w fun ai az K=>
   ai=.returned (.tuple #[])/\az=.panicking [{v:=.iface 206 (.agg #[]),recovered:=true}]/\∃ e h,qar K I 4 (.slice e k h) ⟨#[]⟩ (.slice none 0 0) false/\qap K D (.slice e k h) (b.take k)/\Dec w0 D (.slice A l cap) K k p nd d n:=by
 refine callsD_of_wpS func139 rfl fun aF aD an=>?_
 unfold qsf at an;simp only [ntmps139,Zx,Qv,QH,Nat.reduceAdd,Nat.reduceSub,Array.replicate_succ,Array.replicate_zero,List.push_toArray,List.append_toArray,Zk,List.cons_append];have aB:∀ w,(Instr.typeAssert (.iface 206 (.agg #[])) 20 206 true).run prog w=.ok (.tuple #[.agg #[],.bool true]) w:=fun w=>by kernel_rfl
 obtain ⟨ag,ab⟩:=N9 (Value.slice A l cap);have F:=J9 (fun w X=>qgH H (w:=w) (k:=k) aA (p:=p) (nd:=nd) (d:=d) (n:=n) X);rw [ab] at X F |-;obtain ⟨ak,ah⟩:=N9 (w.alloc (.cells #[] 206));have y:Below w.heap.size w ak:=by rw [<- ah];exact qaG _ _
 have U:=X.all y;have I1:=aa.all y;have G:PtD ak x D:=(y.block x (Qb.1 O).1).trans O;obtain ⟨S,aK,am,M,-,-,-,aj⟩:=I1.put 4 (.slice none 0 0) ⟨#[]⟩ (.slice none 0 0) false;have z:Hid (Dec w0 D ag S k p nd d n):=⟨(M.block D ad).trans U.blk,U.bel.trans (M.mono (by omega))⟩;have V:PtD S x D:=(aj x (G.ne I1)).trans G;obtain ⟨ap,aq,au,av,ao,ax⟩:=I1.cells;obtain ⟨aw,-⟩:=V.cells;have I2:=J9 am;clear ab H X O aa y U I1 G V am M aj;apply wpS_seq;apply wpS_seq;apply wpS_region;simp [wpOpsS,go_sem,recoverD,an,Exit.thenS];refine wpS_of_wp ?_
 go_upto_region 7 with fail
 clear ah;go_wp2;refine wpS_of_wp ?_
 go_wp2_with fail
 refine (F.o S z.o).mono ?_;rintro ai ar ⟨e,h,rfl,af,J⟩;obtain ⟨E,aI,ac,Z,ae,-⟩:=qto z.o ad I2.o af J;have ay:Hid (qar E I 4 (.slice e k h) ⟨#[]⟩ (.slice none 0 0) false/\qap E D (.slice e k h) (b.take k)/\Dec w0 D ag E k p nd d n):=⟨ac,Z,ae⟩;obtain ⟨aG,aC,aM,aE,aH,aL⟩:=(show qar ar I _ _ _ _ _ from I2.o.all J).cells;clear F af J ac Z ae z I2 ap aq au av ao ax aw;go_wp2;exact ⟨rfl,_,rfl,.tuple #[],by simp [results,results139],rfl,rfl,e,h,ay.o⟩
theorem qp7 {w0:World} {D:Nat} {b:Str} {A:Option Addr} {l cap:Nat} (H:DH w0 D b A l cap) {w:World} {k:Nat} (ai:k<=l) {p nd d n:Int} (X:Dec w0 D (.slice A l cap) w k p nd d n) {I x:Nat} (ac:D<I) (ar:D<x) (aa:PtD w x D) {kind:Int} {va vb:Value} {s:ByteArray} {al:Bool} (K:qar w I kind va s vb al) :
  CallsD prog 139 #[.pointer (some ⟨I,0,none⟩),.pointer (some ⟨x,0,none⟩)] .returning w fun V ah E=>
   V=.returned (.tuple #[])/\ah=.returning/\∃ e h,qar E I kind (.slice e k h) s vb al/\qap E D (.slice e k h) (b.take k)/\Dec w0 D (.slice A l cap) E k p nd d n/\∀ y z u,qah w y z u->qah E y z u:=by
 refine callsD_of_wpS func139 rfl fun ab am aj=>?_
 simp only [ntmps139,Zx,Qv,QH,Nat.reduceAdd,Nat.reduceSub,Array.replicate_succ,Array.replicate_zero,List.push_toArray,List.append_toArray,Zk,List.cons_append];obtain ⟨ae,L⟩:=N9 (Value.slice A l cap);have U:=J9 (qgH H ai X);rw [L] at X |-;obtain ⟨af,-⟩:=aa.cells;have G:=J9 X;have I2:=J9 K;clear L H X aa K;apply wpS_seq;apply wpS_seq;apply wpS_region;simp [wpOpsS,go_sem,recoverD,aj,Exit.thenS];refine wpS_of_wp ?_;go_wp2;refine wpS_of_wp ?_
 go_wp2_with fail
 refine U.o.mono ?_;rintro V ad ⟨e,h,rfl,S,F⟩;obtain ⟨B,aq,M,J,O,Z⟩:=qto G.o ac I2.o S F;have ag:Hid (qar B I kind (.slice e k h) s vb al/\qap B D (.slice e k h) (b.take k)/\Dec w0 D ae B k p nd d n/\∀ y z u,qah w y z u->qah B y z u):=⟨M,J,O,Z⟩;obtain ⟨ap,ak,av,an,ao,au⟩:=(show qar ad I _ _ _ _ _ from I2.o.all F).cells;clear U S F M J O Z G I2 af;go_wp2;exact ⟨rfl,.returning,by cases ab;simp_all,.tuple #[],by simp [results,results139],rfl,rfl,e,h,ag.o⟩
def qqI (w0:World) (D:Nat) (S:Value) (b:Str) (e:Ending) (w':World):Prop:=
 (∃ k n d h,e=.returned (.agg #[.int .i64 (itR b).kind,.slice k (itR b).raw.length n,.string (sB (itR b).m),.slice d (itR b).C.length h,.bool (itR b).al])/\qap w' D (.slice k (itR b).raw.length n) (itR b).raw/\qah w' D (.slice d (itR b).C.length h) (itR b).C)/\
 ∃ B z p E y,Dec w0 D S w' B z p E y/\((itR b).kind=4->p=(needR b:Nat))
theorem qrI {w0:World} {D:Nat} {b:Str} {A:Option Addr} {l cap:Nat} (H:DH w0 D b A l cap) (aQ:qac w0) {w:World} {nd:Int} (X:Dec w0 D (.slice A l cap) w 0 0 nd 0 0) :
  Calls prog 91 #[.pointer (some ⟨D,0,none⟩)] w (qqI w0 D (.slice A l cap) b):=by
 have a8:∀ (aM:Fn) (first cap:Array Value) (w:World),(Instr.makeFunc aM first cap).run prog w=.ok (.func aM first cap) w:=fun _ _ _ _=>rfl
 have aW:=H.hl;obtain ⟨V,aB⟩:=N9 (Value.slice A l cap);have au:=J9 (fun w X=>qq5 H aQ (w:=w) (nd:=nd) X);have Z:=J9 (fun w k O (p nd d n:Int) X I x K aq ai (kind:Int) (va vb:Value) (s:ByteArray) (al:Bool) af=>qpK H (w:=w) (k:=k) O (p:=p) (nd:=nd) (d:=d) (n:=n) X (I:=I) (x:=x) K aq ai (kind:=kind) (va:=va) (vb:=vb) (s:=s) (al:=al) af);have U:=J9 (fun w k O (p nd d n:Int) X I x K aq ai (kind:Int) (va vb:Value) (s:ByteArray) (al:Bool) af=>qp7 H (w:=w) (k:=k) O (p:=p) (nd:=nd) (d:=d) (n:=n) X (I:=I) (x:=x) K aq ai (kind:=kind) (va:=va) (vb:=vb) (s:=s) (al:=al) af);rw [aB] at X au Z U |-;have aa:=J9 aW;obtain ⟨x,aw⟩:=N9 (w.heap.size);obtain ⟨ae,ak⟩:=N9 (w.alloc (.cells #[.pointer (some ⟨D,0,none⟩)] 137));have aY:Below w.heap.size w ae:=by rw [<- ak];exact qaG _ _
 have aO:PtD ae x D:=by rw [<- ak,<- aw];exact World.alloc_heap_new w _
 have a4:ae.heap.size=x+1:=by rw [<- ak,<- aw];simp
 obtain ⟨aA,bc,I2,ah,bh⟩:=qbY ae (x+1) a4;have aL:D<x:=by rw [<- aw];exact X.lt
 have aT:=(X.all aY).all ah;have y:PtD aA x D:=(ah.block x (by omega)).trans aO;have ap:=au.o aA aT;obtain ⟨aX,-⟩:=y.cells;have y:=J9 y;have I2:=J9 I2;clear H aQ X au aB aW aY ah aO aT
 go_enter_defers func91,ntmps91
 go_wp2_with fail
 refine ap.mono ?_;rintro aP M (⟨K,⟨E,S,rfl,aJ⟩,⟨k,p,ad,d,n,O,aS,G⟩,F⟩ | ⟨aG,p,rfl,⟨d,n,G⟩,F⟩)
 ·have I3:qar M (x+1) _ _ _ _ _:=F.blk I2.o (by omega)
  have L:PtD M x D:=F.blk y.o (by omega);obtain ⟨ac,a0,aF,ag,-,-,-,az⟩:=I3.put (itR b).kind (.slice none 0 0) (sB (itR b).m) (.slice E (itR b).C.length S) (itR b).al;have aE:PtD ac x D:=(az x (by omega)).trans L;have aU:Dec w0 D V ac k p ad d n:=⟨(ag.block D (by omega)).trans G.blk,G.bel.trans (ag.mono (by omega))⟩;have aC:=J9 (qer I3 (row_mono aJ (show D<=aA.heap.size by omega)) az);have J:=U.o ac k O p ad d n aU (x+1) x (by omega) aL aE _ _ _ _ _ aF;obtain ⟨be,a7,a9,bf,bd,bb⟩:=I3.cells;have HR:Hid ((itR b).raw=b.take k):=aS;have aK:Hid ((itR b).kind≠4):=K;have aN:Hid ((b.take k).length=k):=by show _=_;rw [QD,aa.o];omega
  have am:Hid (∀ m h e,qar e (x+1) (itR b).kind (.slice m k h) (sB (itR b).m) (.slice E (itR b).C.length S) (itR b).al->qap e D (.slice m k h) (b.take k)->Dec w0 D V e k p ad d n->(∀ E aI aH,qah ac E aI aH->qah e E aI aH)->
    qqI w0 D V b (.returned (.agg #[.int .i64 (itR b).kind,.slice m k h,.string (sB (itR b).m),.slice E (itR b).C.length S,.bool (itR b).al])) e):=fun m h e B u z ab=>by
   refine ⟨⟨m,h,E,S,?_,?_,ab _ _ _ aC.o⟩,k,p,ad,d,n,z,fun a5=>absurd a5 aK.o⟩
   ·rw [HR.o,aN.o]
   ·rw [HR.o,aN.o];exact u
  obtain ⟨kind,aD⟩:=N9 ((itR b).kind);obtain ⟨a6,aR⟩:=N9 ((itR b).m);obtain ⟨bg,aV⟩:=N9 ((itR b).C.length);obtain ⟨al,aZ⟩:=N9 ((itR b).al);rw [aD,aR,aV,aZ] at J am a0;simp only [aD,aR,aV,aZ];clear ap Z U K aJ aS G F I3 L aF ag az aE aU aC HR aK I2 y aX;go_wp2;refine leaves_cons (f:=139) (args:=#[.pointer (some ⟨x+1,0,none⟩),.pointer (some ⟨x,0,none⟩)]) (by simp) (by simp [go_sem]) ?_;refine J.mono ?_;rintro aP a3 e ⟨rfl,rfl,m,h,B,u,z,ab⟩;obtain ⟨ar,an,ao,ay,av,a1⟩:=B.cells;have ax:=J9 (am.o m h e B u z ab);clear B u z ab J am;simp [Leaves,settle,results,results91,go_sem,ar,an,ao,ay,av];exact ax.o
 ·have I3:qar M (x+1) _ _ _ _ _:=F.blk I2.o (by omega)
  have L:PtD M x D:=F.blk y.o (by omega);have J:=Z.o M _ (Qa _) p _ d n G (x+1) x (by omega) aL L _ _ _ _ _ I3;have aj:=J9 aG;clear ap Z U G F I3 L aG I2 y aX;refine leaves_cons (f:=139) (args:=#[.pointer (some ⟨x+1,0,none⟩),.pointer (some ⟨x,0,none⟩)]) (by simp) (by simp [go_sem]) ?_;refine J.mono ?_;rintro aP a3 e ⟨rfl,rfl,m,h,B,u,z⟩;obtain ⟨ar,an,ao,ay,av,a1⟩:=B.cells;have ax:Hid (qqI w0 D V b (.returned (.agg #[.int .i64 4,.slice m l h,.string ⟨#[]⟩,.slice none 0 0,.bool false])) e):=by
   have a2:b.take l=b:=(by rw [<- aa.o,List.take_length]);rw [a2] at u;refine ⟨⟨m,h,none,0,?_,?_,?_⟩,_,p,_,d,n,z,fun _=>rfl⟩
   ·rw [aj.o];simp only [qbB,aa.o];rfl
   ·rw [aj.o];simp only [qbB,aa.o];exact u
   ·rw [aj.o];exact qc1 _ _
  clear B u z J;simp [Leaves,settle,results,results91,go_sem,ar,an,ao,ay,av];exact ax.o
def itP (b:Str):Ite:=if b=[] then ⟨0,[],[],[],false⟩ else itR b
theorem qB6 {b:Str} (h:b≠[]):itP b=itR b:=Qd h
theorem qDv {w w1:World} {b:Str} {A:Option Addr} {cap l:Nat} (E:b.length=l) (h:l<=cap) (y:cap<=maxLen) (z:l<=100000) (H:BytesAt w A b) (G:Below w.heap.size w w1):DH w1 w1.heap.size b A l cap:=⟨E,z,Qa _,H.below G,h,y⟩
theorem qiB (b:Str) (A:Option Addr) (cap l:Nat) (h:b.length=l) (aj:l<=cap) (ap:cap<=maxLen) (aF:l<=100000) (w:World) (H:BytesAt w A b) (ae:qac w) :
  Calls prog 52 #[.slice A l cap] w (qt2 w (itP b)):=by
 obtain ⟨z,E⟩:=N9 (w.heap.size);obtain ⟨Z,aM,d,e,G⟩:=qbY w z E;have ar:=J9 E;have aO:=J9 h;by_cases k:b=[]
 ·have aa:Hid (itP b=⟨0,[],[],[],false⟩):=Qk k
  obtain rfl:l=0:=by rw [<- h,k];rfl
  obtain ⟨w1,aN,p,n,J,y,m,X⟩:=d.put 0 (.slice none 0 0) ⟨#[]⟩ (.slice none 0 0) false;obtain ⟨ax,az,aC,aB,aw,aD⟩:=d.cells;obtain ⟨M,O,ab,V,F,ay⟩:=p.cells;have U:=J9 (qcb (w:=w) (w1:=Z) (w2:=w1) (x:=⟨0,[],[],[],false⟩) (A:=none) (B:=none) (c:=0) (c2:=0) E (by rw [<- E];exact e) d.lt (qb7 _ _) (qc1 _ _) ⟨n,y,m⟩);clear H ae h k d e p n J y m X
  go_enter func52,ntmps52
  go_wp2;refine bodyPost_ret (v:=.agg #[.int .i64 0,.slice none 0 0,.string ⟨#[]⟩,.slice none 0 0,.bool false]) ?_ rfl ?_
  ·simp [results,results52,go_sem,M,O,ab,V,F]
  ·rw [aa.o];exact U.o
 ·have aa:Hid (itP b=itR b):=Qd k
  have aL:1<=l:=by rw [<- h];cases b;exact absurd rfl k;simp
  have ag:=qpA b A l cap Z;have au:=J9 (qDv h aj ap aF H e);have ak:=J9 (ae.below e);have ai:=J9 (fun w1 aG=>qrI au.o ak.o (w:=w1) (nd:=0) aG);have d:=J9 d;have an:=J9 e;clear H ae h aj ap k e
  go_enter func52,ntmps52
  go_wp2_with fail
  refine ag.mono ?_;rintro aE w1 ⟨rfl,ac,av⟩;rw [G] at ac |-;have ad:=ai.o w1 (by rw [G];exact ac);rw [G] at ad;clear ag av ac ai au ak
  go_wp2_with fail
  refine ad.mono ?_;rintro aE w2 ⟨⟨ah,am,B,c2,rfl,ao,aq⟩,aH,aK,nd,aI,aJ,af,-⟩;have K:=af.bel;have I2:qar w2 z _ _ _ _ _:=(K.block z (by omega)).trans d.o;obtain ⟨aA,aP,p,n,J,y,m,X⟩:=I2.put (itR b).kind (.slice ah (itR b).raw.length am) (sB (itR b).m) (.slice B (itR b).C.length c2) (itR b).al;obtain ⟨ax,az,aC,aB,aw,aD⟩:=I2.cells;obtain ⟨M,O,ab,V,F,ay⟩:=p.cells;have U:=J9 (qcb (w:=w) (w1:=w2) (w2:=aA) (x:=itR b) ar.o ((show Below z w Z by rw [<- ar.o];exact an.o).trans (K.mono (by omega))) I2.lt ao aq ⟨n,y,m⟩);clear ad ao aq af K I2 p n J y m X d an;go_wp2;refine bodyPost_ret (v:=.agg #[.int .i64 (itR b).kind,.slice ah (itR b).raw.length am,.string (sB (itR b).m),.slice B (itR b).C.length c2,.bool (itR b).al]) ?_ rfl ?_
  ·simp [results,results52,go_sem,M,O,ab,V,F]
  ·rw [aa.o];exact U.o
end Go.Proofs.YtjafbmfcedijmaaGreatDoor
namespace Go.Proofs.YtjafbmfcedijmaaGreatDoor
open Tryz
open Go.RowKit Go.Shelf
attribute [local go_sem] Oper.semAt_some
attribute [local irreducible] Go.Mixed.qD8
def qk4 (w:World) (b:Str) (h:Int) (e:Ending) (w':World):Prop:=
 ((h<0\/(b.length:Int)<=h)/\e=.returned (.tuple #[.agg #[.int .i64 0,.slice none 0 0,.string ⟨#[]⟩,.slice none 0 0,.bool false],.int .i64 0,.bool false])/\Below w.heap.size w w')\/
 (∃ c:Nat,h=c/\c<b.length/\∃ y z k A,e=.returned (.tuple #[.agg #[.int .i64 (itR (b.drop c)).kind,.slice y (itR (b.drop c)).raw.length z,.string (sB (itR (b.drop c)).m),.slice k (itR (b.drop c)).C.length A,.bool (itR (b.drop c)).al],.int .i64 ((c+(itR (b.drop c)).raw.length:Nat):Int),.bool true])/\
  qap w' w.heap.size (.slice y (itR (b.drop c)).raw.length z) (itR (b.drop c)).raw/\qah w' w.heap.size (.slice k (itR (b.drop c)).C.length A) (itR (b.drop c)).C/\Below w.heap.size w w')
theorem qwH (b:Str):(itR b).raw.length<=b.length:=by
 unfold itR;split
 ·exact Qa _
 ·split
  ·split
   ·show (b.take 1).length<=_;rw [QD];omega
   ·show (b.take 2).length<=_;rw [QD];omega
  ·split
   ·exact Qa _
   ·show (b.take _).length<=_;rw [QD];omega
theorem quw {w:World} {g b:Nat} {xs:Str} (o:BytesAt w (some ⟨g,b,none⟩) xs) (k:Nat):BytesAt w (some ⟨g,b+k,none⟩) (xs.drop k):=by
 rcases o with rfl | ⟨E,z,e,h⟩
 ·exact .inl (by simp)
 ·simp only [Qz,Addr.mk.injEq] at e
  obtain ⟨rfl,rfl,-⟩:=e;refine .inr ⟨g,b+k,rfl,fun j y=>?_⟩;rw [Q1] at y;rw [List.getElem_drop,Nat.add_assoc];exact h (k+j) (by omega)
theorem qi5 (b:Str) (A:Option Addr) (cap l:Nat) (G:b.length=l) (bg:l<=cap) (a3:cap<=maxLen) (bi:l<=100000) (w:World) (H:BytesAt w A b) (aw:qac w) (h:Int) :
  Calls prog 83 #[.slice A l cap,.int .i64 h] w (qk4 w b h):=by
 obtain ⟨n,av⟩:=N9 (w.heap.size);obtain ⟨aH,a6,B,O,be⟩:=qbY w n av;have aF:=J9 av;have bb:=J9 G;by_cases aq:h<0\/(l:Int)<=h
 ·obtain ⟨ax,a4,ac,ab,aV,aS,aT,V⟩:=B.put 0 (.slice none 0 0) ⟨#[]⟩ (.slice none 0 0) false
  obtain ⟨bf,a2,a5,bh,bd,a8⟩:=B.cells;obtain ⟨aj,ah,ai,ap,am,aU⟩:=ac.cells;have ao:Hid (qk4 w b h (.returned (.tuple #[.agg #[.int .i64 0,.slice none 0 0,.string ⟨#[]⟩,.slice none 0 0,.bool false],.int .i64 0,.bool false])) ax):=.inl ⟨by rw [G];exact aq,rfl,O.trans (by rw [av];exact ab)⟩;have aA:decide (h<0)=true\/(decide (h<0)=false/\decide ((l:Int)<=h)=true):=by
   by_cases g:h<0
   ·exact .inl (Qn g)
   ·exact .inr ⟨Qf g,Qn (by omega)⟩
  have an:h<0\/(¬h<0/\h>=(l:Int)):=by omega
  clear H aw G B O ac ab aV aS aT V aq;rcases an with aC | ⟨aC,aZ⟩
  ·clear aA
   go_enter func83,ntmps83
   go_wp2;refine bodyPost_ret (v:=.tuple #[.agg #[.int .i64 0,.slice none 0 0,.string ⟨#[]⟩,.slice none 0 0,.bool false],.int .i64 0,.bool false]) ?_ rfl ao.o;simp [results,results83,go_sem,aj,ah,ai,ap,am]
  ·clear aA
   go_enter func83,ntmps83
   go_wp2;refine bodyPost_ret (v:=.tuple #[.agg #[.int .i64 0,.slice none 0 0,.string ⟨#[]⟩,.slice none 0 0,.bool false],.int .i64 0,.bool false]) ?_ rfl ao.o;simp [results,results83,go_sem,aj,ah,ai,ap,am]
 ·obtain ⟨e,rfl⟩:∃ e:Nat,h=e:=⟨h.toNat,by omega⟩
  have aR:e<l:=by omega
  obtain ⟨aX,aQ,rfl,-⟩:=H.cellAt (j:=e) (by omega);have aK:b.drop e≠[]:=fun M=>by
   have:=congrArg List.length M;rw [Q1,G] at this;simp at this;omega
  have au:(b.drop e).length=l - e:=by rw [Q1,G]
  have ag:=qiB (b.drop e) (some ⟨aX,aQ+e,none⟩) (cap - e) (l - e) au (by omega) (by omega) (by omega) aH ((quw H e).below O) (aw.below O);rw [qB6 aK] at ag;have aB:=qwH (b.drop e);rw [au] at aB;have ar:Hid (∀ M F,(∃ A aJ x k,M=.returned (.tuple #[.agg #[.int .i64 (itR (b.drop e)).kind,.slice A (itR (b.drop e)).raw.length aJ,.string (sB (itR (b.drop e)).m),.slice x (itR (b.drop e)).C.length k,.bool (itR (b.drop e)).al],.int .i64 ((e+(itR (b.drop e)).raw.length:Nat):Int),.bool true])/\
   qap F w.heap.size (.slice A (itR (b.drop e)).raw.length aJ) (itR (b.drop e)).raw/\qah F w.heap.size (.slice x (itR (b.drop e)).C.length k) (itR (b.drop e)).C/\Below w.heap.size w F)->qk4 w b e M F):=fun M F g=>.inr ⟨e,rfl,by rw [G];exact aR,g⟩
  obtain ⟨c,an⟩:=N9 (itR (b.drop e));rw [an] at ag ar aB;have B:=J9 B;have ay:=J9 O;have aC:¬((e:Int)<0):=by omega
  have aZ:¬((e:Int)>=(l:Int)):=by omega
  clear H aw G au aK O an aq
  go_enter func83,ntmps83
  go_wp2_with fail
  refine ag.mono ?_;rintro M ax ⟨z,y,x,k,rfl,az,aE,U⟩;obtain ⟨J,Z,bc,a9,aD,ae,bj⟩:=Fr.box (Fr.nil ax) #[.int .i64 c.kind,.slice z c.raw.length y,.string (sB c.m),.slice x c.C.length k,.bool c.al] 50;have I2:qar Z J c.kind (.slice z c.raw.length y) (sB c.m) (.slice x c.C.length k) c.al:=aD.o.1;have aI:qar Z n 0 (.slice none 0 0) ⟨#[]⟩ (.slice none 0 0) false:=(B.o.all U).all ae;obtain ⟨E,ak⟩:=N9 (Z.drew);have K:Below Z.heap.size Z E:=by rw [<- ak];exact below_drewN Z _ 1
  have I3:=J9 (I2.all K);have ad:=J9 (aI.all K);have aM:=J9 ((az.below ae).below K);have aG:=J9 ((aE.below ae).below K);have aL:Hid (Below n w E):=(show Below n w aH by rw [<- aF.o];exact ay.o).trans (((U.trans (ae.mono U.size)).trans (K.mono (by have:=U.size;omega))).mono (by omega));have a7:n<J:=by have g:=B.o.lt;have:=U.size;omega
  clear ag az aE U aD ae I2 aI K B ay
  go_upto_region 4 with fail
  refine Mixed.qD5 (fun F=>qar F J c.kind (.slice z c.raw.length y) (sB c.m) (.slice x c.C.length k) c.al) 7 [(0,true),(1,true),(2,true),(3,true),(4,true),(5,true),(6,false)] (by kernel_rfl) (by kernel_rfl) (by rw [ak];exact I3.o) ?_;rw [ak];clear ak;refine Mixed.mo rfl (.agg #[.int .i64 c.kind,.slice z c.raw.length y,.string (sB c.m),.slice x c.C.length k,.bool c.al]) (fun w g=>by obtain ⟨a0,aY,aW,aP,aN,aO⟩:=g.cells;clear g;go_simp;try rfl) ?_;refine Mixed.mo rfl (.int .i64 (e:Int)) (fun w g=>by clear g;go_simp;try rfl) ?_;refine Mixed.mo rfl (.pointer (some ⟨J,1,none⟩)) (fun w g=>by clear g;go_simp;try rfl) ?_;refine Mixed.mo rfl (.slice z c.raw.length y) (fun w g=>by obtain ⟨a0,aY,aW,aP,aN,aO⟩:=g.cells;clear g;go_simp;try rfl) ?_;refine Mixed.mo rfl (.int .i64 (c.raw.length:Int)) (fun w g=>by clear g;go_simp;try rfl) ?_;refine Mixed.mo rfl (.int .i64 ((e+c.raw.length:Nat):Int)) (fun w g=>by clear g;go_simp;rw [IntKind.wrap_i64];omega) ?_;refine Mixed.qEh rfl ?_;refine wpList_store_row rfl 50 _ _ rfl n #[.int .i64 c.kind,.slice z c.raw.length y,.string (sB c.m),.slice x c.C.length k,.bool c.al] rfl rfl _ _ ad.o (by kernel_rfl) (by kernel_rfl) (by kernel_rfl) ?_;obtain ⟨af,aa⟩:=N9 (E.setRow n #[.int .i64 c.kind,.slice z c.raw.length y,.string (sB c.m),.slice x c.C.length k,.bool c.al]);have V:∀ e,e≠n->af.heap[e]?=E.heap[e]?:=fun e a1=>by rw [<- aa];exact setRow_other E n e _ a1
  have ab:Below n E af:=by rw [<- aa];exact below_setRow (Qc n E) (Qa _) _
  have ac:qar af n c.kind (.slice z c.raw.length y) (sB c.m) (.slice x c.C.length k) c.al:=by rw [<- aa];exact setRow_heap E n _ _ 50 (0,0) ad.o
  have I4:qar af J c.kind (.slice z c.raw.length y) (sB c.m) (.slice x c.C.length k) c.al:=(V J (by omega)).trans I3.o;have ao:=J9 (ar.o _ af ⟨z,y,x,k,rfl,(qgI ad.o aM.o V).lift (by omega),row_mono (qer ad.o aG.o V) (by omega),by rw [aF.o];exact aL.o.trans ab⟩);rw [aa];obtain ⟨aj,ah,ai,ap,am,aU⟩:=ac.cells;clear aa ac ab V I3 ad aM aG aL ar;refine ⟨I4,?_⟩;clear I4;simp only [Mixed.qD8,Qq,Qy];go_wp2;refine bodyPost_ret (v:=.tuple #[.agg #[.int .i64 c.kind,.slice z c.raw.length y,.string (sB c.m),.slice x c.C.length k,.bool c.al],.int .i64 ((e+c.raw.length:Nat):Int),.bool true]) ?_ rfl ao.o;simp [results,results83,go_sem,aj,ah,ai,ap,am]
end Go.Proofs.YtjafbmfcedijmaaGreatDoor
