/-
  DgG, DgH, DgI, ShL, ItB, ItQ, ShP, ShQ.
-/
import Derived.Test.YtecpnfhpcamljaaGreatDoorKAO
import Derived.Test.YtecpnfhpcamljaaGreatDoorKN2
set_option linter.all false
set_option maxRecDepth 100000
set_option maxHeartbeats 4000000
namespace Go.Proofs.YtecpnfhpcamljaaGreatDoor
open Tryz
open Go.RowKit Go.Shelf
attribute [local go_sem] Oper.semAt_some
attribute [local irreducible] Go.MixE.qA2
def qy5 (D:Nat) (w:World):Nat:=match w.cell? ⟨D,1,none⟩ with
 | some h=>(intOf h).toNat
 | none=>0
theorem Dec.cnt {w0 w:World} {D:Nat} {S:Value} {k:Nat} {p nd d n:Int} (h:Dec w0 D S w k p nd d n):qy5 D w=k:=by
 unfold qy5;rw [h.cells.2.1];simp [intOf]
theorem qtK {p:Int} (h:0<=p/\p<=6):(qaM p).length<=2/\kkP p<=4:=by rcases qnP h with rfl | rfl | rfl | rfl | rfl | rfl | rfl <;> exact ⟨by decide,by decide⟩
def qka (w0:World) (D:Nat) (S:Value) (b:Str) (l:Nat) (w:World) (e:Ending) (w':World):Prop:=
 ((itR b).kind≠4/\(∃ n k,e=.returned (.agg #[.int .i64 (itR b).kind,.slice none 0 0,.string (sB (itR b).m),.slice n (itR b).C.length k,.bool (itR b).al])/\qaf w' w.heap.size (.slice n (itR b).C.length k) (itR b).C)/\(∃ h d q p y,h<=l/\(itR b).raw=b.take h/\Dec w0 D S w' h d q p y)/\DK D w w')\/
 (itR b=qbv 4 b/\∃ d,qiA w0 D S w e w' l d (needR b:Nat))
theorem qka.put {w0 w w2 h:World} {D:Nat} {S:Value} {b:Str} {l I:Nat} {v:Value} {kind:Int} {va vb:Value} {s:ByteArray} {al:Bool} (M:qka w0 D S b l w (.returned v) w2) (W:qas w2 I kind va s vb al) (aa:D<I) (ac:w.heap.size<=I) (d:Below I w2 h) (E:∀ k,k≠I->h.heap[k]?=w2.heap[k]?):qka w0 D S b l w (.returned v) h:=by
 rcases M with ⟨p,⟨V,Z,n,y⟩,⟨k,B,K,G,O,T,U,q⟩,z⟩ | ⟨p,B,n,y⟩
 ·exact .inl ⟨p,⟨V,Z,n,qdM W y E⟩,⟨k,B,K,G,O,T,U,⟨(d.block D aa).trans q.blk,q.bel.trans (d.mono (by omega))⟩⟩,⟨Qj z.size d.size,fun k ab J=>(E k (by omega)).trans (z.same k ab J)⟩⟩
 ·cases n
theorem qhm {w0 w w':World} {D:Nat} {S:Value} {b:Str} {l:Nat} (kind:Int) (q:kind≠4) (k:Nat) (y:k<=l) (h:itR b=qbv kind (b.take k)) {p nd d n:Int} (X:Dec w0 D S w' k p nd d n) (z:DK D w w') :
  qka w0 D S b l w (.returned (.agg #[.int .i64 kind,.slice none 0 0,.string ⟨#[]⟩,.slice none 0 0,.bool false])) w':=by
 refine .inl ⟨by rw [h];exact q,⟨none,0,by rw [h];rfl,by rw [h];exact qfm _ _⟩,⟨k,p,nd,d,n,y,by rw [h];rfl,X⟩,z⟩
theorem qnj {w0 w w1 w':World} {D:Nat} {S:Value} {b:Str} {l:Nat} (ae:b.length=l) (U:w.heap.size<=w1.heap.size) (B:DK D w w1) {p:Int} {o:UInt8} {t:Str} {x:En} {C:List Tr} {e:Ending}
  (J:hdB b=some (p,o,t)) (ab:qaX p o.toNat=some x) (aa:qaW x.2.2.1 x.2.1 (qcW x.2.2.1 t).1 (qcW x.2.2.1 t).2=some C) (E:kkP p+qcz (qfk p x.2.2.1) (qfk p x.2.2.1).length=sizeT p x.2.2.1)
  (R:qrF w0 D S b l w1 (kkP p) p (sizeT p x.2.2.1:Nat) (qfk p x.2.2.1) x.1 C x.2.2.2 e w'):qka w0 D S b l w e w':=by
 have d:=qxY J;have q:=qd7 J;rw [ab] at d q;simp only at d q;rcases R with ⟨n,⟨V,W,h,O⟩,⟨ac,ad,z⟩,T⟩ | ⟨n,h⟩
 ·rw [E] at n z
  rw [Qe (by omega),aa] at d;have y:(itR b).kind=1:=by rw [d]
  have Z:(itR b).raw=b.take (sizeT p x.2.2.1):=by rw [d]
  have M:(itR b).m=x.1:=by rw [d]
  have G:(itR b).C=C:=by rw [d];rfl
  have K:(itR b).al=x.2.2.2:=by rw [d]
  refine .inl ⟨by rw [y];decide,⟨V,W,?_,?_⟩,⟨_,_,_,_,_,n,Z,z⟩,B.trans T⟩
  ·rw [y,M,G,K];exact h
  ·rw [G];exact row_mono O U
 ·rw [E] at n
  rw [Qi (by omega)] at d;refine .inr ⟨d,p,?_⟩;rw [q];exact ⟨h.1,h.2.1,B.trans h.2.2⟩
theorem qpV {w0:World} {D:Nat} {b:Str} {A:Option Addr} {l cap:Nat} (H:DH w0 D b A l cap) (br:qad w0) {w:World} {nd:Int} (X:Dec w0 D (.slice A l cap) w 0 0 nd 0 0) :
  Calls prog 108 #[.pointer (some ⟨D,0,none⟩)] w (qka w0 D (.slice A l cap) b l w):=by
 have b6:=H.hl;obtain ⟨S,b0⟩:=N9 (Value.slice A l cap);have cw:=J9 (fun w (p nd d n:Int) aG X av=>qn9 H (w:=w) (p:=p) (nd:=nd) (d:=d) (n:=n) aG X av);have b4:=J9 (fun w k (p nd d n:Int) aG X=>qf1 H (w:=w) (k:=k) aG (p:=p) (nd:=nd) (d:=d) (n:=n) X);have cr:=J9 (fun w k (p nd d n:Int) aG X=>qsL H (w:=w) (k:=k) aG (p:=p) (nd:=nd) (d:=d) (n:=n) X);have b1:=J9 (fun w k (p nd d n:Int) aG X i ex E cH q c0 aU cN cL cz cy cS c2 r bh cX a2 C a0=>qog H (w:=w) (k:=k) aG (p:=p) (nd:=nd) (d:=d) (n:=n) X (i:=i) (ex:=ex) E cH q c0 aU cN cL cz cy cS c2 r bh cX a2 C a0);have bs:Hid (∀ w1,Below D w0 w1->qad w1):=fun w1 c=>br.qA6 c (Zk br.lt H.hD)
 have c6:=H.hl2;rw [b0] at X cw b4 cr b1 |-;have a9:=J9 b6;obtain ⟨bb,bC⟩:=N9 (w.heap.size);obtain ⟨bI,df,ch,bl,db⟩:=qbQ w bb bC;have cZ:=J9 (X.all bl);have b3:=J9 (DK.of_below (D:=D) bl);have bm:D<bb:=by rw [<- bC];exact X.lt
 have aF:Hid (∀ M,DK D bI M->qas M bb 0 (.slice none 0 0) ⟨#[]⟩ (.slice none 0 0) false/\DK D w M):=fun M bW=>⟨bW.blk ch (by omega),b3.o.trans bW⟩
 have bH:=J9 bC;clear H br X ch bl b3 b0 b6
 go_enter func108,ntmps108
 go_wp2
 go_loopw [] (fun wr=>∃ (p:Int) (cv:Str) (nd:Int),(0<=p/\p<=6)/\Hid (b=qaM p++cv)/\Hid (Dec w0 D S wr (qaM p).length p nd 0 0/\DK D bI wr)) (fun wr=>3 - qy5 D wr)
 case atStart=>exact ⟨0,b,nd,⟨by decide,by decide⟩,rfl,⟨cZ.o,DK.refl _ _⟩⟩
 case round=>
  obtain ⟨p,cv,nd,av,bJ,aY⟩:=hrel;obtain ⟨cD,cK⟩:=qtK av;have b8:(qaM p).length<=l:=by
   have c:=congrArg List.length bJ.o;rw [Qk,a9.o] at c;omega
  have cx:qy5 D wr=(qaM p).length:=aY.o.1.cnt;have bq:Hid (l<kkP p->itR b=qbv 4 b/\needR b=kkP p):=fun c=>qAg av bJ.o (by rw [a9.o];exact c)
  have an:=fun w1 X=>cw.o w1 p nd 0 0 b8 X av
  have aK:=aY.o.1;obtain ⟨h,bj⟩:=N9 (b.getD (kkP p - 1) 0);have aR:Hid (kkP p<=l->∃ T,(p<=4->b=qaM p++h :: T/\b.drop (kkP p)=T)/\(5<=p->hdB b=some (p,h,T)/\∃ c4,T=b.getD (qaM p).length 0 :: c4)):=fun c=>by
   obtain ⟨c9,T,L,J⟩:=hasB av bJ.o (by rw [a9.o];exact c);rw [bj] at L;subst L;exact ⟨T,J⟩
  obtain ⟨F,bz⟩:=N9 (kkP p);obtain ⟨ao,bA⟩:=N9 (ddP b p 0);obtain ⟨bV,bk⟩:=N9 ((qaM p).length);rw [bj] at an;rw [bz] at an bq cK;rw [bA] at an;rw [bk] at an aK cx cD b8;have an:=J9 an;have de:=J9 bj;have aJ:=J9 bz;have cn:=J9 bA;have bt:=J9 bk;have bK:Hid (∀ O,l<F->(∃ d n,Dec w0 D S O l p F d n)->DK D wr O->qka w0 D S b l w (.panicked qq7) O):=fun O c L J=>by
   obtain ⟨cA,cW⟩:=bq.o c;exact .inr ⟨cA,p,rfl,by rw [cW];exact L,(aF.o O (aY.o.2.trans J)).2⟩
  have bv:D<wr.heap.size:=aK.lt;have aK:=J9 aK;have cE:Hid (DK D bI wr):=aY.o.2;clear bj bz bA bk bq aY
  go_upto_region 1 with fail
  go_cut [3,4] (fun cY cB wx=>∃ (I:Nat) (z y:Int) (q:Str) (u:Option Addr) (o t:Nat) (ex:Str) (r:Bool) (B:Int),cY=.pointer (some ⟨I,0,none⟩)/\cB=.int .i64 B/\Hid (F<=l/\wx.heap[I]?=some (.cells #[.int .i64 z,.int .u8 y,.string (sB q),.slice u o t,.string (sB ex),.bool r] 88 (0,0))/\Dec w0 D S wx F p F ao 0/\DK D wr wx/\
   (∀ a,qaX p h.toNat=some a->B=1/\z=p/\y=(h.toNat:Int)/\q=a.1/\ex=a.2.2.1/\r=a.2.2.2/\o=a.2.1.length/\qaf wx (D+1) (.slice u o t) a.2.1)/\(qaX p h.toNat=none->B=rkindT p h.toNat)))
  case first=>
   obtain ⟨bc,a6⟩:=N9 (wr.drew);have bf:Below wr.heap.size wr bc:=(by rw [<- a6];exact below_drewN wr _ 1);have m:=J9 (aK.o.all bf);have x:=J9 (DK.of_below (D:=D) bf);have c5:wr.heap.size<=bc.heap.size:=bf.size;refine MixE.qBm (fun w'=>w'.cell? ⟨D,2,none⟩=some (.int .i64 p)) (fun bM cR w'=>cR=[]/\qka w0 D S b l w (.panicked bM) w') 12
    (.pure 0 (.pure 1 (.pure 2 (.pure 3 (.pure 4 (.two 5 (.two 6 (.pure 7 (.pure 8 (.pure 9 (.one 10 (.one 11 .done))))) 10 (.one 6 (.pure 7 (.pure 8 (.pure 9 (.one 11 .done)))))) 10 (.one 5 (.one 6 (.pure 7 (.pure 8 (.pure 9 (.one 11 .done)))))))))))) (by kernel_rfl) (by kernel_rfl) (by rw [a6];exact m.o.cells.2.2.1) (fun bM c7 w c=>⟨c.1,c.2⟩) ?_
   rw [a6];clear a6 bf;refine MixE.qAY rfl (by kernel_rfl) (.pointer (some ⟨D,0,none⟩)) (fun w c=>by clear c;go_simp;try rfl) ?_;refine MixE.qAY rfl (by kernel_rfl) (.pointer (some ⟨D,0,none⟩)) (fun w c=>by clear c;go_simp;try rfl) ?_;refine MixE.qAY rfl (by kernel_rfl) (.pointer (some ⟨D,2,none⟩)) (fun w c=>by clear c;go_simp;try rfl) ?_;refine MixE.qAY rfl (by kernel_rfl) (.int .i64 p) (fun w c=>by go_simp;try rfl) ?_;refine MixE.qAY rfl (by kernel_rfl) (.pointer (some ⟨D,0,none⟩)) (fun w c=>by clear c;go_simp;try rfl) ?_;refine MixE.qBr rfl (by kernel_rfl) rfl (by kernel_rfl) ?_ ?_
   ·go_wp2_with fail
    refine (an.o bc m.o).mono ?_;rintro e O (⟨c,rfl,L,J⟩ | ⟨c,rfl,L,J⟩)
    rotate_left
    ·exact ⟨rfl,bK.o O c L (x.o.trans J)⟩
    have am:=J9 c;have m:=J9 L;have x:=J9 (x.o.trans J);have cF:wr.heap.size<=O.heap.size:=x.o.size;clear c L J;go_wp2;refine ⟨m.o.cells.2.2.1,?_⟩;refine MixE.qBr rfl (by kernel_rfl) rfl (by kernel_rfl) ?_ ?_
    ·go_wp2_with fail
     refine (qie p h O (bs.o O m.o.bel)).mono ?_;rintro e af ⟨z,y,q,u,o,t,ex,r,B,rfl,K,V,R⟩;have au:D+1<=O.heap.size:=m.o.lt;have W:Hid ((∀ a,qaX p h.toNat=some a->B=1/\z=p/\y=(h.toNat:Int)/\q=a.1/\ex=a.2.2.1/\r=a.2.2.2/\o=a.2.1.length/\qaf af (D+1) (.slice u o t) a.2.1)/\(qaX p h.toNat=none->B=rkindT p h.toNat)):=⟨fun a E=>by
      obtain ⟨U,Z,ad,ab,aa,ac,ae,ag⟩:=V a E;exact ⟨U,Z,ad,ab,aa,ac,ae,row_mono ag au⟩,R⟩
     have m:=J9 (m.o.all K);have x:=J9 (x.o.trans (DK.of_below K));clear K V R au;go_wp2;refine ⟨m.o.cells.2.2.1,?_⟩;refine MixE.qAY rfl (by kernel_rfl) (.tuple #[.agg #[.int .i64 z,.int .u8 y,.string (sB q),.slice u o t,.string (sB ex),.bool r],.int .i64 B]) (fun w c=>by clear c;go_simp;try rfl) ?_;refine MixE.qAY rfl (by kernel_rfl) (.agg #[.int .i64 z,.int .u8 y,.string (sB q),.slice u o t,.string (sB ex),.bool r]) (fun w c=>by clear c;go_simp;try rfl) ?_;refine MixE.qAY rfl (by kernel_rfl) (.int .i64 B) (fun w c=>by clear c;go_simp;try rfl) ?_;refine MixE.qA3 rfl (by kernel_rfl) ?_;obtain ⟨I,aO,ce,ct,ay,ah,a1⟩:=Fr.box (Fr.nil af) #[.int .i64 0,.int .u8 0,.string ⟨#[]⟩,.slice none 0 0,.string ⟨#[]⟩,.bool false] 88;have G:Hid (aO.heap[I]?=some (.cells #[.int .i64 0,.int .u8 0,.string ⟨#[]⟩,.slice none 0 0,.string ⟨#[]⟩,.bool false] 88 (0,0))):=ay.o.1;have W:Hid ((∀ a,qaX p h.toNat=some a->B=1/\z=p/\y=(h.toNat:Int)/\q=a.1/\ex=a.2.2.1/\r=a.2.2.2/\o=a.2.1.length/\qaf aO (D+1) (.slice u o t) a.2.1)/\(qaX p h.toNat=none->B=rkindT p h.toNat)):=⟨fun a E=>by
      obtain ⟨U,Z,ad,ab,aa,ac,ae,ag⟩:=W.o.1 a E;exact ⟨U,Z,ad,ab,aa,ac,ae,ag.below ah⟩,W.o.2⟩
     have aV:wr.heap.size<=I:=(by have:=x.o.size;omega);have m:=J9 (m.o.all ah);have x:=J9 (x.o.trans (DK.of_below ah));clear ay ah a1;go_wp2;refine ⟨m.o.cells.2.2.1,?_⟩;refine MixE.qA3 rfl (by kernel_rfl) ?_;obtain ⟨M,ax,ap,ai,aw,aq⟩:=qlz m.o x.o bv G.o aV #[.int .i64 z,.int .u8 y,.string (sB q),.slice u o t,.string (sB ex),.bool r];refine wpList_store_row rfl 88 _ _ rfl I #[.int .i64 z,.int .u8 y,.string (sB q),.slice u o t,.string (sB ex),.bool r] rfl rfl _ _ G.o (by kernel_rfl) (by kernel_rfl) (by kernel_rfl) ?_;rw [ax];have aj:Hid (F<=l/\M.heap[I]?=some (.cells #[.int .i64 z,.int .u8 y,.string (sB q),.slice u o t,.string (sB ex),.bool r] 88 (0,0))/\Dec w0 D S M F p F ao 0/\DK D wr M/\
      (∀ a,qaX p h.toNat=some a->B=1/\z=p/\y=(h.toNat:Int)/\q=a.1/\ex=a.2.2.1/\r=a.2.2.2/\o=a.2.1.length/\qaf M (D+1) (.slice u o t) a.2.1)/\(qaX p h.toNat=none->B=rkindT p h.toNat)):=⟨am.o,ap,ai,aw,fun a E=>by
       obtain ⟨U,Z,ad,ab,aa,ac,ae,ag⟩:=W.o.1 a E;exact ⟨U,Z,ad,ab,aa,ac,ae,aq _ _ _ ag⟩,W.o.2⟩
     refine ⟨ai.cells.2.2.1,?_⟩;clear ax ap ai aw aq m x W G;simp only [MixE.qA2,Qr,Qx];go_wp2
     go_meet
     exact ⟨I,z,y,q,u,o,t,ex,r,B,rfl,rfl,aj⟩
    ·obtain ⟨I,af,ce,ct,ay,ah,a1⟩:=Fr.box (Fr.nil O) #[.int .i64 0,.int .u8 0,.string ⟨#[]⟩,.slice none 0 0,.string ⟨#[]⟩,.bool false] 88
     have G:Hid (af.heap[I]?=some (.cells #[.int .i64 0,.int .u8 0,.string ⟨#[]⟩,.slice none 0 0,.string ⟨#[]⟩,.bool false] 88 (0,0))):=ay.o.1;have aV:wr.heap.size<=I:=(by have:=x.o.size;omega);have m:=J9 (m.o.all ah);have x:=J9 (x.o.trans (DK.of_below ah));clear ay ah a1;go_wp2;refine ⟨m.o.cells.2.2.1,?_⟩;refine MixE.qA3 rfl (by kernel_rfl) ?_
     go_wp2_with fail
     refine (qie p h af (bs.o af m.o.bel)).mono ?_;rintro e aO ⟨z,y,q,u,o,t,ex,r,B,rfl,K,V,R⟩;have au:D+1<=af.heap.size:=m.o.lt;have W:Hid ((∀ a,qaX p h.toNat=some a->B=1/\z=p/\y=(h.toNat:Int)/\q=a.1/\ex=a.2.2.1/\r=a.2.2.2/\o=a.2.1.length/\qaf aO (D+1) (.slice u o t) a.2.1)/\(qaX p h.toNat=none->B=rkindT p h.toNat)):=⟨fun a E=>by
      obtain ⟨U,Z,ad,ab,aa,ac,ae,ag⟩:=V a E;exact ⟨U,Z,ad,ab,aa,ac,ae,row_mono ag au⟩,R⟩
     have G:=J9 ((K.block I (Qb.1 G.o).1).trans G.o);have m:=J9 (m.o.all K);have x:=J9 (x.o.trans (DK.of_below K));clear K V R au;go_wp2;refine ⟨m.o.cells.2.2.1,?_⟩;refine MixE.qAY rfl (by kernel_rfl) (.tuple #[.agg #[.int .i64 z,.int .u8 y,.string (sB q),.slice u o t,.string (sB ex),.bool r],.int .i64 B]) (fun w c=>by clear c;go_simp;try rfl) ?_;refine MixE.qAY rfl (by kernel_rfl) (.agg #[.int .i64 z,.int .u8 y,.string (sB q),.slice u o t,.string (sB ex),.bool r]) (fun w c=>by clear c;go_simp;try rfl) ?_;refine MixE.qAY rfl (by kernel_rfl) (.int .i64 B) (fun w c=>by clear c;go_simp;try rfl) ?_;refine MixE.qA3 rfl (by kernel_rfl) ?_;obtain ⟨M,ax,ap,ai,aw,aq⟩:=qlz m.o x.o bv G.o aV #[.int .i64 z,.int .u8 y,.string (sB q),.slice u o t,.string (sB ex),.bool r];refine wpList_store_row rfl 88 _ _ rfl I #[.int .i64 z,.int .u8 y,.string (sB q),.slice u o t,.string (sB ex),.bool r] rfl rfl _ _ G.o (by kernel_rfl) (by kernel_rfl) (by kernel_rfl) ?_;rw [ax];have aj:Hid (F<=l/\M.heap[I]?=some (.cells #[.int .i64 z,.int .u8 y,.string (sB q),.slice u o t,.string (sB ex),.bool r] 88 (0,0))/\Dec w0 D S M F p F ao 0/\DK D wr M/\
      (∀ a,qaX p h.toNat=some a->B=1/\z=p/\y=(h.toNat:Int)/\q=a.1/\ex=a.2.2.1/\r=a.2.2.2/\o=a.2.1.length/\qaf M (D+1) (.slice u o t) a.2.1)/\(qaX p h.toNat=none->B=rkindT p h.toNat)):=⟨am.o,ap,ai,aw,fun a E=>by
       obtain ⟨U,Z,ad,ab,aa,ac,ae,ag⟩:=W.o.1 a E;exact ⟨U,Z,ad,ab,aa,ac,ae,aq _ _ _ ag⟩,W.o.2⟩
     refine ⟨ai.cells.2.2.1,?_⟩;clear ax ap ai aw aq m x W G;simp only [MixE.qA2,Qr,Qx];go_wp2
     go_meet
     exact ⟨I,z,y,q,u,o,t,ex,r,B,rfl,rfl,aj⟩
   ·obtain ⟨I,O,ce,ct,ay,ah,a1⟩:=Fr.box (Fr.nil bc) #[.int .i64 0,.int .u8 0,.string ⟨#[]⟩,.slice none 0 0,.string ⟨#[]⟩,.bool false] 88
    have G:Hid (O.heap[I]?=some (.cells #[.int .i64 0,.int .u8 0,.string ⟨#[]⟩,.slice none 0 0,.string ⟨#[]⟩,.bool false] 88 (0,0))):=ay.o.1;have aV:wr.heap.size<=I:=(by have:=x.o.size;omega);have m:=J9 (m.o.all ah);have x:=J9 (x.o.trans (DK.of_below ah));clear ay ah a1;go_wp2;refine ⟨m.o.cells.2.2.1,?_⟩;refine MixE.qA3 rfl (by kernel_rfl) ?_
    go_wp2_with fail
    refine (an.o O m.o).mono ?_;rintro e af (⟨c,rfl,L,J⟩ | ⟨c,rfl,L,J⟩)
    rotate_left
    ·exact ⟨rfl,bK.o af c L (x.o.trans J)⟩
    have am:=J9 c;have m:=J9 L;have x:=J9 (x.o.trans J);have cF:wr.heap.size<=af.heap.size:=x.o.size;have G:=J9 (J.blk G.o (by omega));clear c L J;go_wp2;refine ⟨m.o.cells.2.2.1,?_⟩;refine MixE.qA3 rfl (by kernel_rfl) ?_
    go_wp2_with fail
    refine (qie p h af (bs.o af m.o.bel)).mono ?_;rintro e aO ⟨z,y,q,u,o,t,ex,r,B,rfl,K,V,R⟩;have au:D+1<=af.heap.size:=m.o.lt;have W:Hid ((∀ a,qaX p h.toNat=some a->B=1/\z=p/\y=(h.toNat:Int)/\q=a.1/\ex=a.2.2.1/\r=a.2.2.2/\o=a.2.1.length/\qaf aO (D+1) (.slice u o t) a.2.1)/\(qaX p h.toNat=none->B=rkindT p h.toNat)):=⟨fun a E=>by
     obtain ⟨U,Z,ad,ab,aa,ac,ae,ag⟩:=V a E;exact ⟨U,Z,ad,ab,aa,ac,ae,row_mono ag au⟩,R⟩
    have G:=J9 ((K.block I (Qb.1 G.o).1).trans G.o);have m:=J9 (m.o.all K);have x:=J9 (x.o.trans (DK.of_below K));clear K V R au;go_wp2;refine ⟨m.o.cells.2.2.1,?_⟩;refine MixE.qAY rfl (by kernel_rfl) (.tuple #[.agg #[.int .i64 z,.int .u8 y,.string (sB q),.slice u o t,.string (sB ex),.bool r],.int .i64 B]) (fun w c=>by clear c;go_simp;try rfl) ?_;refine MixE.qAY rfl (by kernel_rfl) (.agg #[.int .i64 z,.int .u8 y,.string (sB q),.slice u o t,.string (sB ex),.bool r]) (fun w c=>by clear c;go_simp;try rfl) ?_;refine MixE.qAY rfl (by kernel_rfl) (.int .i64 B) (fun w c=>by clear c;go_simp;try rfl) ?_;refine MixE.qA3 rfl (by kernel_rfl) ?_;obtain ⟨M,ax,ap,ai,aw,aq⟩:=qlz m.o x.o bv G.o aV #[.int .i64 z,.int .u8 y,.string (sB q),.slice u o t,.string (sB ex),.bool r];refine wpList_store_row rfl 88 _ _ rfl I #[.int .i64 z,.int .u8 y,.string (sB q),.slice u o t,.string (sB ex),.bool r] rfl rfl _ _ G.o (by kernel_rfl) (by kernel_rfl) (by kernel_rfl) ?_;rw [ax];have aj:Hid (F<=l/\M.heap[I]?=some (.cells #[.int .i64 z,.int .u8 y,.string (sB q),.slice u o t,.string (sB ex),.bool r] 88 (0,0))/\Dec w0 D S M F p F ao 0/\DK D wr M/\
     (∀ a,qaX p h.toNat=some a->B=1/\z=p/\y=(h.toNat:Int)/\q=a.1/\ex=a.2.2.1/\r=a.2.2.2/\o=a.2.1.length/\qaf M (D+1) (.slice u o t) a.2.1)/\(qaX p h.toNat=none->B=rkindT p h.toNat)):=⟨am.o,ap,ai,aw,fun a E=>by
      obtain ⟨U,Z,ad,ab,aa,ac,ae,ag⟩:=W.o.1 a E;exact ⟨U,Z,ad,ab,aa,ac,ae,aq _ _ _ ag⟩,W.o.2⟩
    refine ⟨ai.cells.2.2.1,?_⟩;clear ax ap ai aw aq m x W G;simp only [MixE.qA2,Qr,Qx];go_wp2
    go_meet
    exact ⟨I,z,y,q,u,o,t,ex,r,B,rfl,rfl,aj⟩
  case rest=>
   obtain ⟨I,z,y,q,u,o,t,ex,r,B,rfl,rfl,a8⟩:=hcut;obtain ⟨am,G,ak,aS,V,R⟩:=a8.o;obtain ⟨T,az,aE⟩:=aR.o (by rw [aJ.o];exact am);have aH:=J9 (cE.o.trans aS);clear an bK aK a8;cases E:qaX p h.toNat with
   | some a=>
    obtain ⟨rfl,a4,a5,bi,a3,a7,aN,a2⟩:=V a E;have aP:hdB b=some (p,h,T):=by
     by_cases aL:5<=p
     ·exact (aE aL).1
     ·rw [(az (by omega)).1];exact qu6 ⟨av.1,by omega⟩ T E
    have aI:=qgR h.toNat_lt E;have bU:=qyn aI (fun c=>(az c).2) (fun c=>(aE c).2);obtain ⟨C,a0⟩:=qkW aI (qpe h.toNat_lt E) (qks aI T);have ck:=qzt aI;have be:=qdA.ok (k:=(p,(h.toNat:Int),a.1,a.2.1,a.2.2.1,a.2.2.2)) ⟨h.toNat,h.toNat_lt,rfl,E⟩;have c3:=be.m;have aU:=be.up;have cM:=be.len;simp only at c3 aU cM;rw [aN] at a2;have bL:=b1.o wc F p F ao 0 am ak h.toNat a.2.2.1 aI (h.toNat:Int) a.1 (by omega) aU u a.2.1.length t a.2.1 rfl (by omega) a.2.2.2 (D+1) (by omega) a2 C (fun _=>by rw [<- cn.o,<- aJ.o,bU];exact a0);have b2:=J9 (fun e w' a8=>qnj (w0:=w0) (w:=w) (w1:=wc) (w':=w') (D:=D) (S:=S) (b:=b) a9.o (aF.o wc aH.o).2.size (aF.o wc aH.o).2 (C:=C) (e:=e) aP E a0 ck (by rw [aJ.o];exact a8));unfold enV at bL;obtain ⟨bN,bZ,bX,cc,cm,cl⟩:=Fr.qBq G;rw [a4] at bN;rw [a5] at bZ;rw [bi] at bX;rw [aN] at cc;rw [a3] at cm;rw [a7] at cl;clear G ak aS V R aP aI bU a0 ck be aU a2 a4 a5 bi a3 a7 aN az aE aR E
    go_wp2_with fail
    refine bL.mono ?_;rintro e aC cj;have bB:=b2.o e aC cj;rcases cj with ⟨L,⟨bh,bD,rfl,bg⟩,-,aL⟩ | ⟨L,rfl,J⟩
    ·have I2:=(aF.o aC (aH.o.trans aL)).1
     obtain ⟨bu,cu,aB,ar,-,-,-,aA⟩:=I2.put 1 (.slice none 0 0) (sB a.1) (.slice bh C.length bD) a.2.2.2;have aj:=J9 (bB.put I2 bm (Nat.le_of_eq bH.o) ar aA);obtain ⟨b7,bO,ca,cp,co,bP⟩:=I2.cells;obtain ⟨aQ,aZ,aT,aW,aX,bS⟩:=aB.cells;clear bL b2 bB L bg aL I2 aB ar aA bN bZ bX cc cm cl;go_wp2;refine bodyPost_ret (v:=.agg #[.int .i64 1,.slice none 0 0,.string (sB a.1),.slice bh C.length bD,.bool a.2.2.2]) ?_ rfl aj.o;simp [results,results108,go_sem,aQ,aZ,aT,aW,aX]
    ·exact ⟨rfl,bB⟩
   | none=>
    obtain rfl:=R E;rcases qw2 av E with ⟨J,cG,aD,cd,aM,b5⟩ | ⟨cJ,bw⟩
    ·rw [J]
     obtain ⟨bE,cQ⟩:=az cG;have bG:F=bV+1:=(by rw [<- aJ.o,<- bt.o];unfold kkP;rw [Qe (by omega)]);have cf:b.take F=qaM aD:=by
      rw [aM,bG,<- bt.o,bE,List.take_append,QW (by omega),show (qaM p).length+1 - (qaM p).length=1 by omega];rfl
     have bF:(qaM aD).length=F:=(by rw [aM,bG,<- bt.o,Qk];rfl);have c1:ao=0:=(by rw [<- cn.o];unfold ddP;rw [Qe (by omega)]);have c8:=(qtK b5).1;have bx:=b4.o wc F p F ao 0 am ak;obtain ⟨cT,cU,a4,a5,bi,a3,a7⟩:=ak.cells;have bd:=J9 (fun bp bo w' c=>qhg bp bo (qaM aD) (by unfold maxLen;omega) w' c);rw [bF,aM,cd] at bd;rw [<- aM] at bd;rw [cf] at bx;have cV:Hid (b=qaM aD++T):=(by show b=_;rw [aM,bE];simp);have ak:=J9 ak;subst c1;have cC:=J9 bF;have dd:bV<F:=(by omega);clear G aS V R E az aE aR cd cf cQ bE aM J bF bG
     go_wp2_with fail
     refine bx.mono ?_;rintro e aC ⟨bp,bo,rfl,bg,K⟩;obtain ⟨da,bD,aN,bQ⟩:=bg.bytes;simp only [Qy] at aN;obtain ⟨rfl,-,rfl⟩:=aN;have b9:=bd.o bp bo aC bQ;have bY:=ak.o.all K;have cg:=aH.o.trans (DK.of_below (D:=D) K);clear bx bg K bQ bd
     go_wp2_with fail
     refine b9.mono ?_;rintro e bu ⟨rfl,K⟩;have bn:=bY.all K;obtain ⟨dc,U,Z,ad,ab,aa,ac⟩:=bn.cells;have m:=J9 (bn.set2 aD);have x:=J9 ((cg.trans (DK.of_below (D:=D) K)).set 2 (.int .i64 aD));clear b9 K bY bn cg cT cU a4 a5 bi a3 a7;go_wp2;go_roundw
     case rel=>exact ⟨aD,T,F,b5,cV,by show _/\_;rw [cC.o];exact ⟨m.o,x.o⟩⟩
     case measure=>rw [m.o.cnt,cx];omega
    ·have aP:hdB b=some (p,h,T):=by
      by_cases aL:5<=p
      ·exact (aE aL).1
      ·have c:=bw (by omega) T
       rw [<- (az (by omega)).1] at c;exact c
     have al:=qxY aP;rw [E] at al;simp only at al;have I2:=(aF.o wc aH.o).1;have cq:=J9 (aF.o wc aH.o).2;rcases cJ with ci | ⟨bT,cO⟩
     ·rw [ci] at al |-
      rw [Qi rfl] at al;have bR:=cr.o wc F p F ao 0 am ak;have cI:1<=l:=by
       have:1<=F:=by rw [<- aJ.o];unfold kkP;split <;> omega
       omega
      have cP:=J9 al;clear G ak aS V R E az aE aR aP al bw ci
      go_wp2_with fail
      refine bR.mono ?_;rintro e aC ⟨rfl,L,J⟩;have I3:qas aC bb _ _ _ _ _:=(aF.o aC (aH.o.trans J)).1;obtain ⟨bu,cu,aB,ar,-,-,-,aA⟩:=I3.put 2 (.slice none 0 0) ⟨#[]⟩ (.slice none 0 0) false;have aj:=J9 ((qhm (b:=b) 2 (by decide) 1 cI cP.o L (cq.o.trans J)).put I3 bm (Nat.le_of_eq bH.o) ar aA);obtain ⟨b7,bO,ca,cp,co,bP⟩:=I3.cells;obtain ⟨aQ,aZ,aT,aW,aX,bS⟩:=aB.cells;clear bR L J I3 I2 aB ar aA;go_wp2;refine bodyPost_ret (v:=.agg #[.int .i64 2,.slice none 0 0,.string ⟨#[]⟩,.slice none 0 0,.bool false]) ?_ rfl aj.o;simp [results,results108,go_sem,aQ,aZ,aT,aW,aX]
     ·rw [bT] at al |-
      rw [Qe (by decide)] at al;obtain rfl:F=2:=by rw [<- aJ.o,cO];rfl
      obtain ⟨bu,cu,aB,ar,-,-,-,aA⟩:=I2.put 3 (.slice none 0 0) ⟨#[]⟩ (.slice none 0 0) false;have aj:=J9 ((qhm (b:=b) 3 (by decide) 2 am al ak cq.o).put I2 bm (Nat.le_of_eq bH.o) ar aA);obtain ⟨b7,bO,ca,cp,co,bP⟩:=I2.cells;obtain ⟨aQ,aZ,aT,aW,aX,bS⟩:=aB.cells;clear G ak aS V R E az aE aR aP al bw bT I2 aB ar aA;go_wp2;refine bodyPost_ret (v:=.agg #[.int .i64 3,.slice none 0 0,.string ⟨#[]⟩,.slice none 0 0,.bool false]) ?_ rfl aj.o;simp [results,results108,go_sem,aQ,aZ,aT,aW,aX]
end Go.Proofs.YtecpnfhpcamljaaGreatDoor
namespace Go.Proofs.YtecpnfhpcamljaaGreatDoor
open Tryz
open Go.RowKit Go.Shelf
attribute [local go_sem] Oper.semAt_some
def PtD (w:World) (x D:Nat):Prop:=w.heap[x]?=some (.cells #[.pointer (some ⟨D,0,none⟩)] 84 (0,0))
theorem qas.put1 {w:World} {b:Nat} {kind:Int} {va vb:Value} {s:ByteArray} {al:Bool} (y:qas w b kind va s vb al) (q:Value) :
  ∃ h,w.setCell ⟨b,1,none⟩ q=h/\qas h b kind q s vb al/\Below b w h/\∀ k,k≠b->h.heap[k]?=w.heap[k]?:=
 ⟨_,rfl,heap_setCell_same w b 1 _ _ _ y,(Qc b w).setCell (p:=⟨b,1,none⟩) (Qa _) _,fun k z=>heap_setCell_other _ ⟨b,1,none⟩ k _ z⟩
theorem PtD.ne {w:World} {x D I:Nat} (e:PtD w x D) {kind:Int} {va vb:Value} {s:ByteArray} {al:Bool} (q:qas w I kind va s vb al):x≠I:=fun h=>by
 subst h;unfold PtD at e;rw [show w.heap[x]?=_ from q] at e;simp at e
theorem PtD.cells {w:World} {x D:Nat} (h:PtD w x D):w.cell? ⟨x,0,none⟩=some (.pointer (some ⟨D,0,none⟩))/\w.frozen? ⟨x,0,none⟩=false:=⟨C9 h 0,Qp h 0⟩
theorem qqS {w0 w E:World} {D:Nat} {S:Value} {b:Str} {k I:Nat} {p nd d n:Int} (X:Dec w0 D S w k p nd d n) (U:D<I) {kind:Int} {va vb:Value} {s:ByteArray} {al:Bool} (W:qas w I kind va s vb al) {q:Option Addr} {u:Nat} (O:qat E w.heap.size (.slice q k u) (b.take k)) (z:Below w.heap.size w E) :
  ∃ h,E.setCell ⟨I,1,none⟩ (.slice q k u)=h/\qas h I kind (.slice q k u) s vb al/\qat h D (.slice q k u) (b.take k)/\Dec w0 D S h k p nd d n/\∀ B G y,qaf w B G y->qaf h B G y:=by
 have I3:=W.all z;have K:=X.all z;obtain ⟨h,T,V,J,L⟩:=I3.put1 (.slice q k u);exact ⟨h,T,V,(qgl I3 O L).lift (QV X.lt),⟨(J.block D U).trans K.blk,K.bel.trans (J.mono (by omega))⟩,fun B G y M=>qdM I3 (M.below z) L⟩
theorem qm9 {w0:World} {D:Nat} {b:Str} {A:Option Addr} {l cap:Nat} (H:DH w0 D b A l cap) {w:World} {k:Nat} (aw:k<=l) {p nd d n:Int} (X:Dec w0 D (.slice A l cap) w k p nd d n) {I x:Nat} (ae:D<I) (aC:D<x) (G:PtD w x D) {kind:Int} {va vb:Value} {s:ByteArray} {al:Bool} (aj:qas w I kind va s vb al) :
  CallsD prog 106 #[.pointer (some ⟨I,0,none⟩),.pointer (some ⟨x,0,none⟩)] (.panicking qq7) w fun U av K=>
   U=.returned (.tuple #[])/\av=.panicking [{v:=.iface 145 (.agg #[]),recovered:=true}]/\∃ e h,qas K I 4 (.slice e k h) ⟨#[]⟩ (.slice none 0 0) false/\qat K D (.slice e k h) (b.take k)/\Dec w0 D (.slice A l cap) K k p nd d n:=by
 refine callsD_of_wpS func106 rfl fun aB aH ad=>?_
 unfold qq7 at ad;simp only [ntmps106,List.size_toArray,Qt,QP,Nat.reduceAdd,Nat.reduceSub,Array.replicate_succ,Array.replicate_zero,List.push_toArray,List.append_toArray,List.nil_append,Zn];have aA:∀ w,(Instr.typeAssert (.iface 145 (.agg #[])) 20 145 true).run prog w=.ok (.tuple #[.agg #[],.bool true]) w:=fun w=>by kernel_rfl
 obtain ⟨ac,V⟩:=N9 (Value.slice A l cap);have F:=J9 (fun w X=>qf1 H (w:=w) (k:=k) aw (p:=p) (nd:=nd) (d:=d) (n:=n) X);rw [V] at X F |-;obtain ⟨aa,af⟩:=N9 (w.alloc (.cells #[] 145));have q:Below w.heap.size w aa:=by rw [<- af];exact qaE _ _
 have O:=X.all q;have I1:=aj.all q;have E:PtD aa x D:=(q.block x (Qb.1 G).1).trans G;obtain ⟨M,az,ai,y,-,-,-,ag⟩:=I1.put 4 (.slice none 0 0) ⟨#[]⟩ (.slice none 0 0) false;have S:Hid (Dec w0 D ac M k p nd d n):=⟨(y.block D ae).trans O.blk,O.bel.trans (y.mono (by omega))⟩;have ab:PtD M x D:=(ag x (E.ne I1)).trans E;obtain ⟨ar,an,ax,aq,ao,am⟩:=I1.cells;obtain ⟨ap,-⟩:=ab.cells;have I2:=J9 ai;clear V H X G aj q O I1 E ab ai y ag;apply wpS_seq;apply wpS_seq;apply wpS_region;simp [wpOpsS,go_sem,recoverD,ad,Exit.thenS];refine wpS_of_wp ?_
 go_upto_region 7 with fail
 clear af;go_wp2;refine wpS_of_wp ?_
 go_wp2_with fail
 refine (F.o M S.o).mono ?_;rintro U au ⟨e,h,rfl,Z,z⟩;obtain ⟨J,aE,W,T,ah,-⟩:=qqS S.o ae I2.o Z z;have ak:Hid (qas J I 4 (.slice e k h) ⟨#[]⟩ (.slice none 0 0) false/\qat J D (.slice e k h) (b.take k)/\Dec w0 D ac J k p nd d n):=⟨W,T,ah⟩;obtain ⟨aJ,aF,aG,aD,ay,aI⟩:=(show qas au I _ _ _ _ _ from I2.o.all z).cells;clear F Z z W T ah S I2 ar an ax aq ao am ap;go_wp2;exact ⟨rfl,_,rfl,.tuple #[],by simp [results,results106],rfl,rfl,e,h,ak.o⟩
theorem qof {w0:World} {D:Nat} {b:Str} {A:Option Addr} {l cap:Nat} (H:DH w0 D b A l cap) {w:World} {k:Nat} (af:k<=l) {p nd d n:Int} (X:Dec w0 D (.slice A l cap) w k p nd d n) {I x:Nat} (ae:D<I) (ai:D<x) (S:PtD w x D) {kind:Int} {va vb:Value} {s:ByteArray} {al:Bool} (V:qas w I kind va s vb al) :
  CallsD prog 106 #[.pointer (some ⟨I,0,none⟩),.pointer (some ⟨x,0,none⟩)] .returning w fun J ag B=>
   J=.returned (.tuple #[])/\ag=.returning/\∃ e h,qas B I kind (.slice e k h) s vb al/\qat B D (.slice e k h) (b.take k)/\Dec w0 D (.slice A l cap) B k p nd d n/\∀ u y q,qaf w u y q->qaf B u y q:=by
 refine callsD_of_wpS func106 rfl fun aa ao ad=>?_
 simp only [ntmps106,List.size_toArray,Qt,QP,Nat.reduceAdd,Nat.reduceSub,Array.replicate_succ,Array.replicate_zero,List.push_toArray,List.append_toArray,List.nil_append,Zn];obtain ⟨ac,K⟩:=N9 (Value.slice A l cap);have L:=J9 (qf1 H af X);rw [K] at X |-;obtain ⟨Z,-⟩:=S.cells;have U:=J9 X;have I2:=J9 V;clear K H X S V;apply wpS_seq;apply wpS_seq;apply wpS_region;simp [wpOpsS,go_sem,recoverD,ad,Exit.thenS];refine wpS_of_wp ?_;go_wp2;refine wpS_of_wp ?_
 go_wp2_with fail
 refine L.o.mono ?_;rintro J ab ⟨e,h,rfl,O,E⟩;obtain ⟨z,ak,M,G,T,F⟩:=qqS U.o ae I2.o O E;have W:Hid (qas z I kind (.slice e k h) s vb al/\qat z D (.slice e k h) (b.take k)/\Dec w0 D ac z k p nd d n/\∀ u y q,qaf w u y q->qaf z u y q):=⟨M,G,T,F⟩;obtain ⟨ap,am,an,aj,ah,aq⟩:=(show qas ab I _ _ _ _ _ from I2.o.all E).cells;clear L O E M G T F U I2 Z;go_wp2;exact ⟨rfl,.returning,by cases aa;simp_all,.tuple #[],by simp [results,results106],rfl,rfl,e,h,W.o⟩
def qpj (w0:World) (D:Nat) (S:Value) (b:Str) (e:Ending) (w':World):Prop:=
 (∃ d n p h,e=.returned (.agg #[.int .i64 (itR b).kind,.slice d (itR b).raw.length n,.string (sB (itR b).m),.slice p (itR b).C.length h,.bool (itR b).al])/\qat w' D (.slice d (itR b).raw.length n) (itR b).raw/\qaf w' D (.slice p (itR b).C.length h) (itR b).C)/\
 ∃ z q k y B,Dec w0 D S w' z q k y B/\((itR b).kind=4->k=(needR b:Nat))
theorem qpw {w0:World} {D:Nat} {b:Str} {A:Option Addr} {l cap:Nat} (H:DH w0 D b A l cap) (aI:qad w0) {w:World} {nd:Int} (X:Dec w0 D (.slice A l cap) w 0 0 nd 0 0) :
  Calls prog 64 #[.pointer (some ⟨D,0,none⟩)] w (qpj w0 D (.slice A l cap) b):=by
 have a6:∀ (aM:Fn) (first cap:Array Value) (w:World),(Instr.makeFunc aM first cap).run prog w=.ok (.func aM first cap) w:=fun _ _ _ _=>rfl
 have aJ:=H.hl;obtain ⟨T,aH⟩:=N9 (Value.slice A l cap);have ap:=J9 (fun w X=>qpV H aI (w:=w) (nd:=nd) X);have S:=J9 (fun w k M (p nd d n:Int) X I x G av ag (kind:Int) (va vb:Value) (s:ByteArray) (al:Bool) aq=>qm9 H (w:=w) (k:=k) M (p:=p) (nd:=nd) (d:=d) (n:=n) X (I:=I) (x:=x) G av ag (kind:=kind) (va:=va) (vb:=vb) (s:=s) (al:=al) aq);have ab:=J9 (fun w k M (p nd d n:Int) X I x G av ag (kind:Int) (va vb:Value) (s:ByteArray) (al:Bool) aq=>qof H (w:=w) (k:=k) M (p:=p) (nd:=nd) (d:=d) (n:=n) X (I:=I) (x:=x) G av ag (kind:=kind) (va:=va) (vb:=vb) (s:=s) (al:=al) aq);rw [aH] at X ap S ab |-;have V:=J9 aJ;obtain ⟨x,ax⟩:=N9 (w.heap.size);obtain ⟨O,am⟩:=N9 (w.alloc (.cells #[.pointer (some ⟨D,0,none⟩)] 84));have aA:Below w.heap.size w O:=by rw [<- am];exact qaE _ _
 have aU:PtD O x D:=by rw [<- am,<- ax];exact World.alloc_heap_new w _
 have a1:O.heap.size=x+1:=by rw [<- am,<- ax];simp
 obtain ⟨af,a5,I2,ah,a8⟩:=qbQ O (x+1) a1;have aT:D<x:=by rw [<- ax];exact X.lt
 have aE:=(X.all aA).all ah;have z:PtD af x D:=(ah.block x (by omega)).trans aU;have ad:=ap.o af aE;obtain ⟨az,-⟩:=z.cells;have z:=J9 z;have I2:=J9 I2;clear H aI X ap aH aJ aA ah aU aE
 go_enter_defers func64,ntmps64
 go_wp2_with fail
 refine ad.mono ?_;rintro aN K (⟨G,⟨B,Z,rfl,aO⟩,⟨k,p,U,d,n,M,aC,F⟩,u⟩ | ⟨aK,p,rfl,⟨d,n,F⟩,u⟩)
 ·have I3:qas K (x+1) _ _ _ _ _:=u.blk I2.o (by omega)
  have L:PtD K x D:=u.blk z.o (by omega);obtain ⟨W,aZ,aL,ao,-,-,-,aw⟩:=I3.put (itR b).kind (.slice none 0 0) (sB (itR b).m) (.slice B (itR b).C.length Z) (itR b).al;have aQ:PtD W x D:=(aw x (by omega)).trans L;have aS:Dec w0 D T W k p U d n:=⟨(ao.block D (by omega)).trans F.blk,F.bel.trans (ao.mono (by omega))⟩;have aF:=J9 (qdM I3 (row_mono aO (show D<=af.heap.size by omega)) aw);have J:=ab.o W k M p U d n aS (x+1) x (by omega) aT aQ _ _ _ _ _ aL;obtain ⟨bb,a3,bc,be,bd,a4⟩:=I3.cells;have HR:Hid ((itR b).raw=b.take k):=aC;have aB:Hid ((itR b).kind≠4):=G;have aG:Hid ((b.take k).length=k):=by show _=_;rw [QH,V.o];omega
  have au:Hid (∀ h e m,qas m (x+1) (itR b).kind (.slice h k e) (sB (itR b).m) (.slice B (itR b).C.length Z) (itR b).al->qat m D (.slice h k e) (b.take k)->Dec w0 D T m k p U d n->(∀ B aW ay,qaf W B aW ay->qaf m B aW ay)->
    qpj w0 D T b (.returned (.agg #[.int .i64 (itR b).kind,.slice h k e,.string (sB (itR b).m),.slice B (itR b).C.length Z,.bool (itR b).al])) m):=fun h e m y q E aa=>by
   refine ⟨⟨h,e,B,Z,?_,?_,aa _ _ _ aF.o⟩,k,p,U,d,n,E,fun a0=>absurd a0 aB.o⟩
   ·rw [HR.o,aG.o]
   ·rw [HR.o,aG.o];exact q
  obtain ⟨kind,aP⟩:=N9 ((itR b).kind);obtain ⟨a7,aV⟩:=N9 ((itR b).m);obtain ⟨a9,aD⟩:=N9 ((itR b).C.length);obtain ⟨al,aR⟩:=N9 ((itR b).al);rw [aP,aV,aD,aR] at J au aZ;simp only [aP,aV,aD,aR];clear ad S ab G aO aC F u I3 L aL ao aw aQ aS aF HR aB I2 z az;go_wp2;refine leaves_cons (f:=106) (args:=#[.pointer (some ⟨x+1,0,none⟩),.pointer (some ⟨x,0,none⟩)]) (by simp) (by simp [go_sem]) ?_;refine J.mono ?_;rintro aN a2 m ⟨rfl,rfl,h,e,y,q,E,aa⟩;obtain ⟨ac,ar,ae,aj,ak,aY⟩:=y.cells;have an:=J9 (au.o h e m y q E aa);clear y q E aa J au;simp [Leaves,settle,results,results64,go_sem,ac,ar,ae,aj,ak];exact an.o
 ·have I3:qas K (x+1) _ _ _ _ _:=u.blk I2.o (by omega)
  have L:PtD K x D:=u.blk z.o (by omega);have J:=S.o K _ (Qa _) p _ d n F (x+1) x (by omega) aT L _ _ _ _ _ I3;have ai:=J9 aK;clear ad S ab F u I3 L aK I2 z az;refine leaves_cons (f:=106) (args:=#[.pointer (some ⟨x+1,0,none⟩),.pointer (some ⟨x,0,none⟩)]) (by simp) (by simp [go_sem]) ?_;refine J.mono ?_;rintro aN a2 m ⟨rfl,rfl,h,e,y,q,E⟩;obtain ⟨ac,ar,ae,aj,ak,aY⟩:=y.cells;have an:Hid (qpj w0 D T b (.returned (.agg #[.int .i64 4,.slice h l e,.string ⟨#[]⟩,.slice none 0 0,.bool false])) m):=by
   have aX:b.take l=b:=(by rw [<- V.o,Zt]);rw [aX] at q;refine ⟨⟨h,e,none,0,?_,?_,?_⟩,_,p,_,d,n,E,fun _=>rfl⟩
   ·rw [ai.o];simp only [qbv,V.o];rfl
   ·rw [ai.o];simp only [qbv,V.o];exact q
   ·rw [ai.o];exact qfm _ _
  clear y q E J;simp [Leaves,settle,results,results64,go_sem,ac,ar,ae,aj,ak];exact an.o
def itP (b:Str):Ite:=if b=[] then ⟨0,[],[],[],false⟩ else itR b
theorem qyq {b:Str} (h:b≠[]):itP b=itR b:=Qe h
theorem qzP {w w1:World} {b:Str} {A:Option Addr} {cap l:Nat} (q:b.length=l) (h:l<=cap) (E:cap<=maxLen) (z:l<=100000) (H:BytesAt w A b) (y:Below w.heap.size w w1):DH w1 w1.heap.size b A l cap:=⟨q,z,Qa _,H.below y,h,E⟩
theorem qg3 (b:Str) (A:Option Addr) (cap l:Nat) (k:b.length=l) (ag:l<=cap) (aj:cap<=maxLen) (az:l<=100000) (w:World) (H:BytesAt w A b) (M:qad w) :
  Calls prog 33 #[.slice A l cap] w (qth w (itP b)):=by
 obtain ⟨y,z⟩:=N9 (w.heap.size);obtain ⟨Z,aL,d,e,U⟩:=qbQ w y z;have af:=J9 z;have aE:=J9 k;by_cases h:b=[]
 ·have K:Hid (itP b=⟨0,[],[],[],false⟩):=Qi h
  obtain rfl:l=0:=by rw [<- k,h];rfl
  obtain ⟨w1,aK,q,m,T,n,p,ab⟩:=d.put 0 (.slice none 0 0) ⟨#[]⟩ (.slice none 0 0) false;obtain ⟨aA,aq,aC,ay,aw,au⟩:=d.cells;obtain ⟨G,V,O,W,aa,ax⟩:=q.cells;have E:=J9 (qbX (w:=w) (w1:=Z) (w2:=w1) (x:=⟨0,[],[],[],false⟩) (A:=none) (B:=none) (c:=0) (c2:=0) z (by rw [<- z];exact e) d.lt (qj2 _ _) (qfm _ _) ⟨m,n,p⟩);clear H M k h d e q m T n p ab
  go_enter func33,ntmps33
  go_wp2;refine bodyPost_ret (v:=.agg #[.int .i64 0,.slice none 0 0,.string ⟨#[]⟩,.slice none 0 0,.bool false]) ?_ rfl ?_
  ·simp [results,results33,go_sem,G,V,O,W,aa]
  ·rw [K.o];exact E.o
 ·have K:Hid (itP b=itR b):=Qe h
  have aH:1<=l:=by rw [<- k];cases b;exact absurd rfl h;simp
  have ae:=qnV b A l cap Z;have am:=J9 (qzP k ag aj az H e);have ak:=J9 (M.below e);have an:=J9 (fun w1 av=>qpw am.o ak.o (w:=w1) (nd:=0) av);have d:=J9 d;have ad:=J9 e;clear H M k ag aj h e
  go_enter func33,ntmps33
  go_wp2_with fail
  refine ae.mono ?_;rintro ar w1 ⟨rfl,X,aD⟩;rw [U] at X |-;have J:=an.o w1 (by rw [U];exact X);rw [U] at J;clear ae aD X an am ak
  go_wp2_with fail
  refine J.mono ?_;rintro ar w2 ⟨⟨ac,ap,B,c2,rfl,ah,ai⟩,aM,aJ,nd,aF,aG,ao,-⟩;have F:=ao.bel;have I2:qas w2 y _ _ _ _ _:=(F.block y (by omega)).trans d.o;obtain ⟨aB,aI,q,m,T,n,p,ab⟩:=I2.put (itR b).kind (.slice ac (itR b).raw.length ap) (sB (itR b).m) (.slice B (itR b).C.length c2) (itR b).al;obtain ⟨aA,aq,aC,ay,aw,au⟩:=I2.cells;obtain ⟨G,V,O,W,aa,ax⟩:=q.cells;have E:=J9 (qbX (w:=w) (w1:=w2) (w2:=aB) (x:=itR b) af.o ((show Below y w Z by rw [<- af.o];exact ad.o).trans (F.mono (by omega))) I2.lt ah ai ⟨m,n,p⟩);clear J ah ai ao F I2 q m T n p ab d ad;go_wp2;refine bodyPost_ret (v:=.agg #[.int .i64 (itR b).kind,.slice ac (itR b).raw.length ap,.string (sB (itR b).m),.slice B (itR b).C.length c2,.bool (itR b).al]) ?_ rfl ?_
  ·simp [results,results33,go_sem,G,V,O,W,aa]
  ·rw [K.o];exact E.o
theorem qxe:showB (upB ⟨#[65,68,68]⟩) [(6,0,-1)]=[65,68,68,32,65,44,48,70,70,72]:=by decide +kernel
theorem qyD:rowB 256 (itP [33,52,18])=[48,49,48,48,32,32,50,49,32,51,52,32,49,50,32,32,32,32,76,68,32,72,76,44,49,50,51,52,72]:=by decide +kernel
theorem qx6:(itP [33,52,18]).raw.length<=300/\(itP [33,52,18]).m.length<=1000/\(itP [33,52,18]).C.length<=900:=by decide +kernel
theorem qwQ:(upB ⟨#[65,68,68]⟩).size<=1000:=by decide +kernel
theorem qkV (w:World):BytesAt (w.alloc (.cells #[.int .u8 33,.int .u8 52,.int .u8 18] 5)) (some ⟨w.heap.size,0,none⟩) [33,52,18]:=by
 refine .inr ⟨_,_,rfl,fun j q=>?_⟩;have h:=heap_alloc_new w (.cells #[.int .u8 33,.int .u8 52,.int .u8 18] 5);rw [C9 h]
 match j,q with
 | 0,_=>rfl
 | 1,_=>rfl
 | 2,_=>rfl
theorem qmS {s:ByteArray} {l:List UInt8} (h:s=sB l):(s.toList == l)=true:=by
 rw [h,QO];simp [sB]
theorem qbw (w:World) (M:qad w):Calls prog 10 #[] w fun c ap=>c=.returned (.bool true)/\Below w.heap.size w ap:=by
 obtain ⟨x,ac,aI,aK,aa,ad,aF⟩:=Fr.box (Fr.nil w) #[.int .i64 6,.int .i64 0,.int .i64 (-1)] 56;have ah:qai ac (some ⟨x,0,none⟩) [(6,0,-1)]:=by
  refine .inr ⟨x,0,rfl,fun ax am=>?_⟩;obtain rfl:ax=0:=by simp at am;omega
  obtain ⟨au,an,aB⟩:=Fr.cells3 aa.o.1;exact ⟨au,an,aB⟩
 have O:=J9 (qmn ⟨#[65,68,68]⟩ (by decide +kernel) (some ⟨x,0,none⟩) 1 [(6,0,-1)] (by decide) ac ah);have v:=J9 ad;have z:=J9 M;clear aa ah ad M
 go_enter func10,ntmps10
 go_wp2_with fail
 refine O.o.mono ?_;rintro c aq ⟨aG,rfl,U,J⟩;have h:=J9 (v.o.trans (J.mono v.o.size));obtain ⟨aA,ak,rfl,K⟩:=U.ops;have e:=J9 (qct (upB ⟨#[65,68,68]⟩) qwQ aA ak 1 [(6,0,-1)] rfl (by omega) aq (z.o.below h.o) K.1);rw [qxe] at e;have aj:=qmS (s:=sB [65,68,68,32,65,44,48,70,70,72]) rfl;obtain ⟨aH,ab⟩:=N9 (sB [65,68,68,32,65,44,48,70,70,72]);rw [ab] at e aj;obtain ⟨aJ,y⟩:=N9 (upB ⟨#[65,68,68]⟩);rw [y] at e;rw [y];clear O J U K ab y v
 go_wp2_with fail
 refine e.o.mono ?_;rintro c t ⟨rfl,af⟩;have q:=J9 (h.o.trans (af.mono h.o.size));have V:=J9 (qg3 [33,52,18] (some ⟨t.heap.size,0,none⟩) 3 3 rfl (Qa _) (by unfold maxLen;omega) (by decide) (t.alloc (.cells #[.int .u8 33,.int .u8 52,.int .u8 18] 5)) (qkV t) ((z.o.below q.o).below (B0)));have u:Hid (Below w.heap.size w (t.alloc (.cells #[.int .u8 33,.int .u8 52,.int .u8 18] 5))):=q.o.alloc q.o.size _;clear e af h
 go_wp2_with fail
 refine V.o.mono ?_;rintro c G ⟨ay,ao,ai,ar,rfl,W,Z,T⟩;have j:=J9 (u.o.trans (T.mono u.o.size));have ag:qai G ai (itP [33,52,18]).C:=by
  obtain ⟨aC,aL,c,av,-⟩:=Z.ops;simp only [Qy] at c;rw [c.1];exact av
 have SR:=J9 (qhK 256 ⟨itP [33,52,18],ay,ao,ai,ar⟩ qx6 G (z.o.below j.o) ⟨qtz W,ag⟩);unfold Xe.v at SR;simp only at SR;rw [qyD] at SR;have aw:=qmS (s:=sB [48,49,48,48,32,32,50,49,32,51,52,32,49,50,32,32,32,32,76,68,32,72,76,44,49,50,51,52,72]) rfl;obtain ⟨aE,E⟩:=N9 (sB [48,49,48,48,32,32,50,49,32,51,52,32,49,50,32,32,32,32,76,68,32,72,76,44,49,50,51,52,72]);rw [E] at SR aw;obtain ⟨aD,A⟩:=N9 (itP [33,52,18]);rw [A] at SR;rw [A];clear V T W Z ag u q E A
 go_wp2_with fail
 refine SR.o.mono ?_;rintro c aM ⟨rfl,ae⟩;have az:=J9 (j.o.trans (ae.mono j.o.size));clear SR ae j;go_wp2;go_ret;exact ⟨rfl,az.o⟩
def qwV:Value->Nat
 | .slice _ h _=>h
 | _=>0
theorem qvl {w:World} {g b:Nat} {xs:Str} (h:BytesAt w (some ⟨g,b,none⟩) xs) (k:Nat):BytesAt w (some ⟨g,b+k,none⟩) (xs.drop k):=by
 rcases h with rfl | ⟨y,z,e,j⟩
 ·exact .inl (by simp)
 ·simp only [Qv,Addr.mk.injEq] at e
  obtain ⟨rfl,rfl,-⟩:=e;refine .inr ⟨g,b+k,rfl,fun o q=>?_⟩;rw [Zj] at q;rw [List.getElem_drop,Nat.add_assoc];exact j (k+o) (by omega)
theorem qhE (b:Str) (A:Option Addr) (cap l:Nat) (aI:b.length=l) (aP:l<=cap) (aD:cap<=maxLen) (aC:l<=10000) (w:World) (H:BytesAt w A b) :
  Calls prog 29 #[.slice A l cap] w (qfH w (itemsR b)):=by
 obtain ⟨h,ap⟩:=N9 (w.heap.size);have au:=J9 ap;have aE:=J9 aI;have aw:Hid (∀ g,Below h w g->BytesAt g A b):=fun g y=>H.below (by rw [au.o];exact y)
 have aH:Hid (l<=cap/\cap<=maxLen):=⟨aP,aD⟩;have B0:Hid (Below h w w):=Qc _ _;have aR:Hid (h<=w.heap.size):=Nat.le_of_eq ap.symm;have aU:=J9 aC;clear H ap aI aP aD aC
 go_enter func29,ntmps29
 go_wp2
 go_loopw [0,3] (fun an a3 wr=>∃ (rest:Str) (ae:Option Addr) (x E:Nat) (R:Option Addr) (M J:Nat) (z:List Xe),an=.slice ae x E/\a3=.slice R M J/\Hid (rest.length=x)/\Hid (x<=l)/\Hid (x<=E/\E<=maxLen)/\Hid (∀ g,Below h w g->BytesAt g ae rest)/\Hid (z.length=M)/\Hid (qdY wr h (.slice R M J) z)/\Hid (z.map Xe.x++itemsR rest=itemsR b)/\Hid (Below h w wr)/\Hid (h<=wr.heap.size)) (fun an _ _=>qwV an)
 case atStart=>exact ⟨b,A,l,cap,none,0,0,[],rfl,rfl,aE.o,Qa _,aH.o,aw.o,rfl,qp5 _ _,rfl,B0.o,aR.o⟩
 case round=>
  clear B0 aR aw aH;obtain ⟨rest,ae,x,E,R,M,J,z,rfl,rfl,G,aj,U,ab,HR,Z,W,T,O⟩:=hrel;by_cases ag:x=0
  ·subst ag
   have aS:rest=[]:=Qw G.o;have a8:Hid (qfH w (itemsR b) (.returned (.slice R M J)) wr):=by
    have F:=W.o;rw [aS,qei,Zu] at F;exact ⟨R,J,z,by rw [HR.o],F,by rw [HR.o,au.o];exact Z.o,by rw [au.o];exact T.o⟩
   clear G aj U ab HR Z W T O aS;go_wp2;go_ret;exact a8.o
  ·have aa:Hid (rest≠[]):=fun ah=>ag (by rw [<- G.o,ah];rfl)
   have ak:=qjh rest aa.o ae E x G.o U.o.1 U.o.2 (Qj aj.o aU.o) wr (ab.o wr T.o);have bh:0<x:=Nat.pos_of_ne_zero ag;have bn:Hid (z.length+1<=100000):=by
    have a9:=qpz W.o;have bk:=aE.o;have bu:=aU.o;show _<=_;omega
   have aV:=J9 (fun k (aX:Xe.x k=itR rest)=>qeW W.o aa.o k aX);have aK:=(qbI aa.o).2.1;have bg:=(qbI aa.o).1;have DL:Hid ((rest.drop (itR rest).raw.length).length=x - (itR rest).raw.length):=(by show _=_;rw [Zj,G.o]);rw [G.o] at aK;obtain ⟨e,aY⟩:=N9 (itR rest);rw [aY] at ak aV aK bg DL;obtain ⟨ar,aq,rfl,-⟩:=(ab.o wr T.o).cellAt (j:=0) (by rw [G.o];exact bh);have aT:Hid (∀ g,Below h w g->BytesAt g (some ⟨ar,aq+e.raw.length,none⟩) (rest.drop e.raw.length)):=(fun g y=>qvl (ab.o g y) _);have be:Hid (∀ g,Below h w g->BytesAt g (if E=e.raw.length then some ⟨ar,aq,none⟩ else some ⟨ar,aq+e.raw.length,none⟩) (rest.drop e.raw.length)):=fun g y=>by
    split
    ·exact .inl (Qw (by rw [DL.o];have:=U.o.1;omega))
    ·exact aT.o g y
   have aL:Hid (∀ k:Xe,(z++[k]).length=z.length+1):=fun k=>by simp
   have bo:Hid (x - e.raw.length<=l):=(by have:=aj.o;show _<=_;omega);have bd:Hid (x - e.raw.length<=E - e.raw.length/\E - e.raw.length<=maxLen):=(by have:=U.o;show _/\_;omega);clear aY aa G W ab ag aT
   go_wp2_with fail
   refine ak.mono ?_;rintro ah aA ⟨A1,q,n,r,rfl,aQ,ay,y⟩;obtain ⟨k,aB,aX,bq,av,K,bw⟩:=Fr.box (Fr.nil aA) #[.int .i64 e.kind,.slice A1 e.raw.length q,.string (sB e.m),.slice n e.C.length r,.bool e.al] 45;obtain ⟨bl,V,a7,bi,aF,ac,bB⟩:=Fr.box av #[.int .i64 e.kind,.slice A1 e.raw.length q,.string (sB e.m),.slice n e.C.length r,.bool e.al] 45;obtain rfl:bl=k+1:=by omega
   have af:qc1 aA h ⟨e,A1,q,n,r⟩:=⟨aQ.lift O.o,qaf.lift ay O.o⟩;have a2:Hid (∀ aW∈[(⟨e,A1,q,n,r⟩:Xe)],qc1 V h aW):=fun aW bm=>by
    obtain rfl:=QI.1 bm;exact (af.below K).below ac
   have a0:Hid (qdX V (some ⟨k+1,0,none⟩) [(⟨e,A1,q,n,r⟩:Xe)]):=by
    have F:=qqs aB ⟨e,A1,q,n,r⟩ (af.below K).bytes (af.below K).ops;rw [a7] at F;show qdX V _ _;rw [<- bi];exact F
   have a6:=J9 (((Z.o.below y).below K).below ac);have am:=y.trans ((K.trans (ac.mono (by omega))).mono y.size);have aG:Hid (h<=V.heap.size):=Qj O.o am.size;have bc:=J9 (T.o.trans (am.mono O.o));have I3:qas V k e.kind (.slice A1 e.raw.length q) (sB e.m) (.slice n e.C.length r) e.al:=aF.o.2.1;have I2:qas aB k e.kind (.slice A1 e.raw.length q) (sB e.m) (.slice n e.C.length r) e.al:=av.o.1;obtain ⟨bp,bC,br,bz,bA,bs⟩:=I2.cells;have a5:Hid (∀ ad,(Value.slice R M J).ownBlock=some ad->ad≠k):=fun ad aZ=>by
    have a9:=(World.ownsRow.lt Z.o.1 ad aZ).2;have bk:=y.size;omega
   have I3:=J9 I3;clear ak aQ ay y av aF K ac af Z T O am I2
   go_wp2_with (at_builtin;refine qjI a6.o a0.o a2.o aG.o bn.o rfl _ _ rfl rfl rfl 1 rfl rfl ?_;intro aJ aM ai az ao ax;have aN:=J9 az;have bf:Hid (Below h w ai):=bc.o.trans ao;have bj:Hid (h<=ai.heap.size):=Qj aG.o ao.size;have aO:qas ai k e.kind (.slice A1 e.raw.length q) (sB e.m) (.slice n e.C.length r) e.al:=(ax.block k I3.o.lt (fun ah=>a5.o _ ah.symm rfl)).trans I3.o;obtain ⟨bD,bt,bE,bx,bF,bv⟩:=aO.cells;clear az ao ax aO)
   have bb:Hid (qdY ai h (.slice aJ (z.length+1) aM) (z++[(⟨e,A1,q,n,r⟩:Xe)])):=by
    have F:=aN.o;rw [aL.o] at F;exact F
   have a4:=J9 (aV.o ⟨e,A1,q,n,r⟩ rfl);have a1:=J9 (aL.o ⟨e,A1,q,n,r⟩);clear aN;go_roundw
   case rel=>exact ⟨_,_,_,_,aJ,_,aM,_,rfl,rfl,DL.o,bo.o,bd.o,be.o,a1.o,bb.o,a4.o,bf.o,bj.o⟩
   case measure=>simp only [qwV];omega
def qrb (x:Ite):Bool:=decide (x.raw.length<=100)&&decide (x.C.length<=20)&&decide (x.m.length<=100)
def qra (L:List Ite):Bool:=L.all qrb&&decide (L.length<=60)
theorem qhj (R:List Xe) (A:Option Addr) (l cap:Nat) (aa:R.length=l) (am:l<=maxLen) (w:World) (H:qdX w A R) :
  Calls prog 20 #[.slice A l cap] w fun B ai=>B=.returned (.bool (qra (R.map Xe.x)))/\ai=w:=by
 unfold maxLen at am;have y:Hid (∀ b,b<l->∃ e:Xe,ItJ w A e b/\(qrb e.x=false->qra (R.map Xe.x)=false)/\(qrb e.x=true->(∀ a (o:a<R.length),a<b->qrb R[a].x=true)->∀ a (o:a<R.length),a<b+1->qrb R[a].x=true)):=fun b ae=>by
  have V:b<R.length:=by omega
  refine ⟨R[b],H.j V,fun q=>?_,fun q J a o z=>?_⟩
  ·unfold qra
   rw [Bool.and_eq_false_iff];refine .inl (Bool.eq_false_iff.2 fun T=>?_);rw [QA] at T;have:=T _ (List.mem_map_of_mem (QJ V));rw [q] at this;cases this
  ·by_cases B:a=b
   ·subst B;exact q
   ·exact J a o (by omega)
 have K:Hid ((∀ a (o:a<R.length),a<l->qrb R[a].x=true)->qra (R.map Xe.x)=decide (l<=60)):=fun J=>by
  unfold qra;rw [QC,aa];rw [QA.2 fun x au=>?_,Bool.true_and];obtain ⟨e,aq,rfl⟩:=Zq.1 au;obtain ⟨a,z,rfl⟩:=Ze aq;exact J a z (by omega)
 obtain ⟨az,U⟩:=N9 (qra (R.map Xe.x));rw [U] at y K |-;clear H aa U
 go_enter func20,ntmps20
 go_wp2
 go_loopw [3] (fun G wr=>∃ b:Nat,b<=l/\G=.int .i64 b/\Hid (∀ a (o:a<R.length),a<b->qrb R[a].x=true)/\wr=w) (fun G _=>l - (intOf G).toNat)
 case atStart=>exact ⟨0,Qu _,rfl,fun a _ z=>absurd z (Nat.not_lt_zero a),rfl⟩
 case round=>
  obtain ⟨b,ae,rfl,PR,rfl⟩:=hrel;by_cases ar:b<l
  ·obtain ⟨e,⟨av,ay,rfl,ao,ag,aC,an,aj,-,-⟩,ab,Z⟩:=y.o b ar
   have h:Hid (qrb e.x=(decide (e.x.raw.length<=100)&&decide (e.x.C.length<=20)&&decide (e.x.m.length<=100))):=rfl;have j:=J9 ab;have k:=J9 (fun q=>Z q PR.o);have ap:=qaB e.x.m;obtain ⟨ad,M⟩:=N9 (e.x.raw.length);obtain ⟨ah,E⟩:=N9 (e.x.C.length);obtain ⟨ak,O⟩:=N9 (e.x.m.length);rw [M,E,O] at h;rw [M] at ag;rw [E] at an;rw [O] at ap;obtain ⟨aB,W⟩:=N9 (qrb e.x);rw [W] at h j k;clear ab Z M E O W PR y ao aj;by_cases aw:(ad:Int) > 100
   ·have r:=j.o (by rw [h.o];simp;omega)
    subst r;clear j k h;go_wp2;go_ret;exact ⟨rfl,rfl⟩
   ·by_cases ax:(ah:Int) > 20
    ·have r:=j.o (by rw [h.o];simp;omega)
     subst r;clear j k h;go_wp2;go_ret;exact ⟨rfl,rfl⟩
    ·by_cases aA:(ak:Int) > 100
     ·have r:=j.o (by rw [h.o];simp;omega)
      subst r;clear j k h;go_wp2;go_ret;exact ⟨rfl,rfl⟩
     ·have af:=J9 (k.o (by rw [h.o];simp;omega))
      clear j k h;go_wp2;go_roundw
      case rel=>exact ⟨b+1,by omega,by go_num,af.o,by first | rfl | trivial⟩
      case measure=>simp [intOf];omega
  ·obtain rfl:l=b:=by omega
   have ac:=K.o PR.o;subst ac;clear y K PR;go_wp2;go_ret;refine ⟨?_,rfl⟩
   congr 2
   simp;omega
end Go.Proofs.YtecpnfhpcamljaaGreatDoor
namespace Go.Proofs.YtecpnfhpcamljaaGreatDoor
open Tryz
open Go.RowKit
attribute [local go_sem] Oper.semAt_some
theorem qk1 (s:ByteArray) (w:World) :
  Calls prog 19 #[.string s,.string ⟨#[44]⟩] w fun e h=>e=.returned (.int .i64 (s.data.toList.count 44:Nat))/\w=h:=by
 have q:(⟨#[44]⟩:ByteArray).size=1:=rfl
 go_enter func19,ntmps19
 go_wp2;rw [run_callFunc_extern func52 (by kernel_rfl) (by kernel_rfl) (by kernel_rfl) (e:=Extern.BytealgCount.count) (by kernel_rfl)];rw [Lib.run_countString];simp only [Result.andThen];rw [Oper.upon_value];go_wp2;go_ret;exact ⟨rfl,rfl⟩
theorem qkz (s:ByteArray) (w:World) :
  Calls prog 19 #[.string s,.string ⟨#[10]⟩] w fun e h=>e=.returned (.int .i64 (s.data.toList.count 10:Nat))/\w=h:=by
 have q:(⟨#[10]⟩:ByteArray).size=1:=rfl
 go_enter func19,ntmps19
 go_wp2;rw [run_callFunc_extern func52 (by kernel_rfl) (by kernel_rfl) (by kernel_rfl) (e:=Extern.BytealgCount.count) (by kernel_rfl)];rw [Lib.run_countString];simp only [Result.andThen];rw [Oper.upon_value];go_wp2;go_ret;exact ⟨rfl,rfl⟩
theorem qhU (s:ByteArray) (w:World) :
  Calls prog 73 #[.string s,.string ⟨#[10]⟩] w fun q e=>q=.returned (.int .i64 (Lib.indexByte s.data.toList 10))/\w=e:=by
 have G:(⟨#[10]⟩:ByteArray).size=1:=rfl;obtain ⟨z,E⟩:=N9 ((([10]:List UInt8) == s.toList));cases z
 ·go_enter func73,ntmps73
  go_wp2_with fail
  refine (qfT s 10 _).mono ?_;rintro q e ⟨rfl,rfl⟩;go_wp2;go_ret;exact ⟨rfl,rfl⟩
 ·have y:Hid (Lib.indexByte s.data.toList 10=0):=by
   show _=_;have h:=eq_of_beq E;rw [QO] at h;rw [<- h];rfl
  go_enter func73,ntmps73
  go_wp2;go_ret;rw [y.o];exact ⟨rfl,rfl⟩
theorem qlg (s:ByteArray) (w:World) :
  Calls prog 39 #[.string s,.string ⟨#[10]⟩] w fun h e=>h=.returned (.int .i64 (Lib.indexByte s.data.toList 10))/\w=e:=by
 go_enter func39,ntmps39
 go_wp2_with fail
 refine (qhU s _).mono ?_;rintro h e ⟨rfl,rfl⟩;go_wp2;go_ret;exact ⟨rfl,rfl⟩
theorem qyR (c:UInt8):∀ k:List UInt8,c∉k->Lib.indexByte k c=-1
 | [],_=>rfl
 | a :: e,l=>by
  have q:a≠c:=fun h=>l (by rw [h];exact QD)
  have x:=qyR c e fun y=>l (QG _ y)
  have h:Lib.indexByte (a :: e) c=if a == c then (0:Int) else if Lib.indexByte e c == -1 then -1 else Lib.indexByte e c+1:=rfl
  rw [h,x,Qe (by simpa using q)];rfl
theorem qgK (x:List UInt8) (y:(10:UInt8)∉x) (w:World) :
  Calls prog 13 #[.string (sB x),.string ⟨#[10]⟩] w fun e q=>e=.returned (.bool false)/\w=q:=by
 have h:=qlg (sB x) w;have e:(sB x).data.toList=x:=by simp [sB]
 rw [e,qyR 10 x y] at h;obtain ⟨z,s⟩:=N9 (sB x);rw [s] at h |-;clear e s y
 go_enter func13,ntmps13
 go_wp2_with fail
 refine h.mono ?_;rintro e q ⟨rfl,rfl⟩;clear h;go_wp2;go_ret;exact ⟨rfl,rfl⟩
theorem qdK (s:ByteArray) (A:Option Addr) (cap n:Nat) (w:World) :
  Calls prog 9 #[.agg #[.string s,.slice A n cap]] w fun J z=>J=.returned (.bool (decide (s.size<=100)&&decide (n<=20)))/\Below w.heap.size w z:=by
 have y:Hid (Below w.heap.size w (w.alloc (.cells #[.string s,.slice A n cap] 24))):=B0;by_cases e:s.size<=100
 ·have E:((s.size:Int)<=100):=by omega
  by_cases q:n<=20
  ·have G:((n:Int)<=20):=by omega
   have h:Hid (true=(decide (s.size<=100)&&decide (n<=20))):=(by show _=_;rw [Qn e,Qn q];rfl);clear e q
   go_enter func9,ntmps9
   go_wp2;go_ret;exact ⟨qab h.o,y.o⟩
  ·have G:¬((n:Int)<=20):=by omega
   have h:Hid (false=(decide (s.size<=100)&&decide (n<=20))):=(by show _=_;rw [Qn e,Qh q];rfl);clear e q
   go_enter func9,ntmps9
   go_wp2;go_ret;exact ⟨qab h.o,y.o⟩
 ·have E:¬((s.size:Int)<=100):=by omega
  have h:Hid (false=(decide (s.size<=100)&&decide (n<=20))):=by show _=_;rw [Qh e];rfl
  clear e
  go_enter func9,ntmps9
  go_wp2;go_ret;exact ⟨qab h.o,y.o⟩
theorem qt8 {R:List Xe} (h:qra (R.map Xe.x)=true):R.length<=60/\∀ q∈R,qcj q.x:=by
 unfold qra at h;simp only [Qd,Qf,QC,QA] at h;refine ⟨h.2,fun q y=>?_⟩;have r:=h.1 q.x (List.mem_map_of_mem y);unfold qrb at r;simp only [Qd,Qf] at r;exact ⟨by omega,by omega,by omega⟩
end Go.Proofs.YtecpnfhpcamljaaGreatDoor
namespace Go.Proofs.YtecpnfhpcamljaaGreatDoor
open Tryz
open Go.RowKit Go.Shelf
attribute [local go_sem] Oper.semAt_some
theorem qx9 (a:Int) (A:Option Addr) (cap:Nat) (R:List Xe) (w:World) (ae:R.length<=maxLen) (H:qdX w A R) (E:qad w) :
  Calls prog 7 #[.int .i64 a,.slice A R.length cap] w fun h c=>h=.returned (.bool true)/\Below w.heap.size w c:=by
 obtain ⟨M,l⟩:=N9 (R.length);have y:=qhj R A M cap l (by omega) w H;rw [l];have K:=J9 (fun c (t:Below w.heap.size w c)=>qbw c (E.below t));have G:=J9 (qt8 (R:=R));obtain ⟨ao,O⟩:=N9 (qra (R.map Xe.x));rw [O] at y G;cases ao with
 | false=>
  clear H E ae l O G
  go_enter func7,ntmps7
  go_wp2_with fail
  refine y.mono ?_;rintro h T ⟨rfl,rfl⟩;have ah:=K.o T (Qc _ _);clear y K
  go_wp2_with fail
  refine ah.mono ?_;rintro h af ⟨rfl,e⟩;have q:=J9 e;clear ah e;go_wp2;go_ret;exact ⟨rfl,q.o⟩
 | true=>
  obtain ⟨ak,U⟩:=G.o rfl;have W:=J9 (fun c (t:Below w.heap.size w c)=>qnr a R A M cap l (by omega) U c (E.below t) (H.below t));have V:=J9 (fun c (t:Below w.heap.size w c)=>qnk a R A M cap l (by omega) U c (H.below t));have ab:=qiZ (R.map Xe.x) a;rw [QC,l] at ab;have z:=J9 (fun c=>qkz (sB (qdW a (R.map Xe.x))) c);have h:(sB (qdW a (R.map Xe.x))).data.toList=qdW a (R.map Xe.x):=by simp [sB]
  rw [h] at z;obtain ⟨aj,aa⟩:=N9 ((qdW a (R.map Xe.x)).count 10);rw [aa] at z ab;obtain ⟨ap,ad⟩:=N9 (sB (qdW a (R.map Xe.x)));rw [ad] at W V z;have ar:=qAZ ap;have av:(aj:Int)<=(M:Int):=by omega
  clear H E ae l O G U h aa ad ak
  go_enter func7,ntmps7
  go_wp2_with fail
  refine y.mono ?_;rintro h T ⟨rfl,rfl⟩;have ac:=W.o T (Qc _ _);clear y W
  go_wp2_with fail
  refine ac.mono ?_;rintro h af ⟨rfl,e⟩;have q:=J9 e;have ai:=K.o af q.o;clear ac e K
  go_wp2_with fail
  refine ai.mono ?_;rintro h aq ⟨rfl,e⟩;have J:=J9 (q.o.trans (e.mono q.o.size));have ag:=V.o aq J.o;clear ai e V q
  go_wp2_with fail
  refine ag.mono ?_;rintro h an ⟨rfl,e⟩;have am:=J9 (J.o.trans (e.mono J.o.size));have Z:=z.o an;clear ag e J z
  go_wp2_with fail
  refine Z.mono ?_;rintro h au ⟨rfl,rfl⟩;clear Z;go_wp2;go_ret;exact ⟨rfl,am.o⟩
theorem qxw (A:Option Addr) (cap:Nat) (b:Str) (w:World) (V:b.length<=maxLen) (H:BytesAt w A b) (J:qad w) :
  Calls prog 5 #[.slice A b.length cap] w fun e h=>e=.returned (.bool true)/\Below w.heap.size w h:=by
 obtain ⟨l,t⟩:=N9 (b.length);rw [t] at V |-;have z:=J9 (fun h (K:Below w.heap.size w h)=>qbw h (J.below K));by_cases ab:l<=300
 ·have ag:(l:Int)<=300:=by omega
  have O:=J9 (qlJ A l cap b t (by omega) w H);have M:=J9 (fun h (K:Below w.heap.size w h)=>qi3 A l cap b t (by omega) h (H.below K));have E:=J9 (fun h=>qk1 (sB (dataB b)) h);have e:(sB (dataB b)).data.toList=dataB b:=by simp [sB]
  rw [e,qnx,t] at E;obtain ⟨ah,U⟩:=N9 (sB (dataB b));rw [U] at O M E;have aj:=qAZ ah;have ac:max ((l:Int) - 1) 0=((l - 1:Nat):Int):=by omega
  clear H J V t ab U e
  go_enter func5,ntmps5
  go_wp2_with fail
  refine O.o.mono ?_;rintro e W ⟨rfl,c⟩;have q:=J9 c;have ad:=z.o W q.o;clear O c z
  go_wp2_with fail
  refine ad.mono ?_;rintro e ai ⟨rfl,c⟩;have y:=J9 (q.o.trans (c.mono q.o.size));have Z:=M.o ai y.o;clear ad c M q
  go_wp2_with fail
  refine Z.mono ?_;rintro e af ⟨rfl,c⟩;have ae:=J9 (y.o.trans (c.mono y.o.size));have G:=E.o af;obtain ⟨ak,T⟩:=N9 (l - 1);rw [T] at G ac;clear Z c y E T
  go_wp2_with fail
  refine G.mono ?_;rintro e am ⟨rfl,rfl⟩;clear G;go_wp2;go_ret;exact ⟨by first | rfl | (simp [ac];done) | (simp;omega),ae.o⟩
 ·have ag:¬(l:Int)<=300:=by omega
  have aa:=z.o w (Qc _ _);clear H J t ab z
  go_enter func5,ntmps5
  go_wp2_with fail
  refine aa.mono ?_;rintro e W ⟨rfl,c⟩;have q:=J9 c;clear aa c;go_wp2;go_ret;exact ⟨rfl,q.o⟩
end Go.Proofs.YtecpnfhpcamljaaGreatDoor
