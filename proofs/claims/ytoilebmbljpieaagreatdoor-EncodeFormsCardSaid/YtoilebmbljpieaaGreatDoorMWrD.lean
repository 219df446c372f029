/-
  (*writer).write: the bytes of an entry are appended to a writer without bytes.
-/
import Derived.Test.YtoilebmbljpieaaGreatDoorGAG
import Derived.Test.YtoilebmbljpieaaGreatDoorMWrC
import Derived.WalkSmall
import Derived.Deep.DeepCutAuto
import Derived.Test.YtoilebmbljpieaaGreatDoorGAA
import Derived.Laws.RangeString
import Derived.Laws.RangeAny
set_option linter.all false
set_option maxRecDepth 100000
set_option maxHeartbeats 4000000
namespace Go.Proofs.YtoilebmbljpieaaGreatDoor
open Go.RowKit Go.Shelf
attribute [local go_sem] Oper.semAt_some
attribute [local irreducible] Go.Mixed.wpMix
theorem trimD_sl (w:World):Calls Tryz.prog 113 #[.string ⟨#[100]⟩,.string ⟨#[100]⟩] w fun e w'=>e=.returned (.string ⟨#[]⟩)∧w'=w:=by
 have hp:=fun w=>hasPrefix_any ⟨#[100]⟩ ⟨#[100]⟩ (by decide) (by decide) w
 rw [show preB (⟨#[100]⟩:ByteArray) ⟨#[100]⟩=true from by decide +kernel] at hp
 go_enter Tryz.func113,Tryz.ntmps113
 go_wp2_with fail
 refine (hp w).mono ?_
 rintro e w' ⟨rfl,rfl⟩
 clear hp
 go_wp2
 go_ret
 exact ⟨rfl,rfl⟩
theorem trimD_any (w:World):Calls Tryz.prog 81 #[.string ⟨#[100]⟩,.string ⟨#[100]⟩] w fun e w'=>e=.returned (.string ⟨#[]⟩)∧w'=w:=by
 go_enter Tryz.func81,Tryz.ntmps81
 go_wp2_with fail
 refine (trimD_sl w).mono ?_
 rintro e w' ⟨rfl,rfl⟩
 go_wp2
 go_ret
 exact ⟨rfl,rfl⟩
def base0 (page:Int) (d:Int):Str:=preS page++if 5≤page then [byteI d] else []
def behS (page:Int) (ex:Str):Str:=if 5≤page then [] else ex
theorem byteI_u8 (c:UInt8):byteI (c.toNat:Int)=c:=by
 have h:=byteI_nat (c.toNat:Int)
 have:=c.toNat_lt
 refine UInt8.toNat_inj.1 ?_
 omega
theorem enc_base (page:Int) (op:UInt8) (ex:Str) (d n:Int):encB page (op.toNat:Int) ex d n=base0 page d++[op]++(behS page ex).flatMap (letB d n):=by
 unfold encB base0 behS
 rw [byteI_u8]
 by_cases h:5≤page
 ·simp [if_pos h]
 ·simp [if_neg h]
theorem pre_len (page:Int):(preS page).length≤2:=by
 unfold preS
 repeat' split
 all_goals simp
theorem next_at {w:World} {it:Nat} {s2:Str} {j:Nat} (hk:w.heap[it]?=some (.stringIter (sB s2) j)) (hj:j<s2.length) (c:Nat) (hc:s2[j].toNat=c) (h:c<128) :
  ∀ ty,(Instr.next (.pointer (some ⟨it,0,none⟩)) true ty).run Tryz.prog w=.ok (.tuple #[.bool true,.int .i64 j,.int .i32 (c:Int)]) (w.iterAt it (sB s2) (j+1)):=fun ty=>by
 have hz:j<(sB s2).size:=by rw [sB_size];exact hj
 have e:(sB s2)[j]=s2[j]:=sB_at s2 j hz hj
 have hc2:((sB s2)[j]).toNat=c:=(congrArg UInt8.toNat e).trans hc
 rw [Lib.run_next_ascii_at w it (sB s2) j ty hk hz (by rw [hc2];exact h),hc2]
structure WrL (w wr:World) (B b it g:Nat) (h:Wri) (s2 base:Str) (d n:Int) (j:Nat):Prop where
 le:j≤s2.length
 iter:wr.heap[it]?=some (.stringIter (sB s2) j)
 wrt:WrAt wr B b h (base++(s2.take j).flatMap (letB d n))
 pt:PtAt wr g b
 bel:Below B w wr
structure WrF (B b it g:Nat) (s2 base:Str):Prop where
 hB:B≤b
 hit:b<it
 hg:b<g
 hgi:g<it
 lb:base.length≤10
 ls:s2.length≤2
theorem flat_le (s2:Str) (d n:Int) (j:Nat) (h:s2.length≤2):((s2.take j).flatMap (letB d n)).length≤4:=by
 have hle:∀ t:Str,(t.flatMap (letB d n)).length≤2*t.length:=fun t=>by
  induction t with
  | nil=>simp
  | cons c t ih=>
   rw [List.flatMap_cons,List.length_append,List.length_cons]
   have:(letB d n c).length≤2:=by unfold letB;split <;> (try split) <;> simp
   omega
 have:=hle (s2.take j)
 have h2:=hle (s2.take j)
 rw [List.length_take] at h2
 omega
theorem WrL.len {w wr:World} {B b it g:Nat} {h:Wri} {s2 base:Str} {d n:Int} {j:Nat} (H:WrL w wr B b it g h s2 base d n j) (F:WrF B b it g s2 base):(base++(s2.take j).flatMap (letB d n)).length≤1000:=by
 have:=flat_le s2 d n j F.ls
 have:=F.lb
 rw [List.length_append]
 omega
theorem WrL.next {w wr:World} {B b it g:Nat} {h:Wri} {s2 base:Str} {d n:Int} {j:Nat} (H:WrL w wr B b it g h s2 base d n j) (F:WrF B b it g s2 base) :
  WrAt (wr.iterAt it (sB s2) (j+1)) B b h (base++(s2.take j).flatMap (letB d n))∧PtAt (wr.iterAt it (sB s2) (j+1)) g b∧Below B w (wr.iterAt it (sB s2) (j+1))∧(wr.iterAt it (sB s2) (j+1)).heap[it]?=some (.stringIter (sB s2) (j+1)):=by
 have h1:=F.hB
 have h2:=F.hit
 have h3:=F.hgi
 refine ⟨?_,?_,Lib.below_iterAt H.bel (by omega) _ _,Lib.iterAt_heap _ _ _ _ _ H.iter⟩
 ·obtain ⟨A,c,k,o⟩:=H.wrt
  refine ⟨A,c,(Lib.iterAt_other _ _ _ _ _ (by omega)).trans k,o.1,?_⟩
  rcases o.2 with e | ⟨g',cap,cur,e1,e2,e3,e4⟩
  ·exact .inl e
  ·refine .inr ⟨g',cap,cur,e1,e2,(Lib.iterAt_other _ _ _ _ _ (fun e=>?_)).trans e3,e4⟩
   subst e
   have:=H.iter
   rw [e3] at this
   simp at this
 ·obtain ⟨es,clock,hb,r⟩:=H.pt
  exact ⟨es,clock,(Lib.iterAt_other _ _ _ _ _ (by omega)).trans hb,r⟩
theorem WrL.put {w wr w':World} {B b it g:Nat} {h:Wri} {s2 base:Str} {d n:Int} {j:Nat} (H:WrL w wr B b it g h s2 base d n j) (F:WrF B b it g s2 base) (hj:j<s2.length)
  (X:WrAt w' B b h (base++(s2.take j).flatMap (letB d n)++letB d n s2[j])) (hb:Below B (wr.iterAt it (sB s2) (j+1)) w') (K:WKp b (wr.iterAt it (sB s2) (j+1)) w'):WrL w w' B b it g h s2 base d n (j+1):=by
 obtain ⟨n1,n2,n3,n4⟩:=H.next F
 have h2:=F.hit
 have h3:=F.hgi
 have h4:=F.hg
 refine ⟨hj,?_,?_,n2.kept (by omega) K,n3.trans hb⟩
 ·exact (K.same it (Array.getElem?_eq_some_iff.1 n4).1 (by omega) (fun cur e=>by rw [n4] at e;cases e)).trans n4
 ·have e:base++(s2.take (j+1)).flatMap (letB d n)=base++(s2.take j).flatMap (letB d n)++letB d n s2[j]:=by
   rw [List.take_succ_eq_append_getElem hj,List.flatMap_append,List.append_assoc]
   simp
  rw [e]
  exact X
theorem wr_start {w w0:World} {B b g:Nat} {h:Wri} {s2 base:Str} {d n:Int} (X:WrAt w0 B b h base) (P:PtAt w0 g b) (hb:Below B w w0) (hB:B≤w0.heap.size):WrL w (w0.iter (sB s2) 0) B b w0.heap.size g h s2 base d n 0:=by
 have hal:Below w0.heap.size w0 (w0.iter (sB s2) 0):=upA w0 _
 refine ⟨Nat.zero_le _,World.iter_heap _ _ _,?_,P.below hal,hb.trans (hal.mono hB)⟩
 have:=X.below hal
 simpa using this
theorem wwrite_any (B b:Nat) (page:Int) (op:UInt8) (m:Str) (v:Value) (ex:Str) (al:Bool) (d n:Int) (hpg:page≤6) (hhi:5≤page→ex=[100]) (hlen:(behS page ex).length≤2) (hlet:∀ k (hk:k<(behS page ex).length),(behS page ex)[k]=100∨(behS page ex)[k]=101∨(behS page ex)[k]=110∨(behS page ex)[k]=119) (w:World) (H:WrAt w B b ⟨page,(op.toNat:Int),m,v,ex,al,d,n⟩ []) (hB:B≤b) :
  Calls Tryz.prog 42 #[.pointer (some ⟨b,0,none⟩)] w fun e w'=>e=.returned (.tuple #[])∧WrAt w' B b ⟨page,(op.toNat:Int),m,v,ex,al,d,n⟩ (encB page (op.toNat:Int) ex d n)∧Below B w w':=by
 obtain ⟨h,hh⟩:∃ h:Wri,(⟨page,(op.toNat:Int),m,v,ex,al,d,n⟩:Wri)=h:=⟨_,rfl⟩
 have hp0:h.page=page:=by rw [← hh]
 have hp1:h.op=(op.toNat:Int):=by rw [← hh]
 have hp4:h.ex=ex:=by rw [← hh]
 have hp6:h.d=d:=by rw [← hh]
 have hp7:h.n=n:=by rw [← hh]
 rw [hh] at H ⊢
 have WC:Hid (∀ (w:World) (u:Value),w.heap[b]?=some (.cells (h.cells u) 87 (0,0))→w.cell? ⟨b,0,none⟩=some (.int .i64 page)∧w.cell? ⟨b,1,none⟩=some (.int .u8 (op.toNat:Int))∧w.cell? ⟨b,4,none⟩=some (.string (sB ex))∧w.cell? ⟨b,8,none⟩=some u∧w.frozen? ⟨b,8,none⟩=false):=fun w u k=>by
  obtain ⟨k0,k1,k2,k3,k4,k5,k6⟩:=wr_cells k
  rw [hp0] at k0
  rw [hp1] at k1
  rw [hp4] at k2
  exact ⟨k0,k1,k2,k5,k6⟩
 have WD:Hid (∀ xs,xs.length≤1000→∀ w,WrAt w B b h xs→Calls Tryz.prog 80 #[.pointer (some ⟨b,0,none⟩)] w (RetPut w B b h (xs++[byteI d]))):=fun xs hx w H=>by rw [← hp6];exact wdisp_any B b h xs hx w H hB
 have WB:Hid (∀ xs,xs.length≤1000→∀ w,WrAt w B b h xs→Calls Tryz.prog 114 #[.pointer (some ⟨b,0,none⟩)] w (RetPut w B b h (xs++[byteI n]))):=fun xs hx w H=>by rw [← hp7];exact wbyte_any B b h xs hx w H hB
 have WW:Hid (∀ xs,xs.length≤1000→∀ w,WrAt w B b h xs→Calls Tryz.prog 115 #[.pointer (some ⟨b,0,none⟩)] w (RetPut w B b h (xs++[byteI n,byteI (n / 256)]))):=fun xs hx w H=>by rw [← hp7];exact wword_any B b h xs hx w H hB
 have EB:=Lib.hid (enc_base page op ex d n)
 obtain ⟨s2,hs2⟩:∃ z,behS page ex=z:=⟨_,rfl⟩
 rw [hs2] at EB hlen hlet
 have HL:=Lib.hid hlet
 have HS2:=Lib.hid hs2
 have HHI:=Lib.hid hhi
 clear hlet hs2 hhi
 obtain ⟨bs,hbs⟩:∃ z,encB page (op.toNat:Int) ex d n=z:=⟨_,rfl⟩
 rw [hbs] at EB ⊢
 have hbw:=H.lt
 obtain ⟨A,c,k,o⟩:=H
 obtain ⟨pre,hpre⟩:∃ z,preS page=z:=⟨_,rfl⟩
 have hpl:=pre_len page
 rw [hpre] at hpl
 have PR:=Lib.hid (fun w=>prefixes_any page w)
 rw [hpre] at PR
 have HPRE:=Lib.hid hpre
 have K:=Lib.hid k
 have O:=Lib.hid o
 simp only [List.length_nil] at K O
 clear k o hpre hh hp0 hp1 hp4 hp6 hp7 hbs
 go_enter Tryz.func42,Tryz.ntmps42
 go_upto_region 0 with fail
 obtain ⟨w1,hw1⟩:∃ z,w.drew=z:=⟨_,rfl⟩
 have hd:Below w.heap.size w w1:=by rw [← hw1];exact below_drewN w _ 1
 have K1:Hid (w1.heap[b]?=some (.cells (h.cells (.slice A 0 c)) 87 (0,0))):=(hd.block b hbw).trans K.out
 have O1:=Lib.hid (O.out.below hd)
 have B1:=Lib.hid hd
 clear hd K O
 refine Mixed.wp_region_mixed (fun w'=>w'.heap[b]?=some (.cells (h.cells (.slice A 0 c)) 87 (0,0))) 12 [(0,true),(1,true),(2,true),(3,true),(4,true),(5,true),(6,true),(7,true),(8,true),(9,true),(10,false),(11,false)] (by kernel_rfl) (by kernel_rfl) (by rw [hw1];exact K1.out) ?_
 rw [hw1]
 clear hw1
 refine Mixed.wpMix_pure rfl (by kernel_rfl) (.pointer (some ⟨b,0,none⟩)) (fun w h=>by clear h;go_simp;try rfl) ?_
 refine Mixed.wpMix_pure rfl (by kernel_rfl) (.pointer (some ⟨b,0,none⟩)) (fun w h=>by clear h;go_simp;try rfl) ?_
 refine Mixed.wpMix_pure rfl (by kernel_rfl) (.pointer (some ⟨b,0,none⟩)) (fun w h=>by clear h;go_simp;try rfl) ?_
 refine Mixed.wpMix_pure rfl (by kernel_rfl) (.pointer (some ⟨b,8,none⟩)) (fun w h=>by clear h;go_simp;try rfl) ?_
 refine Mixed.wpMix_pure rfl (by kernel_rfl) (.slice A 0 c) (fun w h=>by obtain ⟨h0,h1,h2,h5,h6⟩:=WC.out w _ h;clear h;go_simp;try rfl) ?_
 refine Mixed.wpMix_pure rfl (by kernel_rfl) (.pointer (some ⟨b,0,none⟩)) (fun w h=>by clear h;go_simp;try rfl) ?_
 refine Mixed.wpMix_pure rfl (by kernel_rfl) (.pointer (some ⟨b,0,none⟩)) (fun w h=>by clear h;go_simp;try rfl) ?_
 refine Mixed.wpMix_pure rfl (by kernel_rfl) (.pointer (some ⟨b,0,none⟩)) (fun w h=>by clear h;go_simp;try rfl) ?_
 refine Mixed.wpMix_pure rfl (by kernel_rfl) (.pointer (some ⟨b,0,none⟩)) (fun w h=>by clear h;go_simp;try rfl) ?_
 refine Mixed.wpMix_pure rfl (by kernel_rfl) (.int .i64 page) (fun w h=>by obtain ⟨h0,h1,h2,h5,h6⟩:=WC.out w _ h;clear h;go_simp;try rfl) ?_
 refine Mixed.wpMix_loud rfl ?_
 have L1:=PR.out w1
 clear PR
 go_wp2_with fail
 refine L1.mono ?_
 rintro e w2 ⟨v2,rfl,hO2,hb⟩
 have hbw1:b<w1.heap.size:=(Array.getElem?_eq_some_iff.1 K1.out).1
 have K2:Hid (w2.heap[b]?=some (.cells (h.cells (.slice A 0 c)) 87 (0,0))):=(hb.block b hbw1).trans K1.out
 have O2:=Lib.hid (O1.out.below hb)
 have B2:Hid (Below w.heap.size w w2):=B1.out.trans (hb.mono B1.out.size)
 obtain ⟨A2,c2,rfl,hP⟩:=hO2.bytes
 obtain ⟨lp,hlp⟩:∃ z,pre.length=z:=⟨_,rfl⟩
 rw [hlp] at hpl ⊢
 have HLP:=Lib.hid hlp
 have P2:=Lib.hid hP
 clear K1 O1 B1 L1 hP hb hbw1 hO2 hlp
 go_wp2
 refine ⟨K2.out,?_⟩
 refine Mixed.wpMix_loud rfl ?_
 have Z2:Hid (B≤w2.heap.size):=by have:=B2.out.size;show _≤_;omega
 refine wpList_appBsG (xs:=[]) (ys:=pre) O2.out P2.out Z2.out (by have:=HLP.out;simp;omega) rfl _ _ rfl rfl rfl lp HLP.out rfl lp (by simp) ?_
 intro A3 c3 w3 h1 h2 h3
 have K3:Hid (w3.heap[b]?=some (.cells (h.cells (.slice A 0 c)) 87 (0,0))):=(h3.block b (by have:=B2.out.size;omega) (fun e=>by
  obtain ⟨cur,hc⟩:=own_u8 O2.out e.symm
  rw [K2.out] at hc
  simp at hc)).trans K2.out
 have O3:=Lib.hid h1
 have B3:Hid (Below B w w3):=(B2.out.mono (by omega)).trans h2
 clear h1 h2 h3 O2 P2 B2 Z2 K2
 go_wp2
 refine ⟨K3.out,?_⟩
 simp only [Mixed.wpMix]
 obtain ⟨e0,e1,e2,e5,e6⟩:=WC.out _ _ K3.out
 have F:Hid (WrAt (w3.setCell ⟨b,8,none⟩ (.slice A3 lp c3)) B b h pre∧Below B w (w3.setCell ⟨b,8,none⟩ (.slice A3 lp c3))):=by
  have o3:=O3.out
  rw [← HLP.out,List.nil_append] at o3
  rw [← HLP.out]
  exact ⟨wr_store K3.out o3,B3.out.setCell (by simpa using hB) _⟩
 clear e0 e1 e2 K3 O3 B3
 go_upto_region 1 with fail
 obtain ⟨w4,hw4⟩:∃ z,w3.setCell ⟨b,8,none⟩ (.slice A3 lp c3)=z:=⟨_,rfl⟩
 rw [hw4] at F ⊢
 obtain ⟨X4,B4⟩:=F.out
 have X4:=Lib.hid X4
 have B4:=Lib.hid B4
 clear hw4 F e5 e6
 obtain ⟨A4,c4,k4,-⟩:=X4.out
 obtain ⟨e0,e1,e2,e5,e6⟩:=WC.out _ _ k4
 clear k4 e5 e6 e1
 have hlp3:pre.length≤2:=by rw [HLP.out];exact hpl
 by_cases h5:5≤page
 case' pos=>
  obtain rfl:=HHI.out h5
  have e2':w4.cell? ⟨b,4,none⟩=some (.string ⟨#[100]⟩):=e2
  have S2:Hid (s2=[]):=by show s2=[];rw [← HS2.out];unfold behS;rw [if_pos h5]
  have HBS:Hid (bs=(pre++[byteI d])++[op]++s2.flatMap (letB d n)):=by show bs=_;rw [EB.out];unfold base0;rw [if_pos h5,HPRE.out]
  have C1:=WD.out pre (by omega) w4 X4.out
  have t5:((page == 5)=true)∨((page == 5)=false∧(page == 6)=true):=by
   rcases (by omega:page=5∨page=6) with rfl | rfl
   ·exact .inl rfl
   ·exact .inr ⟨rfl,rfl⟩
  obtain ⟨bas,hbas⟩:∃ z,pre++[byteI d]=z:=⟨_,rfl⟩
  rw [hbas] at HBS C1
  have hbl:bas.length≤4:=by rw [← hbas,List.length_append];simp;omega
  clear e2 X4 hbas EB HHI HS2 h5
  rcases t5 with t5 | ⟨t5,t6⟩
 case' neg=>
  have S2:Hid (s2=ex):=by show s2=ex;rw [← HS2.out];unfold behS;rw [if_neg h5]
  obtain rfl:s2=ex:=S2.out
  have t5:(page == 5)=false:=beq_eq_false_iff_ne.2 (by omega)
  have t6:(page == 6)=false:=beq_eq_false_iff_ne.2 (by omega)
  have HBS:Hid (bs=pre++[op]++s2.flatMap (letB d n)):=by show bs=_;rw [EB.out];unfold base0;rw [if_neg h5,HPRE.out,List.append_nil]
  obtain ⟨bas,hbas⟩:∃ z,pre=z:=⟨_,rfl⟩
  rw [hbas] at HBS X4
  have hbl:bas.length≤4:=by rw [← hbas];omega
  clear S2 hbas EB HHI HS2 h5
  go_upto_region 7 with fail
  have X7:=X4
  have B7:=B4
  obtain ⟨w7,hw7⟩:∃ z,w4=z:=⟨_,rfl⟩
  rw [hw7] at X7 B7 ⊢
  clear X4 B4 hw7
 case' pos.inl=>
  go_wp2_with fail
  refine C1.mono ?_
  rintro e w5 ⟨rfl,hX,hb,-⟩
  have X7:=Lib.hid hX
  have B7:=Lib.hid (B4.out.trans hb)
  clear hX hb C1
  go_wp2_with fail
  refine (trimD_any w5).mono ?_
  rintro e w7 ⟨rfl,hw⟩
  subst hw
  go_upto_region 7 with fail
  rw [show (⟨#[]⟩:ByteArray)=sB s2 from by rw [S2.out];rfl]
 case' pos.inr=>
  go_wp2_with fail
  refine C1.mono ?_
  rintro e w5 ⟨rfl,hX,hb,-⟩
  have X7:=Lib.hid hX
  have B7:=Lib.hid (B4.out.trans hb)
  clear hX hb C1
  go_wp2_with fail
  refine (trimD_any w5).mono ?_
  rintro e w7 ⟨rfl,hw⟩
  subst hw
  go_upto_region 7 with fail
  rw [show (⟨#[]⟩:ByteArray)=sB s2 from by rw [S2.out];rfl]
 all_goals
  clear e0
  have hX7:=X7.out
  obtain ⟨A7,c7,k7,o7⟩:=hX7
  obtain ⟨lb,hlb⟩:∃ z,bas.length=z:=⟨_,rfl⟩
  rw [hlb] at k7 o7 hbl
  have HLB:=Lib.hid hlb
  have hbw7:b<w7.heap.size:=X7.out.lt
  have K:=Lib.hid k7
  have O:=Lib.hid o7
  clear k7 o7 hlb X7
  obtain ⟨w8,hw8⟩:∃ z,w7.drew=z:=⟨_,rfl⟩
  have hd:Below w7.heap.size w7 w8:=by rw [← hw8];exact below_drewN w7 _ 1
  have K1:Hid (w8.heap[b]?=some (.cells (h.cells (.slice A7 lb c7)) 87 (0,0))):=(hd.block b hbw7).trans K.out
  have O1:=Lib.hid (O.out.below hd)
  have B1:Hid (Below B w w8):=B7.out.trans (hd.mono (by omega))
  have hal:=upA w8 (.cells #[.int .u8 (op.toNat:Int)] 5)
  have P9:=Lib.hid (bytes_new1 w8 op)
  have K9:Hid ((w8.alloc (.cells #[.int .u8 (op.toNat:Int)] 5)).heap[b]?=some (.cells (h.cells (.slice A7 lb c7)) 87 (0,0))):=(hal.block b (by have:=hd.size;omega)).trans K1.out
  have O9:=Lib.hid (O1.out.below hal)
  have B9:Hid (Below B w (w8.alloc (.cells #[.int .u8 (op.toNat:Int)] 5))):=B1.out.trans (hal.mono (by have:=hd.size;omega))
  have Z9:Hid (B≤(w8.alloc (.cells #[.int .u8 (op.toNat:Int)] 5)).heap.size):=by have:=hd.size;have:=hal.size;show _≤_;omega
  have hb9:b<(w8.alloc (.cells #[.int .u8 (op.toNat:Int)] 5)).heap.size:=by have:=hd.size;have:=hal.size;omega
  clear hd hal K O B7 O1 B1
  refine Mixed.wp_region_mixed (fun w'=>w'.heap[b]?=some (.cells (h.cells (.slice A7 lb c7)) 87 (0,0))) 12 [(0,true),(1,true),(2,true),(3,true),(4,true),(5,true),(6,true),(7,true),(8,true),(9,true),(10,false),(11,false)] (by kernel_rfl) (by kernel_rfl) (by rw [hw8];exact K1.out) ?_
  rw [hw8]
  clear hw8
  refine Mixed.wpMix_pure rfl (by kernel_rfl) (.pointer (some ⟨b,0,none⟩)) (fun w h=>by clear h;go_simp;try rfl) ?_
  refine Mixed.wpMix_pure rfl (by kernel_rfl) (.pointer (some ⟨b,0,none⟩)) (fun w h=>by clear h;go_simp;try rfl) ?_
  refine Mixed.wpMix_pure rfl (by kernel_rfl) (.pointer (some ⟨b,0,none⟩)) (fun w h=>by clear h;go_simp;try rfl) ?_
  refine Mixed.wpMix_pure rfl (by kernel_rfl) (.pointer (some ⟨b,8,none⟩)) (fun w h=>by clear h;go_simp;try rfl) ?_
  refine Mixed.wpMix_pure rfl (by kernel_rfl) (.slice A7 lb c7) (fun w h=>by obtain ⟨h0,h1,h2,h5,h6⟩:=WC.out w _ h;clear h;go_simp;try rfl) ?_
  refine Mixed.wpMix_pure rfl (by kernel_rfl) (.pointer (some ⟨b,0,none⟩)) (fun w h=>by clear h;go_simp;try rfl) ?_
  refine Mixed.wpMix_pure rfl (by kernel_rfl) (.pointer (some ⟨b,0,none⟩)) (fun w h=>by clear h;go_simp;try rfl) ?_
  refine Mixed.wpMix_pure rfl (by kernel_rfl) (.pointer (some ⟨b,0,none⟩)) (fun w h=>by clear h;go_simp;try rfl) ?_
  refine Mixed.wpMix_pure rfl (by kernel_rfl) (.pointer (some ⟨b,1,none⟩)) (fun w h=>by clear h;go_simp;try rfl) ?_
  refine Mixed.wpMix_pure rfl (by kernel_rfl) (.int .u8 (op.toNat:Int)) (fun w h=>by obtain ⟨h0,h1,h2,h5,h6⟩:=WC.out w _ h;clear h;go_simp;try rfl) ?_
  refine Mixed.wpMix_loud rfl ?_
  go_wp2
  refine ⟨K9.out,?_⟩
  refine Mixed.wpMix_loud rfl ?_
  refine wpList_appBsG (ys:=[op]) O9.out P9.out Z9.out (by rw [HLB.out];simp;omega) rfl _ _ rfl rfl rfl 1 rfl rfl (lb+1) (by rw [HLB.out]) ?_
  intro A3' c3' w10 h1 h2 h3
  have K10:Hid (w10.heap[b]?=some (.cells (h.cells (.slice A7 lb c7)) 87 (0,0))):=(h3.block b hb9 (fun e=>by
   obtain ⟨cur,hc⟩:=own_u8 O9.out e.symm
   rw [K9.out] at hc
   simp at hc)).trans K9.out
  have O10:=Lib.hid h1
  have B10:Hid (Below B w w10):=B9.out.trans h2
  clear h1 h2 h3 O9 P9 B9 Z9 K9 hb9
  go_wp2
  refine ⟨K10.out,?_⟩
  simp only [Mixed.wpMix]
  obtain ⟨e0,e1,e2,e5,e6⟩:=WC.out _ _ K10.out
  have F:Hid (WrAt (w10.setCell ⟨b,8,none⟩ (.slice A3' (lb+1) c3')) B b h (bas++[op])∧Below B w (w10.setCell ⟨b,8,none⟩ (.slice A3' (lb+1) c3'))):=by
   have hln:(bas++[op]).length=lb+1:=by rw [List.length_append,HLB.out];rfl
   have o3:=O10.out
   rw [← hln] at o3 ⊢
   exact ⟨wr_store K10.out o3,B10.out.setCell (by simpa using hB) _⟩
  clear e0 e1 e2 K10 O10 B10
  go_upto_region 8 with fail
  obtain ⟨w11,hw11⟩:∃ z,w10.setCell ⟨b,8,none⟩ (.slice A3' (lb+1) c3')=z:=⟨_,rfl⟩
  rw [hw11] at F ⊢
  obtain ⟨X11,B11⟩:=F.out
  have hb11:=X11.lt
  have X11:=Lib.hid X11
  have B11:=Lib.hid B11
  clear hw11 F e5 e6
  go_wp2_with fail
  refine (wparts_any b w11).mono ?_
  rintro e w12 ⟨g,rfl,hpt,hg,hb⟩
  have LS:=Lib.hid (wr_start (s2:=s2) (d:=d) (n:=n) (X11.out.below hb) hpt (B11.out.trans (hb.mono (by omega))) (by have:=hb.size;omega))
  have FF:Hid (WrF B b w12.heap.size g s2 (bas++[op])):=⟨hB,by have:=hb.size;omega,by omega,hpt.lt,by rw [List.length_append,HLB.out];simp;omega,hlen⟩
  obtain ⟨it,hit⟩:∃ z,w12.heap.size=z:=⟨_,rfl⟩
  rw [hit] at LS FF
  have HIT:=Lib.hid hit
  clear hpt hb X11 B11 hg
  go_upto_region 9 with fail
  go_wp2
  go_loopw [] (fun wr=>∃ j,Hid (WrL w wr B b it g h s2 (bas++[op]) d n j)) (fun wr=>s2.length - wr.iterPos it)
  case atStart=>exact ⟨0,LS.out⟩
  case round=>
   obtain ⟨j,L⟩:=hrel
   have hlj:=L.out.le
   have hpos:wr.iterPos it=j:=iterPos_of L.out.iter
   by_cases hlt:j<s2.length
   ·obtain ⟨n1,n2,n3,n4⟩:=L.out.next FF.out
    have hxl:=L.out.len FF.out
    have PU:=fun w' X hb K=>L.out.put (w':=w') FF.out hlt X hb K
    have hl4:=HL.out j hlt
    have hnx:=fun c hc h=>next_at L.out.iter hlt c hc h
    obtain ⟨xs,hxs⟩:∃ z,(bas++[op])++(s2.take j).flatMap (letB d n)=z:=⟨_,rfl⟩
    rw [hxs] at n1 hxl PU
    obtain ⟨cc,hcc⟩:∃ z,s2[j]=z:=⟨_,rfl⟩
    rw [hcc] at hl4 PU hnx
    obtain ⟨wn,hwn⟩:∃ z,wr.iterAt it (sB s2) (j+1)=z:=⟨_,rfl⟩
    rw [hwn] at n1 n2 n3 n4 PU hnx
    have PU:=Lib.hid PU
    have N1:=Lib.hid n1
    have CD:=WD.out xs hxl wn n1
    have CB:=WB.out xs hxl wn n1
    have CW:=WW.out xs hxl wn n1
    clear n1 n3 n4 hxs hcc hwn
    rcases hl4 with rfl | rfl | rfl | rfl
    ·have hn:=hnx 100 rfl (by decide)
     have hk:=look_100 n2
     unfold methV at hk
     have C:=Lib.hid CD
     clear hnx n2 CD CB CW
     go_wp2_with fail
     refine C.out.mono ?_
     rintro e w2 ⟨rfl,hX,hb,hK⟩
     have L2:=Lib.hid (PU.out w2 hX hb hK)
     clear hX hb hK C hk hn PU
     go_wp2
     go_roundw
     case rel=>exact ⟨j+1,L2.out⟩
     case measure=>rw [iterPos_of L2.out.iter,hpos];omega
    ·have hn:=hnx 101 rfl (by decide)
     have hk:=look_101 n2
     unfold methV at hk
     have C:=Lib.hid CB
     clear hnx n2 CD CB CW
     go_wp2_with fail
     refine C.out.mono ?_
     rintro e w2 ⟨rfl,hX,hb,hK⟩
     have L2:=Lib.hid (PU.out w2 hX hb hK)
     clear hX hb hK C hk hn PU
     go_wp2
     go_roundw
     case rel=>exact ⟨j+1,L2.out⟩
     case measure=>rw [iterPos_of L2.out.iter,hpos];omega
    ·have hn:=hnx 110 rfl (by decide)
     have hk:=look_110 n2
     unfold methV at hk
     have C:=Lib.hid CB
     clear hnx n2 CD CB CW
     go_wp2_with fail
     refine C.out.mono ?_
     rintro e w2 ⟨rfl,hX,hb,hK⟩
     have L2:=Lib.hid (PU.out w2 hX hb hK)
     clear hX hb hK C hk hn PU
     go_wp2
     go_roundw
     case rel=>exact ⟨j+1,L2.out⟩
     case measure=>rw [iterPos_of L2.out.iter,hpos];omega
    ·have hn:=hnx 119 rfl (by decide)
     have hk:=look_119 n2
     unfold methV at hk
     have C:=Lib.hid CW
     clear hnx n2 CD CB CW
     go_wp2_with fail
     refine C.out.mono ?_
     rintro e w2 ⟨rfl,hX,hb,hK⟩
     have L2:=Lib.hid (PU.out w2 hX hb hK)
     clear hX hb hK C hk hn PU
     go_wp2
     go_roundw
     case rel=>exact ⟨j+1,L2.out⟩
     case measure=>rw [iterPos_of L2.out.iter,hpos];omega
   ·have hj:j=s2.length:=by omega
    subst hj
    have hnx:=fun ty=>Lib.run_next_end_at (P:=Tryz.prog) wr it (sB s2) s2.length ty L.out.iter (by rw [sB_size];omega)
    have R:Hid (WrAt wr B b h bs∧Below B w wr):=by
     have h1:=L.out.wrt
     rw [List.take_length] at h1
     exact ⟨by rw [HBS.out];exact h1,L.out.bel⟩
    clear L
    go_wp2
    refine bodyPost_end (v:=.tuple #[]) ?_ rfl ⟨rfl,R.out⟩
    simp [results,Tryz.results42,go_sem]
end Go.Proofs.YtoilebmbljpieaaGreatDoor
