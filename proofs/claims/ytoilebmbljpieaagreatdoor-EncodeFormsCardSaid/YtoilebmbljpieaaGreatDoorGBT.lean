/-
  EnS, EnR, SeRm, EnF, SeKl, SeLl, ApW.
-/
import Derived.Test.YtoilebmbljpieaaGreatDoorGAG
import Derived.Deep.QuietTactic
import Derived.BigQuiet
import Derived.Test.YtoilebmbljpieaaGreatDoorGAE
import Derived.Test.YtoilebmbljpieaaGreatDoorGBO
import Derived.Test.YtoilebmbljpieaaGreatDoorGAQ
import Derived.Test.YtoilebmbljpieaaGreatDoorGBP
import Derived.Test.YtoilebmbljpieaaGreatDoorGAD
import Derived.Deep.DeepCutAuto
import Derived.Deep.Cut
import Derived.Test.YtoilebmbljpieaaGreatDoorGBK
import Derived.Test.YtoilebmbljpieaaGreatDoorGBL
import Derived.Test.YtoilebmbljpieaaGreatDoorGAR
import Derived.Laws.AppendOwn
set_option linter.all false
set_option maxRecDepth 100000
set_option maxHeartbeats 4000000
namespace Go.Proofs.YtoilebmbljpieaaGreatDoor
open Go.RowKit Go.Shelf
attribute [local go_sem] Oper.semAt_some
def BsP (w:World) (A:Option Addr) (Ls:List Str):Prop:=Ls=[]∨∃ b off,A=some ⟨b,off,none⟩∧∀ k (h:k<Ls.length),∃ Ak ck,w.cell? ⟨b,off+k,none⟩=some (.slice Ak Ls[k].length ck)∧BytesAt w Ak Ls[k]
theorem BsP.below {w w':World} {A:Option Addr} {Ls:List Str} (h:BsP w A Ls) (hb:Below w.heap.size w w'):BsP w' A Ls:=by
 rcases h with rfl | ⟨b,off,rfl,hc⟩
 ·exact .inl rfl
 ·refine .inr ⟨b,off,rfl,fun k hk=>?_⟩
  obtain ⟨Ak,ck,h1,h2⟩:=hc k hk
  exact ⟨Ak,ck,(hb.cell (World.block_lt_of_cell? w _ h1)).trans h1,h2.below hb⟩
theorem BsP.at_ {w:World} {A:Option Addr} {Ls:List Str} (h:BsP w A Ls) {k:Nat} (hk:k<Ls.length):∃ b off Ak ck,A=some ⟨b,off,none⟩∧w.cell? ⟨b,off+k,none⟩=some (.slice Ak Ls[k].length ck)∧BytesAt w Ak Ls[k]:=by
 rcases h with rfl | ⟨b,off,rfl,hc⟩
 ·simp at hk
 ·obtain ⟨Ak,ck,h1,h2⟩:=hc k hk
  exact ⟨b,off,Ak,ck,rfl,h1,h2⟩
theorem sB_neq (xs ys:Str):((sB xs).toList == (sB ys).toList)=decide (xs=ys):=by
 rw [sB_eq,ByteArray.toList_eq,show (sB ys).data.toList=ys by simp [sB]]
theorem rsame11_any (A1 A2:Option Addr) (c1 c2:Nat) (L1 L2:List Str) (h1:L1.length≤100000) (h2:L2.length≤100000) (w:World) (H1:BsP w A1 L1) (H2:BsP w A2 L2) :
  Calls Tryz.prog 20 #[.slice A1 L1.length c1,.slice A2 L2.length c2] w fun e w'=>e=.returned (.bool (decide (L1=L2)))∧Below w.heap.size w w':=by
 by_cases hl:L1.length=L2.length
 ·have X1:=Lib.hid H1
  have X2:=Lib.hid H2
  have HL:=Lib.hid hl
  obtain ⟨n,hn⟩:∃ n,L1.length=n:=⟨_,rfl⟩
  have HN:=Lib.hid hn
  rw [hn] at h1
  rw [← hl,hn]
  clear H1 H2 hl h2 hn
  go_enter Tryz.func20,Tryz.ntmps20
  go_wp2
  go_loopw [5] (fun i wr=>∃ j:Nat,j≤n∧i=.int .i64 j∧Hid (∀ k,k<j→∀ (a:k<L1.length) (b:k<L2.length),L1[k]=L2[k])∧Hid (Below w.heap.size w wr)) (fun i _=>n - (intOf i).toNat)
  case atStart=>exact ⟨0,Nat.zero_le _,rfl,fun k h=>by omega,Below.refl _ _⟩
  case round=>
   obtain ⟨j,hj,rfl,R,B⟩:=hrel
   by_cases hlt:j<n
   ·have hj1:j<L1.length:=by have:=HN.out;omega
    have hj2:j<L2.length:=by have:=HL.out;omega
    obtain ⟨b1,o1,B1,d1,rfl,p1,q1⟩:=(X1.out.below B.out).at_ hj1
    obtain ⟨b2,o2,B2,d2,rfl,p2,q2⟩:=(X2.out.below B.out).at_ hj2
    have s1:=fun q=>conv_sB (q1.below (below_drewN wr _ q)) d1
    have s2:=fun q=>conv_sB (q2.below (below_drewN wr _ q)) d2
    have E:=sB_neq L1[j] L2[j]
    obtain ⟨x,hx⟩:∃ x,L1[j]=x:=⟨_,rfl⟩
    obtain ⟨y,hy⟩:∃ y,L2[j]=y:=⟨_,rfl⟩
    rw [hx] at p1 s1 E
    rw [hy] at p2 s2 E
    have BD:=fun q=>Lib.hid (B.out.trans (below_drewN wr w.heap.size q))
    have HX:=Lib.hid hx
    have HY:=Lib.hid hy
    obtain ⟨lx,hlx⟩:∃ z,x.length=z:=⟨_,rfl⟩
    obtain ⟨ly,hly⟩:∃ z,y.length=z:=⟨_,rfl⟩
    rw [hlx] at p1 s1
    rw [hly] at p2 s2
    by_cases he:x=y
    ·have R2:Hid (∀ k,k<j+1→∀ (a:k<L1.length) (b:k<L2.length),L1[k]=L2[k]):=fun k hk a b=>by
      by_cases e:k=j
      ·subst e;exact HX.out.trans (he.trans HY.out.symm)
      ·exact R.out k (by omega) a b
     rw [decide_eq_true he] at E
     clear he hx hy HX HY hj1 hj2 R q1 q2 hlx hly
     go_wp2
     go_quiet (fail)
     go_wp2
     go_roundw
     case rel=>exact ⟨j+1,by omega,by go_num,R2.out,(BD _).out⟩
     case measure=>simp [intOf];omega
    ·have T:Hid (false=decide (L1=L2)):=(decide_eq_false (fun e=>he (by rw [← HX.out,← HY.out];simp only [e]))).symm
     rw [decide_eq_false he] at E
     clear he hx hy HX HY hj1 hj2 R q1 q2 hlx hly
     go_wp2
     go_quiet (fail)
     go_wp2
     go_ret
     exact ⟨ret_bool T.out,(BD _).out⟩
   ·have T:Hid (true=decide (L1=L2)):=by
     refine (decide_eq_true (List.ext_getElem HL.out fun k a b=>?_)).symm
     exact R.out k (by have:=HN.out;omega) a b
    clear R
    go_wp2
    go_ret
    exact ⟨ret_bool T.out,B.out⟩
 ·have T:Hid (false=decide (L1=L2)):=(decide_eq_false (fun e=>hl (by rw [e]))).symm
  have hl':((L1.length:Int) == (L2.length:Int))=false:=beq_eq_false_iff_ne.2 (by omega)
  have hl2:¬((L1.length:Int)=(L2.length:Int)):=by omega
  have hl3:((L1.length:Int) != (L2.length:Int))=true:=bne_iff_ne.2 hl2
  clear H1 H2
  go_enter Tryz.func20,Tryz.ntmps20
  go_wp2
  go_ret
  exact ⟨ret_bool T.out,Below.refl _ _⟩
end Go.Proofs.YtoilebmbljpieaaGreatDoor
namespace Go.Proofs.YtoilebmbljpieaaGreatDoor
open Go.RowKit Go.Shelf
structure Be where
 A:Option Addr
 cap:Nat
 xs:Str
def Be.v (r:Be):Value:=.slice r.A r.xs.length r.cap
def cellsS (R:List Be):List Value:=R.map Be.v
theorem info_bs:(Tryz.prog.info? 28).map (fun i=>(i.zero,i.size,i.bytes))=some (some (.slice none 0 0),1,24):=by kernel_rfl
def OwnBR (w:World) (n:Nat) (v:Value) (R:List Be):Prop:=w.ownsRow n 28 1 v R.length (cellsS R)∧∀ r∈R,TOwnB w n r.v r.xs
theorem ownBR_nil (w:World) (n:Nat):OwnBR w n (.slice none 0 0) []:=⟨World.ownsRow_nil _ _ _ _,fun r hr=>absurd hr List.not_mem_nil⟩
theorem OwnBR.below {w w':World} {n:Nat} {v:Value} {R:List Be} (h:OwnBR w n v R) (k:Below w.heap.size w w'):OwnBR w' n v R:=
 ⟨World.ownsRow.kept h.1 (row:=none) ⟨k.os,k.tape,k.output,k.size,fun i hi _=>k.block i hi⟩ (by
  cases e:v.ownBlock with
  | none=>exact .inl rfl
  | some g=>exact .inr (by simp)),fun r hr=>(h.2 r hr).below k⟩
theorem OwnBR.lift {w:World} {n m:Nat} {v:Value} {R:List Be} (h:OwnBR w n v R) (k:m≤n):OwnBR w m v R:=⟨row_mono h.1 k,fun r hr=>(h.2 r hr).lift k⟩
theorem OwnBR.bs {w:World} {n:Nat} {v:Value} {R:List Be} (h:OwnBR w n v R):∃ A cap,v=.slice A R.length cap∧BsP w A (R.map Be.xs):=by
 rcases h.1.2 with ⟨rfl,h0⟩ | ⟨g,cap,cur,rfl,_,_,_⟩
 ·have:R=[]:=List.eq_nil_of_length_eq_zero h0
  subst this
  exact ⟨none,0,rfl,.inl rfl⟩
 ·refine ⟨_,cap,rfl,.inr ⟨g,0,rfl,fun k hk=>?_⟩⟩
  have hk':k<R.length:=by simpa using hk
  obtain ⟨A',c',e,hP⟩:=(h.2 _ (List.getElem_mem hk')).bytes
  have e2:(R.map Be.xs)[k]=R[k].xs:=by simp
  rw [e2]
  refine ⟨A',c',?_,hP⟩
  rw [Nat.zero_add,World.ownsRow.cellAt h.1 k (by omega)]
  unfold cellsS
  rw [List.getElem?_map,List.getElem?_eq_getElem hk',← e]
  rfl
theorem own_typesB {w:World} {n:Nat} {u:Value} {xs:Str} (h:TOwnB w n u xs) {g:Nat} (e:u.ownBlock=some g):∃ cur,w.heap[g]?=some (.cells cur 5 (0,0)):=by
 rcases h.2 with ⟨rfl,_⟩ | ⟨g',cap,cur',rfl,_,hg,_⟩
 ·simp [Value.ownBlock] at e
 ·simp only [Value.ownBlock,Option.some.injEq] at e
  subst e
  exact ⟨_,hg⟩
theorem run_appBR (w:World) (B:Nat) (v:Value) (R:List Be) (h:OwnBR w B v R) (r:Be) (b:Nat) (hc:w.cell? ⟨b,0,none⟩=some r.v) (hO:TOwnB w B r.v r.xs) (c:Nat) (hB:B≤w.heap.size) (hs:R.length+1≤100000) :
  ∃ v' w',(Builtin.append_ #[49,49] 49 #[v,.slice (some ⟨b,0,none⟩) 1 c]).run Tryz.prog w=.ok v' w'∧OwnBR w' B v' (R++[r])∧Below B w w'∧w.grownBy w' v.ownBlock:=by
 obtain ⟨i0,hi,hz0,hz1,hz2⟩:=info_parts info_bs
 obtain ⟨v',w',k1,k2,k3⟩:=run_append_src w B 49 49 28 i0 _ 1 24 Tryz.underlying49 hi hz0 hz1 hz2 rfl (by decide) v R.length (cellsS R) h.1 (some ⟨b,0,none⟩) 1 c [r.v]
  rfl (.inr ⟨_,rfl,fun j u hu=>by
   match j,hu with
   | 0,hu=>simp at hu;subst hu;simpa [Addr.add] using hc⟩) (fun u hu=>by obtain rfl:=List.mem_singleton.1 hu;rfl) (by unfold maxLen;omega) (by omega) hB
 have hty:∀ q,v.ownBlock=some q→∀ cur fz,w.heap[q]?≠some (.cells cur 5 fz):=fun q hq cur fz hx=>by
  rcases h.1.2 with ⟨rfl,_⟩ | ⟨g',cap,cur',rfl,_,hg,_⟩
  ·simp [Value.ownBlock] at hq
  ·simp only [Value.ownBlock,Option.some.injEq] at hq
   subst hq
   rw [hx] at hg
   simp at hg
 have kept:∀ {u:Value} {xs:Str},TOwnB w B u xs→TOwnB w' B u xs:=fun {u xs} ho=>World.ownsRow.kept ho k3 (by
  cases e:u.ownBlock with
  | none=>exact .inl rfl
  | some q=>
   refine .inr fun e'=>?_
   obtain ⟨cur,hc⟩:=own_typesB ho e
   exact hty q e'.symm _ _ hc)
 refine ⟨v',w',k1,⟨?_,fun r' hr=>?_⟩,(Below.refl B w).grown k3 hB fun k hk=>(World.ownsRow.lt h.1 k hk).1,k3⟩
 ·unfold cellsS
  rw [List.map_append,List.length_append]
  exact k2
 ·rcases List.mem_append.1 hr with hr | hr
  ·exact kept (h.2 r' hr)
  ·obtain rfl:=List.mem_singleton.1 hr
   exact kept hO
theorem wpList_appBR {wr:World} {B:Nat} {v:Value} {R:List Be} (h:OwnBR wr B v R) (r:Be) (b:Nat) (hc:wr.cell? ⟨b,0,none⟩=some r.v) (hO:TOwnB wr B r.v r.xs) {c:Nat} (hB:B≤wr.heap.size) (hs:R.length+1≤100000) {ops:Array Oper} {rest:List Oper} {o:Oper} {a:Act} {Q:Exit→Act→World→Prop} (hgd:o.guard=none) (s x:Operand)
  (ho:o.op=.call {callee:=.builtin .append,args:=#[s,x],argTypes:=#[49,49]}) (hty:o.type=49) (hsv:a.eval s=v) (hx:a.eval x=.slice (some ⟨b,0,none⟩) 1 c)
  (k:∀ A' cap' w1,OwnBR w1 B (.slice A' (R++[r]).length cap') (R++[r])→Below B wr w1→wpList Tryz.prog ops Q rest (a.put o.dst (.slice A' (R++[r]).length cap')) w1):wpList Tryz.prog ops Q (o :: rest) a wr:=by
 obtain ⟨v',w',k1,k2,k3,-⟩:=run_appBR wr B v R h r b hc hO c hB hs
 obtain ⟨A',cap',rfl,-⟩:=k2.bs
 exact wpList_run_append k1 hgd s x ho hty hsv hx (k A' cap' w' k2 k3)
end Go.Proofs.YtoilebmbljpieaaGreatDoor
namespace Go.Proofs.YtoilebmbljpieaaGreatDoor
open Go.RowKit Go.Shelf
attribute [local go_sem] Oper.semAt_some
def fitK (s:ByteArray) (C:List Tr) (k:Ke):Bool:=fitsR k.2.2.1 k.2.2.2.1 k.2.2.2.2.1 s C
def accR (s:ByteArray) (C:List Tr) (fs:Int) (i:Nat):List Ke:=(List.range i).flatMap fun (j:Nat)=>(entsR (fs+(j:Int)) 256).filter (fitK s C)
theorem accR_succ (s:ByteArray) (C:List Tr) (fs:Int) (i:Nat):accR s C fs (i+1)=accR s C fs i++(entsR (fs+(i:Int)) 256).filter (fitK s C):=by
 unfold accR
 rw [List.range_succ,List.flatMap_append]
 simp
theorem accR_all (s:ByteArray) (C:List Tr):accR s C (fstI C) (lstI C+1 - fstI C).toNat=allR s C:=by
 unfold accR allR pgR fstI lstI
 by_cases h:C.any fstB=true
 ·simp only [h,if_true]
  rfl
 ·simp only [h,Bool.false_eq_true,if_false]
  rfl
theorem ents_yes {page:Int} {k:Nat} {x:En} (hx:ratT page k=some x) (p:Ke→Bool):(entsR page (k+1)).filter p=(entsR page k).filter p++(if p (page,(k:Int),x.1,x.2.1,x.2.2.1,x.2.2.2)=true then [(page,(k:Int),x.1,x.2.1,x.2.2.1,x.2.2.2)] else []):=by
 rw [entsR,hx]
 simp only [List.filter_append,List.filter_cons,List.filter_nil]
theorem ents_no {page:Int} {k:Nat} (hx:ratT page k=none) (p:Ke→Bool):(entsR page (k+1)).filter p=(entsR page k).filter p:=by
 rw [entsR,hx]
theorem rall10_any (s:ByteArray) (hs:s.size≤1000) (Ai:Option Addr) (capi li:Nat) (I:List Tr) (hli:I.length=li) (hLi:li≤900) (w:World) (HF:OpsP w Ai I) :
  Calls Tryz.prog 49 #[.agg #[.string s,.slice Ai li capi]] w (RetEs w (allR s (canL (opc s) I))):=by
 have hof:=fun w h=>rof_any s Ai capi I (by omega) w h
 rw [hli] at hof
 have hcl:=canL_len (opc s) I
 have hfi:=fun page op m A cap l L (hl:List.length L=l) (hL:l≤1000) ex (hx:List.length ex≤1000) al w' h1 h2=>rfits10_any page op m A cap l L hl hL ex hx al s Ai capi li I hli hLi w' h1 h2
 obtain ⟨C,hC⟩:∃ C,canL (opc s) I=C:=⟨_,rfl⟩
 rw [hC] at hof hcl hfi ⊢
 obtain ⟨lc,hlc⟩:∃ z,C.length=z:=⟨_,rfl⟩
 have HLC:=Lib.hid hlc
 have hLc:lc≤1000:=by omega
 obtain ⟨n,hn⟩:∃ z,w.heap.size=z:=⟨_,rfl⟩
 have HN:=Lib.hid hn
 obtain ⟨b0,w0,hb0,hw0,S0,y0,z0⟩:=Fr.box (Fr.start w n hn) #[.string s,.slice Ai li capi] 26
 rw [hn] at hb0
 subst hb0
 have P0:=HF.below y0
 have HH:=Lib.hid HF
 have of0:=hof w0 P0
 have FI:=Lib.hid hfi
 obtain ⟨k0,k1⟩:=Fr.cells2 S0.out.1
 clear y0 hof hfi HF hC hcl P0
 go_enter Tryz.func49,Tryz.ntmps49
 go_wp2_with fail
 refine of0.mono ?_
 rintro e w1 ⟨v,rfl,hO,hb⟩
 obtain ⟨Ac,cc,rfl,hPc,-,-⟩:=hO.ops
 rw [HLC.out]
 have S1:=Fr.up S0 hb
 have R1:=Lib.hid hPc
 clear of0 hb hO hPc k0 k1 hw0 z0 S0 hlc
 go_upto_region 3 with fail
 obtain ⟨b,w2,hbs,hw2,S2,y2,z2⟩:=Fr.box S1 #[.string s,.slice Ac lc cc] 26
 rw [hw2,hbs]
 have hnb:n+1≤b:=by have:=Fr.lt_of_blk S1.out.1;omega
 have f3:=first_any s Ac cc lc C HLC.out hLc w2 (R1.out.below y2)
 have LA:=Lib.hid (fun w' h=>last_any s Ac cc lc C HLC.out hLc w' h)
 obtain ⟨k0,k1⟩:=Fr.cells2 S2.out.1
 have FB:=fstI_le C
 have LB:=lstI_le C
 obtain ⟨fs,hfs⟩:∃ z,fstI C=z:=⟨_,rfl⟩
 obtain ⟨ls,hls⟩:∃ z,lstI C=z:=⟨_,rfl⟩
 have HFS:=Lib.hid hfs
 have HLS:=Lib.hid hls
 rw [hfs] at f3 FB LB
 rw [hls] at LA LB
 clear hw2 hfs hls
 go_wp2_with fail
 refine f3.mono ?_
 rintro e w3 ⟨rfl,hb⟩
 have z3:b+1≤w3.heap.size:=by have:=hb.size;omega
 have bb:=y2.trans (hb.mono y2.size)
 have KEEP:Hid (∀ wr,Below (b+1) w3 wr→OpsP wr Ai I∧OpsP wr Ac C∧wr.heap[n]?=some (.cells #[.string s,.slice Ai li capi] 26 (0,0))∧wr.heap[b]?=some (.cells #[.string s,.slice Ac lc cc] 26 (0,0))∧Below n w wr):=fun wr h=>by
  have S3:=Fr.up S2 hb
  have hw:Below n w wr:=S3.out.2.2.1.1.trans (h.mono (by omega))
  refine ⟨HH.out.below (by rw [HN.out];exact hw),R1.out.below ((bb.mono (Nat.le_refl _)).trans (h.mono (by omega))),(h.block n (by omega)).trans S3.out.2.1,(h.block b (by omega)).trans S3.out.1,hw⟩
 clear hb f3 k0 k1 S1 S2 y2 z2 bb R1 HH
 have HI0:Hid (OwnXR w3 (b+1) (.slice none 0 0) []):=ownXR_nil _ _
 go_wp2
 go_loopw [5,3] (fun x v wr=>∃ (i:Nat) (A4:Option Addr) (cap4:Nat) (R:List Ee),fs+(i:Int)≤ls+1∧x=.int .i64 (fs+(i:Int))∧v=.slice A4 R.length cap4∧Hid (R.length≤256*i)∧Hid (OwnXR wr (b+1) (.slice A4 R.length cap4) R)∧Hid (R.map Ee.k=accR s C fs i)∧Hid (Below (b+1) w3 wr)∧Hid (b+1≤wr.heap.size)) (fun x _ _=>(7 - intOf x).toNat)
 case atStart=>exact ⟨0,none,0,[],by omega,by simp,rfl,Nat.zero_le _,HI0.out,by show _=_;rfl,Below.refl _ _,z3⟩
 case round=>
  clear HI0
  obtain ⟨i,A4,cap4,R,hi,rfl,rfl,RL,O,RK,BW,ZW⟩:=hrel
  obtain ⟨p1,p2,p3,p4,p5⟩:=KEEP.out wr BW.out
  obtain ⟨k0,k1⟩:=Fr.cells2 p4
  have la:=LA.out wr p2
  obtain ⟨rl,hrl⟩:∃ z,R.length=z:=⟨_,rfl⟩
  rw [hrl] at RL O ⊢
  have HRL:=Lib.hid hrl
  obtain ⟨p,hp⟩:∃ z,fs+(i:Int)=z:=⟨_,rfl⟩
  rw [hp] at hi ⊢
  clear p1 p2 p3 p4 p5 hrl
  go_wp2_with fail
  refine la.mono ?_
  rintro e w5 ⟨rfl,hb⟩
  have B5:Hid (Below (b+1) w3 w5):=BW.out.trans (hb.mono ZW.out)
  have Z5:Hid (b+1≤w5.heap.size):=Nat.le_trans ZW.out hb.size
  have O5:=Lib.hid (O.out.below hb)
  clear la hb BW ZW O k0 k1
  by_cases hple:p≤ls
  ·go_wp2
   go_loopw [6,3] (fun x v wr=>∃ (k:Nat) (A4:Option Addr) (cap4:Nat) (R:List Ee),k≤256∧x=.int .i64 k∧v=.slice A4 R.length cap4∧Hid (R.length≤256*i+k)∧Hid (OwnXR wr (b+1) (.slice A4 R.length cap4) R)∧Hid (R.map Ee.k=accR s C fs i++(entsR p k).filter (fitK s C))∧Hid (Below (b+1) w3 wr)∧Hid (b+1≤wr.heap.size)) (fun x _ _=>256 - (intOf x).toNat)
   case atStart=>exact ⟨0,A4,cap4,R,Nat.zero_le _,rfl,by rw [HRL.out],by rw [HRL.out];exact RL.out,by rw [HRL.out];exact O5.out,by show _=_;rw [RK.out];simp [entsR],B5.out,Z5.out⟩
   case round=>
    clear B5 Z5 O5 RL RK HRL
    obtain ⟨k,A4,cap4,R,hk,rfl,rfl,RL,O,RK,BW,ZW⟩:=hrel
    obtain ⟨rl,hrl⟩:∃ z,R.length=z:=⟨_,rfl⟩
    rw [hrl] at RL O ⊢
    have HRL:=Lib.hid hrl
    clear hrl
    by_cases hlt:k<256
    ·have hw8:IntKind.u8.wrap (k:Int)=k:=by rw [IntKind.wrap_u8];omega
     have at1:=rat_any p k hlt wr
     go_wp2_with fail
     refine at1.mono ?_
     rintro e w6 ⟨hres,hb⟩
     have B6:Hid (Below (b+1) w3 w6):=BW.out.trans (hb.mono ZW.out)
     have Z6:Hid (b+1≤w6.heap.size):=Nat.le_trans ZW.out hb.size
     have O6:=Lib.hid (O.out.below hb)
     clear hw8 at1 BW O
     cases hx:ratT p k with
     | none=>
      rw [hx] at hres
      subst hres
      have hkd:=rkind_ne p k
      obtain ⟨kd,hkd2⟩:∃ z,rkindT p k=z:=⟨_,rfl⟩
      rw [hkd2] at hkd ⊢
      simp only [enV]
      have O7:=fun o=>Lib.hid (O6.out.below (up_alloc w6 o))
      have B7:=fun o=>Lib.hid (B6.out.trans ((up_alloc w6 o).mono Z6.out))
      have Z7:Hid (∀ o,b+1≤(w6.alloc o).heap.size):=fun o=>Nat.le_trans Z6.out (up_alloc w6 o).size
      have EN:=Lib.hid (ents_no hx (fitK s C))
      clear hx hkd2 hb O6 B6 Z6
      go_wp2
      go_roundw
      case rel=>exact ⟨k+1,A4,cap4,R,by omega,by go_num,by rw [HRL.out],by rw [HRL.out];exact Nat.le_succ_of_le RL.out,by rw [HRL.out];exact (O7 _).out,by rw [EN.out];exact RK.out,(B7 _).out,Z7.out _⟩
      case measure=>simp [intOf];omega
     | some x=>
      have hkey:=(InTab.ok (k:=(p,(k:Int),x.1,x.2.1,x.2.2.1,x.2.2.2)) ⟨k,hlt,rfl,hx⟩)
      rw [hx] at hres
      obtain ⟨v,rfl,hO⟩:=hres
      obtain ⟨Ae,ce,rfl,hPe,-⟩:=hO.ops
      have EY:=Lib.hid (ents_yes hx (fitK s C))
      have hex:=hkey.ex
      have hln:=hkey.len
      obtain ⟨m,Le,ex,al⟩:=x
      simp only at hex hln EY hPe hO ⊢
      have T6:Hid (OwnT w6 (b+1) (.slice Ae Le.length ce) Le):=hO.lift ZW.out
      obtain ⟨le,hle⟩:∃ z,Le.length=z:=⟨_,rfl⟩
      rw [hle] at hln T6 ⊢
      simp only [enV]
      have PE:=Lib.hid hPe
      have HLE:=Lib.hid hle
      clear hx hb hO hPe hle hkey ZW
      go_upto_region 10 with fail
      obtain ⟨be,hbe⟩:∃ c,w6.heap.size=c:=⟨_,rfl⟩
      obtain ⟨u,hu,y1,y2,-⟩:=ref_box w6 p k m (.slice Ae le ce) ex al be hbe
      rw [hu,hbe]
      have hbb:b+1≤be:=by have:=Z6.out;omega
      have BU:Hid (Below (b+1) w3 u):=B6.out.trans (y2.mono Z6.out)
      have ZU:Hid (b+1≤u.heap.size):=Nat.le_trans Z6.out y2.size
      have OU:=Lib.hid (O6.out.below y2)
      have TU:=Lib.hid (T6.out.below y2)
      have PU:=Lib.hid (PE.out.below y2)
      obtain ⟨p1,-,p3,-,-⟩:=KEEP.out u BU.out
      have fi:=FI.out p k m Ae ce le Le HLE.out (by omega) ex (by omega) al u PU.out p1
      simp only [enV] at fi
      have EU:=Lib.hid y1
      have IU:=Lib.hid p3
      clear hu hbe y1 y2 O6 T6 PE B6 Z6 p1 p3
      obtain ⟨i0,i1,i2,i3,i4,i5⟩:=Fr.cells6 EU.out
      obtain ⟨j0,j1⟩:=Fr.cells2 IU.out
      have FK:Hid (fitK s C (p,(k:Int),m,Le,ex,al)=fitsR m Le ex s C):=rfl
      by_cases hms:sB m=s
      rotate_left
      ·have hq:=strB_ne hms
       have R2:Hid ((entsR p (k+1)).filter (fitK s C)=(entsR p k).filter (fitK s C)):=by
        show _=_
        rw [EY.out,if_neg (by rw [FK.out];unfold fitsR shpR;rw [decide_eq_false hms];simp),List.append_nil]
       clear fi hms EY FK
       go_wp2
       go_roundw
       case rel=>exact ⟨k+1,A4,cap4,R,by omega,by go_num,by rw [HRL.out],by rw [HRL.out];exact Nat.le_succ_of_le RL.out,by rw [HRL.out];exact OU.out,by rw [R2.out];exact RK.out,BU.out,ZU.out⟩
       case measure=>simp [intOf];omega
      ·subst hms
       have hq:=strB_eq (sB m)
       obtain ⟨fv,hfv⟩:∃ z,fitsR m Le ex (sB m) C=z:=⟨_,rfl⟩
       rw [hfv] at fi FK
       clear hfv
       go_wp2_with fail
       refine fi.mono ?_
       rintro e u2 ⟨rfl,hb⟩
       have BV:Hid (Below (b+1) w3 u2):=BU.out.trans (hb.mono ZU.out)
       have ZV:Hid (b+1≤u2.heap.size):=Nat.le_trans ZU.out hb.size
       have OV:=Lib.hid (OU.out.below hb)
       have TV:=Lib.hid (TU.out.below hb)
       have PV:=Lib.hid (PU.out.below hb)
       have EV:=Lib.hid ((hb.block be (Array.getElem?_eq_some_iff.1 EU.out).1).trans EU.out)
       clear fi hb BU ZU OU TU PU EU IU i0 i1 i2 i3 i4 i5 j0 j1 hq
       cases fv with
       | false=>
        have R2:Hid ((entsR p (k+1)).filter (fitK (sB m) C)=(entsR p k).filter (fitK (sB m) C)):=by
         show _=_
         rw [EY.out,if_neg (by rw [FK.out];simp),List.append_nil]
        clear EY FK
        go_wp2
        go_roundw
        case rel=>exact ⟨k+1,A4,cap4,R,by omega,by go_num,by rw [HRL.out],by rw [HRL.out];exact Nat.le_succ_of_le RL.out,by rw [HRL.out];exact OV.out,by rw [R2.out];exact RK.out,BV.out,ZV.out⟩
        case measure=>simp [intOf];omega
       | true=>
        obtain ⟨i0,i1,i2,i3,i4,i5⟩:=Fr.cells6 EV.out
        have ES:=es_oneR u2 ⟨p,k,m,Ae,ce,Le,ex,al⟩ PV.out
        simp only [Ee.v,HLE.out] at ES
        have hal:=up_alloc u2 (.cells #[.int .i64 p,.int .u8 k,.string (sB m),.slice Ae le ce,.string (sB ex),.bool al] 41)
        have O3:=Lib.hid (OV.out.below hal)
        have T3:Hid (∀ r∈[(⟨p,k,m,Ae,ce,Le,ex,al⟩:Ee)],OwnT (u2.alloc (.cells #[.int .i64 p,.int .u8 k,.string (sB m),.slice Ae le ce,.string (sB ex),.bool al] 41)) (b+1) r.v r.L):=fun r hr=>by
         obtain rfl:=List.mem_singleton.1 hr
         have h:=TV.out.below hal
         simp only [Ee.v,HLE.out]
         exact h
        have B3:Hid (Below (b+1) w3 (u2.alloc (.cells #[.int .i64 p,.int .u8 k,.string (sB m),.slice Ae le ce,.string (sB ex),.bool al] 41))):=BV.out.trans (hal.mono ZV.out)
        have Z3:Hid (b+1≤(u2.alloc (.cells #[.int .i64 p,.int .u8 k,.string (sB m),.slice Ae le ce,.string (sB ex),.bool al] 41)).heap.size):=Nat.le_trans ZV.out hal.size
        have ES:=Lib.hid ES
        have HK7:Hid ((R++[(⟨p,k,m,Ae,ce,Le,ex,al⟩:Ee)]).map Ee.k=accR (sB m) C fs i++(entsR p (k+1)).filter (fitK (sB m) C)):=by
         show _=_
         rw [List.map_append,EY.out,if_pos FK.out,RK.out,List.append_assoc]
         rfl
        have HL7:Hid ((R++[(⟨p,k,m,Ae,ce,Le,ex,al⟩:Ee)]).length≤256*i+(k+1)):=by show _≤_;rw [List.length_append,HRL.out];have:=RL.out;simp;omega
        have hi7:i≤7:=by omega
        clear hal OV TV PV EV BV ZV EY FK
        go_wp2_with (at_builtin;refine wpList_appXR O3.out ES.out T3.out Z3.out (by simp;have:=HRL.out;have:=RL.out;omega) rfl _ _ rfl rfl rfl 1 rfl rfl ?_;intro A7 c7 w7 hO7 hB7 hg7;have O7:=Lib.hid hO7;have B7:=Lib.hid (B3.out.trans hB7);have Z7:=Lib.hid (Nat.le_trans Z3.out hB7.size);clear hO7 hB7 hg7)
        go_roundw
        case rel=>exact ⟨k+1,A7,c7,R++[(⟨p,k,m,Ae,ce,Le,ex,al⟩:Ee)],by omega,by go_num,by simp,HL7.out,O7.out,HK7.out,B7.out,Z7.out⟩
        case measure=>simp [intOf];omega
    ·obtain rfl:k=256:=by omega
     have RK2:Hid (R.map Ee.k=accR s C fs (i+1)):=by show _=_;rw [RK.out,accR_succ,hp]
     have RL2:Hid (R.length≤256*(i+1)):=by show _≤_;rw [HRL.out];have:=RL.out;omega
     clear RK RL
     go_wp2
     go_roundw
     case rel=>exact ⟨i+1,A4,cap4,R,by omega,by rw [← hp];go_num,by rw [HRL.out],RL2.out,by rw [HRL.out];exact O.out,RK2.out,BW.out,ZW.out⟩
     case measure=>simp [intOf];omega
  ·have RE:Hid (R.map Ee.k=allR s C):=by
    show _=_
    rw [RK.out,← accR_all,HFS.out,HLS.out]
    congr 1
    omega
   obtain ⟨-,-,-,-,p5⟩:=KEEP.out w5 B5.out
   have F:Hid (RetEs w (allR s C) (.returned (.slice A4 rl cap4)) w5):=by
    refine ⟨A4,cap4,R,by rw [HRL.out],by rw [HRL.out,HN.out];exact O5.out.lift (by omega),RE.out,by rw [HN.out];exact p5⟩
   clear p5 RK RE
   go_wp2
   go_ret
   exact F.out
end Go.Proofs.YtoilebmbljpieaaGreatDoor
namespace Go.Proofs.YtoilebmbljpieaaGreatDoor
open Go.RowKit Go.Shelf
attribute [local irreducible] Go.Mixed.wpMix
attribute [local go_sem] Oper.semAt_some
def encK (s:ByteArray) (C:List Tr) (k:Ke):Str:=encB k.1 k.2.1 k.2.2.2.2.1 (valV k.2.2.1 k.2.2.2.1 k.2.2.2.2.1 s C).1 (valV k.2.2.1 k.2.2.2.1 k.2.2.2.2.1 s C).2
theorem mem_allR {s:ByteArray} {C:List Tr} {k:Ke} (h:k∈allR s C):InTab k∧fitsR k.2.2.1 k.2.2.2.1 k.2.2.2.2.1 s C=true:=by
 unfold allR at h
 obtain ⟨p,-,h⟩:=List.mem_flatMap.1 h
 obtain ⟨h1,h2⟩:=List.mem_filter.1 h
 exact ⟨(ents_in p 256 (Nat.le_refl _) k h1).2,h2⟩
theorem allR_len (s:ByteArray) (C:List Tr):(allR s C).length≤2000:=by
 unfold allR
 have h:∀ p:Int,((entsR p 256).filter (fun k=>fitsR k.2.2.1 k.2.2.2.1 k.2.2.2.2.1 s C)).length≤256:=fun p=>by
  refine Nat.le_trans (List.length_filter_le _ _) ?_
  have:∀ K:Nat,(entsR p K).length≤K:=fun K=>by
   induction K with
   | zero=>exact Nat.le_refl _
   | succ K ih=>
    unfold entsR
    cases ratT p K with
    | none=>exact Nat.le_succ_of_le ih
    | some x=>rw [List.length_append];simp;exact ih
  exact this 256
 unfold pgR
 split
 ·simp only [List.flatMap_cons,List.flatMap_nil,List.length_append,List.length_nil]
  have:=h 3;have:=h 4;have:=h 5;have:=h 6
  omega
 ·simp only [List.flatMap_cons,List.flatMap_nil,List.length_append,List.length_nil]
  have:=h 0;have:=h 1;have:=h 2
  omega
def RetFo (w:World) (Ls:List Str) (e:Ending) (w':World):Prop:=∃ A cap R,e=.returned (.slice A R.length cap)∧OwnBR w' w.heap.size (.slice A R.length cap) R∧R.map Be.xs=Ls∧Below w.heap.size w w'
theorem rforms_any (s:ByteArray) (hs:s.size≤1000) (Ai:Option Addr) (capi li:Nat) (I:List Tr) (hli:I.length=li) (hLi:li≤900) (w:World) (HF:OpsP w Ai I) :
  Calls Tryz.prog 21 #[.agg #[.string s,.slice Ai li capi]] w (RetFo w ((allR s (canL (opc s) I)).map (encK s (canL (opc s) I)))):=by
 obtain ⟨C,hC⟩:∃ C,canL (opc s) I=C:=⟨_,rfl⟩
 have HC:=Lib.hid hC
 obtain ⟨n,hn⟩:∃ z,w.heap.size=z:=⟨_,rfl⟩
 have HN:=Lib.hid hn
 obtain ⟨b0,w0,hb0,hw0,S0,y0,z0⟩:=Fr.box (Fr.start w n hn) #[.string s,.slice Ai li capi] 26
 rw [hn] at hb0
 subst hb0
 have al:=rall10_any s hs Ai capi li I hli hLi w0 (HF.below y0)
 have HH:=Lib.hid HF
 rw [hC] at al ⊢
 obtain ⟨k0,k1⟩:=Fr.cells2 S0.out.1
 clear y0 HF hC
 go_enter Tryz.func21,Tryz.ntmps21
 go_wp2_with fail
 refine al.mono ?_
 rintro e w1 ⟨A0,cap0,Re,rfl,hO,hK,hb⟩
 have S1:=Fr.up S0 hb
 obtain ⟨A0',cap0',e0,hE,-⟩:=hO.es
 simp only [Value.slice.injEq] at e0
 obtain ⟨rfl,-,rfl⟩:=e0
 obtain ⟨ne,hne⟩:∃ z,Re.length=z:=⟨_,rfl⟩
 rw [hne]
 have HNE:=Lib.hid hne
 have hne2:ne≤2000:=by have:=allR_len s C;rw [← hK,List.length_map,hne] at this;exact this
 have HK:=Lib.hid hK
 have EP:=Lib.hid hE
 obtain ⟨B,hB⟩:∃ z,w1.heap.size=z:=⟨_,rfl⟩
 have hnB:n+1≤B:=by have:=Fr.lt_of_blk S1.out.1;omega
 have KEEP:Hid (∀ wr,Below B w1 wr→EsP wr A0 Re∧OpsP wr Ai I∧wr.heap[n]?=some (.cells #[.string s,.slice Ai li capi] 26 (0,0))∧Below n w wr):=fun wr h=>by
  have hw:Below n w wr:=S1.out.2.1.1.trans (h.mono (by omega))
  exact ⟨EP.out.below (by rw [hB];exact h),HH.out.below (by rw [HN.out];exact hw),(h.block n (by omega)).trans S1.out.1,hw⟩
 have ZB:Hid (B≤w1.heap.size):=Nat.le_of_eq hB.symm
 clear al hb k0 k1 S0 hw0 z0 hO hK hE S1 hne EP HH
 have HO0:Hid (OwnBR w1 B (.slice none 0 0) []):=ownBR_nil _ _
 clear hB
 go_wp2
 go_loopw [5,3] (fun x v wr=>∃ (k:Nat) (A4:Option Addr) (cap4:Nat) (R:List Be),k≤ne∧x=.int .i64 k∧v=.slice A4 R.length cap4∧Hid (R.length=k)∧Hid (OwnBR wr B (.slice A4 R.length cap4) R)∧Hid (R.map Be.xs=((Re.map Ee.k).take k).map (encK s C))∧Hid (Below B w1 wr)∧Hid (B≤wr.heap.size)) (fun x _ _=>ne - (intOf x).toNat)
 case atStart=>exact ⟨0,none,0,[],Nat.zero_le _,rfl,rfl,rfl,HO0.out,rfl,Below.refl _ _,ZB.out⟩
 case round=>
  clear HO0
  obtain ⟨k,A4,cap4,R,hk,rfl,rfl,RL,O,RK,BW,ZW⟩:=hrel
  rw [RL.out] at O ⊢
  by_cases hlt:k<ne
  ·have hkr:k<Re.length:=by rw [HNE.out];exact hlt
   obtain ⟨hEs,hI,hbn,-⟩:=KEEP.out wr BW.out
   obtain ⟨be,off,rfl,-,c0,c1,c2,c3,c4,c5,hP⟩:=hEs.at_ hkr
   have hmem:Re[k].k∈allR s C:=by rw [← HK.out];exact List.mem_map_of_mem (List.getElem_mem hkr)
   have TK:Hid (((Re.map Ee.k).take (k+1)).map (encK s C)=((Re.map Ee.k).take k).map (encK s C)++[encK s C Re[k].k]):=by
    show _=_
    rw [List.take_succ_eq_append_getElem (by simpa using hkr),List.map_append]
    simp
   obtain ⟨r,hr⟩:∃ r,Re[k]=r:=⟨_,rfl⟩
   rw [hr] at c0 c1 c2 c3 c4 c5 hP hmem TK
   obtain ⟨hin,hfit⟩:=mem_allR hmem
   have ok:=hin.ok
   obtain ⟨g,o,m,A,cap,L,ex,al⟩:=r
   obtain ⟨i,hi,ho,-⟩:=hin
   obtain ⟨l,hl⟩:∃ z,L.length=z:=⟨_,rfl⟩
   simp only [Ee.v,hl] at c0 c1 c2 c3 c4 c5 hP
   have h1:=ok.ex
   have h2:=ok.len
   have h3:=ok.places
   simp only [Ee.k] at h1 h2 h3 hfit ho TK
   subst ho
   have vl:=fun w' p1 p2=>rvalues_any g (i:Int) m A cap l L hl (by omega) ex (by omega) al s Ai capi li I hli hLi w' p1 p2
   rw [← val_same h3,HC.out] at vl
   have hfl:=has_fill2 (m:=m) (s:=s) (C:=C) (by rw [has_fits h3];exact hfit)
   unfold encK at TK
   simp only at TK
   obtain ⟨d,hd⟩:∃ z,(valV m L ex s C).1=z:=⟨_,rfl⟩
   obtain ⟨q,hq⟩:∃ z,(valV m L ex s C).2=z:=⟨_,rfl⟩
   rw [hd,hq] at hfl TK
   unfold RetVals at vl
   rw [hd,hq] at vl
   obtain ⟨op,hop⟩:∃ op:UInt8,(op.toNat:Int)=(i:Int):=⟨UInt8.ofNat i,by rw [UInt8.toNat_ofNat_of_lt' (show i<256 from hi)]⟩
   rw [← hop] at vl TK c1
   have by_:=fun w' p=>rbytes_any g op m A cap l L hl (by omega) ex (by omega) al d q w' p
   rw [fill_same h3,hfl,Option.map_some] at by_
   obtain ⟨bs,hbs⟩:∃ z,encB g (op.toNat:Int) ex d q=z:=⟨_,rfl⟩
   rw [hbs] at by_ TK
   obtain ⟨lb,hlb⟩:∃ z,bs.length=z:=⟨_,rfl⟩
   unfold RetBy at by_
   simp only [hlb] at by_
   unfold enV at vl by_
   have VL:=Lib.hid vl
   have BY:=Lib.hid by_
   have HLB:=Lib.hid hlb
   have P0:=Lib.hid hP
   have I0:=Lib.hid hI
   clear hEs hI hP hmem hr hfit ok h1 h2 h3 hfl hd hq hop hbs hlb hl hi vl by_
   go_upto_region 6 with fail
   obtain ⟨w3,hw3⟩:∃ w3,wr.drew=w3:=⟨_,rfl⟩
   have hd:Below wr.heap.size wr w3:=by rw [← hw3];exact below_drewN wr _ 1
   have B3:Hid (Below B w1 w3):=BW.out.trans (hd.mono ZW.out)
   have Z3:Hid (B≤w3.heap.size):=Nat.le_trans ZW.out hd.size
   have O3:=Lib.hid (O.out.below hd)
   have P3:=Lib.hid (P0.out.below hd)
   have I3:=Lib.hid (I0.out.below hd)
   have FK:Hid (∀ w',Below w3.heap.size w3 w'→(w'.cell? ⟨be,off+k*6,none⟩=some (.int .i64 g)∧w'.cell? ⟨be,off+k*6+1,none⟩=some (.int .u8 op.toNat)∧w'.cell? ⟨be,off+k*6+2,none⟩=some (.string (sB m))∧w'.cell? ⟨be,off+k*6+3,none⟩=some (.slice A l cap)∧w'.cell? ⟨be,off+k*6+4,none⟩=some (.string (sB ex))∧w'.cell? ⟨be,off+k*6+5,none⟩=some (.bool al))∧w'.cell? ⟨n,0,none⟩=some (.string s)∧w'.cell? ⟨n,0+1,none⟩=some (.slice Ai li capi)):=fun w' h=>by
    have hw:Below wr.heap.size wr w':=hd.trans (h.mono hd.size)
    obtain ⟨k0,k1⟩:=Fr.cells2 hbn
    have up:∀ {x:Addr} {u:Value},wr.cell? x=some u→w'.cell? x=some u:=fun {x u} e=>(hw.cell (World.block_lt_of_cell? wr _ e)).trans e
    exact ⟨⟨up c0,up c1,up c2,up c3,up c4,up c5⟩,up k0,up k1⟩
   clear hd BW ZW O P0 I0 c0 c1 c2 c3 c4 c5 hbn
   refine Mixed.wp_region_mixed (fun w'=>Below w3.heap.size w3 w') 10 [(0,true),(1,true),(2,true),(3,true),(4,true),(5,false),(6,true),(7,true),(8,true),(9,true)] (by kernel_rfl) (by kernel_rfl) (by rw [hw3];exact Below.refl _ _) ?_
   rw [hw3]
   clear hw3
   refine Mixed.wpMix_move rfl (by kernel_rfl) _ rfl (.slice (some ⟨be,off,none⟩) ne cap0) rfl ?_
   refine Mixed.wpMix_move rfl (by kernel_rfl) _ rfl (.int .i64 k) rfl ?_
   refine Mixed.wpMix_pure rfl (by kernel_rfl) (.pointer (some ⟨be,off+k*6,none⟩)) (fun w h=>by clear h;go_simp;try rfl) ?_
   refine Mixed.wpMix_pure rfl (by kernel_rfl) (.agg #[.int .i64 g,.int .u8 op.toNat,.string (sB m),.slice A l cap,.string (sB ex),.bool al]) (fun w h=>by obtain ⟨⟨h0,h1,h2,h3,h4,h5⟩,-⟩:=FK.out w h;clear h;go_simp;try rfl) ?_
   refine Mixed.wpMix_pure rfl (by kernel_rfl) (.agg #[.string s,.slice Ai li capi]) (fun w h=>by obtain ⟨-,h0,h1⟩:=FK.out w h;clear h;go_simp;try rfl) ?_
   refine Mixed.wpMix_loud rfl ?_
   have v1:=VL.out w3 P3.out I3.out
   go_wp2_with fail
   refine v1.mono ?_
   rintro e w4 ⟨rfl,hb⟩
   have B4:Hid (Below B w1 w4):=B3.out.trans (hb.mono Z3.out)
   have Z4:Hid (B≤w4.heap.size):=Nat.le_trans Z3.out hb.size
   have O4:=Lib.hid (O3.out.below hb)
   have P4:=Lib.hid (P3.out.below hb)
   obtain ⟨⟨h0,h1,h2,h3,h4,h5⟩,-⟩:=FK.out w4 hb
   have C4:=Lib.hid hb
   clear v1 hb B3 Z3 O3 P3 I3 FK VL
   go_wp2
   refine ⟨C4.out,?_⟩
   clear C4
   refine Mixed.wpMix_move rfl (by kernel_rfl) _ rfl (.tuple #[.int .i64 d,.int .i64 q]) rfl ?_
   refine Mixed.wpMix_pure rfl (by kernel_rfl) (.int .i64 d) (fun w h=>by clear h;go_simp;try rfl) ?_
   refine Mixed.wpMix_pure rfl (by kernel_rfl) (.int .i64 q) (fun w h=>by clear h;go_simp;try rfl) ?_
   refine Mixed.wpMix_assign rfl (by kernel_rfl) _ rfl (.int .i64 d) rfl ?_
   simp only [Mixed.wpMix]
   go_wp2_with fail
   refine (BY.out w4 P4.out).mono ?_
   rintro e w5 ⟨A5,c5,rfl,hO5,hb⟩
   have B5:Hid (Below B w1 w5):=B4.out.trans (hb.mono Z4.out)
   have Z5:Hid (B≤w5.heap.size):=Nat.le_trans Z4.out hb.size
   have O5:=Lib.hid (O4.out.below hb)
   have T5:=Lib.hid (hO5.lift Z4.out)
   clear hO5 hb B4 Z4 O4 P4 BY h0 h1 h2 h3 h4 h5
   have hal:=up_alloc w5 (.cells #[.slice A5 lb c5] 28)
   have O6:=Lib.hid (O5.out.below hal)
   have T6:=Lib.hid (T5.out.below hal)
   have B6:=Lib.hid (B5.out.trans (hal.mono Z5.out))
   have Z6:Hid (B≤(w5.alloc (.cells #[.slice A5 lb c5] 28)).heap.size):=Nat.le_trans Z5.out hal.size
   have E6:Hid ((w5.alloc (.cells #[.slice A5 lb c5] 28)).cell? ⟨w5.heap.size,0,none⟩=some (Be.v ⟨A5,c5,bs⟩)):=by
    have:=Lib.cell_of_heap (World.alloc_heap_new w5 (.cells #[.slice A5 lb c5] 28)) 0
    unfold Be.v
    simp only [HLB.out]
    exact this
   have T7:Hid (TOwnB (w5.alloc (.cells #[.slice A5 lb c5] 28)) B (Be.v ⟨A5,c5,bs⟩) bs):=by
    have:=T6.out
    unfold Be.v
    simp only [HLB.out]
    exact this
   have O7:Hid (OwnBR (w5.alloc (.cells #[.slice A5 lb c5] 28)) B (.slice A4 R.length cap4) R):=by rw [RL.out];exact O6.out
   have RK7:Hid ((R++[(⟨A5,c5,bs⟩:Be)]).map Be.xs=((Re.map Ee.k).take (k+1)).map (encK s C)):=by
    show _=_
    have e:=TK.out
    have f:=RK.out
    unfold encK at f ⊢
    rw [e,List.map_append,f]
    rfl
   have RL7:Hid ((R++[(⟨A5,c5,bs⟩:Be)]).length=k+1):=by show _=_;rw [List.length_append,RL.out];rfl
   clear O6 T6 T5 O5 B5 Z5 hal TK RK HLB
   go_wp2_with (at_builtin;refine wpList_appBR O7.out ⟨A5,c5,bs⟩ w5.heap.size E6.out T7.out Z6.out (by rw [RL.out];omega) rfl _ _ rfl rfl (by rw [← RL.out];rfl) rfl ?_;intro A8 c8 w8 hO8 hB8;have O8:=Lib.hid hO8;have B8:=Lib.hid (B6.out.trans (hB8.mono (Nat.le_refl _)));have Z8:=Lib.hid (Nat.le_trans Z6.out hB8.size);clear hO8 hB8)
   go_roundw
   case rel=>exact ⟨k+1,A8,c8,R++[(⟨A5,c5,bs⟩:Be)],by omega,by go_num,by rw [List.length_append];rfl,RL7.out,O8.out,RK7.out,B8.out,Z8.out⟩
   case measure=>simp [intOf];omega
  ·obtain rfl:k=ne:=by omega
   obtain ⟨-,-,-,p5⟩:=KEEP.out wr BW.out
   have F:Hid (RetFo w ((allR s C).map (encK s C)) (.returned (.slice A4 k cap4)) wr):=by
    refine ⟨A4,cap4,R,by rw [RL.out],by rw [RL.out,HN.out];exact O.out.lift (by omega),?_,by rw [HN.out];exact p5⟩
    rw [RK.out,← HK.out,List.take_of_length_le (by rw [List.length_map,HNE.out];exact Nat.le_refl _)]
   clear p5 RK O BW
   go_wp2
   go_ret
   exact F.out
end Go.Proofs.YtoilebmbljpieaaGreatDoor
namespace Go.Proofs.YtoilebmbljpieaaGreatDoor
open Go.RowKit Go.Shelf
def Rho (cb:Nat) (W:World) (g:Nat):Prop:=∃ a n c,W.cell? ⟨cb,0,none⟩=some (.slice (some a) n c)∧a.block=g
def CbOk (cb:Nat) (W:World):Prop:=(∃ o,W.heap[cb]?=some o∧o.isCells=true)∧∀ g,Rho cb W g→g<W.heap.size
def KeepL (cb:Nat) (W W':World):Prop:=W.heap.size≤W'.heap.size∧(CbOk cb W→CbOk cb W'∧(∀ k o,k≠cb→¬Rho cb W k→W.heap[k]?=some o→o.isCells=true→W'.heap[k]?=some o)∧∀ g,Rho cb W' g→Rho cb W g∨W.heap.size≤g)
def KeepS (S:Nat→Prop) (W W':World):Prop:=W.heap.size≤W'.heap.size∧∀ k o,S k→W.heap[k]?=some o→o.isCells=true→W'.heap[k]?=some o
theorem KeepL.s {cb:Nat} {W W':World} (h:KeepL cb W W') (c:CbOk cb W):KeepS (fun k=>k≠cb∧¬Rho cb W k) W W':=⟨h.1,fun k o hk ho hc=>(h.2 c).2.1 k o hk.1 hk.2 ho hc⟩
theorem KeepL.ok {cb:Nat} {W W':World} (h:KeepL cb W W') (c:CbOk cb W):CbOk cb W':=(h.2 c).1
theorem KeepL.refl (cb:Nat) (W:World):KeepL cb W W:=⟨Nat.le_refl _,fun c=>⟨c,fun _ _ _ _ h _=>h,fun _ h=>.inl h⟩⟩
theorem KeepL.trans {cb:Nat} {A B C:World} (h:KeepL cb A B) (k:KeepL cb B C):KeepL cb A C:=by
 refine ⟨Nat.le_trans h.1 k.1,fun c=>?_⟩
 obtain ⟨b1,b2,b3⟩:=h.2 c
 obtain ⟨c1,c2,c3⟩:=k.2 b1
 refine ⟨c1,fun x o hx hr ho hc=>c2 x o hx (fun hr2=>?_) (b2 x o hx hr ho hc) hc,fun g hg=>?_⟩
 ·rcases b3 x hr2 with h1 | h1
  ·exact hr h1
  ·have:=(Array.getElem?_eq_some_iff.1 ho).1
   omega
 ·rcases c3 g hg with h1 | h1
  ·exact b3 g h1
  ·exact .inr (Nat.le_trans h.1 h1)
theorem Rho.of_heap {cb g:Nat} {W W':World} (e:W'.heap[cb]?=W.heap[cb]?) (h:Rho cb W' g):Rho cb W g:=by
 obtain ⟨a,n,c,h1,h2⟩:=h
 exact ⟨a,n,c,(World.cell?_of_block e.symm).trans h1,h2⟩
theorem CbOk.lt {cb:Nat} {W:World} (c:CbOk cb W):cb<W.heap.size:=by
 obtain ⟨⟨o,ho,-⟩,-⟩:=c
 exact (Array.getElem?_eq_some_iff.1 ho).1
theorem Rho.back {cb g:Nat} {W W':World} (hb:Below W.heap.size W W') (c:CbOk cb W) (h:Rho cb W' g):Rho cb W g:=h.of_heap (hb.block cb c.lt)
theorem KeepL.of_below {cb:Nat} {W W':World} (hb:Below W.heap.size W W'):KeepL cb W W':=by
 refine ⟨hb.size,fun c=>⟨⟨?_,fun g hg=>Nat.lt_of_lt_of_le (c.2 g (hg.back hb c)) hb.size⟩,fun k o _ _ ho _=>(hb.block k (Array.getElem?_eq_some_iff.1 ho).1).trans ho,fun g hg=>.inl (hg.back hb c)⟩⟩
 obtain ⟨o,ho,hc⟩:=c.1
 exact ⟨o,(hb.block cb c.lt).trans ho,hc⟩
theorem KeepL.put {cb:Nat} (W:World) (l:Nat) (o o':Obj) (hl:W.heap[l]?=some o) (ho:o.isCells=false):KeepL cb W (W.putObj l o'):=by
 refine ⟨by simp,fun c=>?_⟩
 have other:∀ k (x:Obj),W.heap[k]?=some x→x.isCells=true→(W.putObj l o').heap[k]?=W.heap[k]?:=fun k x hx hc=>by
  have hne:k≠l:=by
   rintro rfl
   rw [hl] at hx
   obtain rfl:=Option.some.inj hx
   rw [ho] at hc
   cases hc
  exact World.putObj_heap_other hne
 obtain ⟨q,hq,hqc⟩:=c.1
 have e:=other cb q hq hqc
 exact ⟨⟨⟨q,e.trans hq,hqc⟩,fun g hg=>by have:=c.2 g (hg.of_heap e);simpa using this⟩,fun k x _ _ hx hc=>(other k x hx hc).trans hx,fun g hg=>.inl (hg.of_heap e)⟩
theorem KeepS.cell {S:Nat→Prop} {W W':World} (h:KeepS S W W') {a:Addr} {v:Value} (hv:W.cell? a=some v) (ha:S a.block):W'.cell? a=some v:=by
 obtain ⟨o,ho,hc⟩:=cells_of_cell hv
 exact (World.cell?_of_block ((h.2 _ o ha ho hc).trans ho.symm)).trans hv
theorem OpsP.keepS {S:Nat→Prop} {W W':World} {A:Option Addr} {L:List Tr} (h:OpsP W A L) (k:KeepS S W W') (hA:∀ a,A=some a→L≠[]→S a.block):OpsP W' A L:=by
 by_cases hL:L=[]
 ·exact .inl hL
 rcases h with h | ⟨b,off,rfl,hc⟩
 ·exact absurd h hL
 ·have hb:S b:=hA _ rfl hL
  refine .inr ⟨b,off,rfl,fun j hj=>?_⟩
  obtain ⟨h1,h2,h3⟩:=hc j hj
  exact ⟨k.cell h1 hb,k.cell h2 hb,k.cell h3 hb⟩
theorem KsP.keepS {S:Nat→Prop} {W W':World} {A:Option Addr} {L:List Int} (h:KsP W A L) (k:KeepS S W W') (hA:∀ a,A=some a→L≠[]→S a.block):KsP W' A L:=by
 by_cases hL:L=[]
 ·exact .inl hL
 rcases h with h | ⟨b,off,rfl,hc⟩
 ·exact absurd h hL
 ·have hb:S b:=hA _ rfl hL
  exact .inr ⟨b,off,rfl,fun j hj=>k.cell (hc j hj) hb⟩
theorem MaxAt.keepS {S:Nat→Prop} {W W':World} (h:MaxAt W) (k:KeepS S W W') (hb:S 0):MaxAt W':=by
 obtain ⟨m,hm⟩:=h
 exact ⟨m,k.cell hm hb⟩
theorem EsN.keepS {S:Nat→Prop} {N:Nat} {W W':World} {A:Option Addr} {R:List Ee} (h:EsN N W A R) (k:KeepS S W W') (hN:∀ b,N≤b→S b):EsN N W' A R:=by
 obtain ⟨h1,h2,h3⟩:=h
 refine ⟨?_,h2,h3⟩
 by_cases hR:R=[]
 ·exact .inl hR
 rcases h1 with h | ⟨b,off,rfl,hc⟩
 ·exact absurd h hR
 ·have hb:S b:=hN b (by have:=h2 _ rfl hR;simpa using this)
  refine .inr ⟨b,off,rfl,fun j hj=>⟨fun i u hu=>k.cell ((hc j hj).1 i u hu) hb,(hc j hj).2.keepS k fun a ha hL=>hN _ (h3 _ (List.getElem_mem hj) a ha hL)⟩⟩
theorem OwnT.keepS {S:Nat→Prop} {n:Nat} {W W':World} {v:Value} {L:List Tr} (h:OwnT W n v L) (k:KeepS S W W') (hS:∀ b,n≤b→S b):OwnT W' n v L:=by
 obtain ⟨h0,h⟩:=h
 refine ⟨h0,?_⟩
 rcases h with h | ⟨g,cap,cur,h1,h2,h3,h4⟩
 ·exact .inl h
 ·exact .inr ⟨g,cap,cur,h1,h2,k.2 g _ (hS g h2) h3 rfl,h4⟩
def EsT (N:Nat) (W:World) (A:Option Addr) (R:List Ee):Prop:=EsN N W A R∧∀ r∈R,OwnT W N r.v r.L
theorem EsT.keepS {S:Nat→Prop} {N:Nat} {W W':World} {A:Option Addr} {R:List Ee} (h:EsT N W A R) (k:KeepS S W W') (hN:∀ b,N≤b→S b):EsT N W' A R:=
 ⟨h.1.keepS k hN,fun r hr=>(h.2 r hr).keepS k hN⟩
theorem OwnXT.esT {w:World} {n:Nat} {A:Option Addr} {cap:Nat} {R:List Ee} (h:OwnXT w n (.slice A R.length cap) R):EsT n w A R:=⟨h.esN,h.2⟩
def ShT (n:Nat) (op:Str) (C:List Tr) (pre:List Ee) (x:Ee) (W:World):Prop:=ShE op C pre x W∧OwnT W n x.v x.L
end Go.Proofs.YtoilebmbljpieaaGreatDoor
namespace Go.Proofs.YtoilebmbljpieaaGreatDoor
open Go.RowKit Go.Shelf
attribute [local go_sem] Oper.semAt_some
theorem shape_tellsL (n:Nat) (Bs cb:Nat) (op:Str) (A:Option Addr) (cap lc:Nat) (C:List Tr) (hlc:C.length=lc) (hLc:lc≤1000) (w:World) (hs:w.heap[Bs]?=some (.cells #[.string (sB op),.slice A lc cap] 26 (0,0))) (hP:OpsP w A C) (hM:MaxAt w) (hcb:cb<w.heap.size) (h1:Bs≠cb) (h2:∀ a,A=some a→C≠[]→a.block≠cb) (h3:0≠cb) (h4:CbOk cb w) (h5:∀ g,¬Rho cb w g) :
  Stops.TellsW Fence.wide n Tryz.prog 117 #[.pointer (some ⟨Bs,0,none⟩)] (fun x:Ee=>#[eeV x]) (ShT w.heap.size op C) (KeepL cb) (fun ys=>ys.map Ee.k=candK op C) w:=fun lp J Jx W hW hJ hY hJx h0=>by
 have hJd:∀ (z:List Ee) (X Y:World),J z X→Below X.heap.size X Y→J z Y:=fun z X Y h hb=>hJ z X Y none h (grow_below hb none) (fun r e=>by cases e)
 have hs1:=(hW.block Bs (Array.getElem?_eq_some_iff.1 hs).1).trans hs
 have pg:=pages_any (sB op) A cap lc C hlc hLc W (hP.below hW)
 obtain ⟨n0,hn0⟩:∃ z,w.heap.size=z:=⟨_,rfl⟩
 have NW:n0≤W.heap.size:=by rw [← hn0];exact hW.size
 have OKW:Hid (CbOk cb W):=(KeepL.of_below hW).ok h4
 have RW:Hid (∀ g,¬Rho cb W g):=fun g hg=>h5 g (hg.back hW h4)
 have hcW:Hid (cb<W.heap.size):=by have:=hW.size;show cb<_;omega
 have k0:=Lib.cell_of_heap hs1 0
 have k1:=Lib.cell_of_heap hs1 1
 have KB:=Lib.hid (And.intro hs1 (And.intro (hP.below hW) (hM.below hW)))
 have J0:=Lib.hid h0
 have HY:=Lib.hid hY
 have HL:=Lib.hid hlc
 have HA:=Lib.hid (And.intro h1 (And.intro h2 h3))
 have HJd:=Lib.hid hJd
 clear h0 hY hJ hJx hW hs hP hs1 hlc h1 h2 h3 h4 h5 hJd hM hcb
 refine callsIn_wide.2 ?_
 show Calls Tryz.prog 117 #[.func (.yield lp) #[] #[],.pointer (some ⟨Bs,0,none⟩)] W _
 go_enter Tryz.func117,Tryz.ntmps117
 go_wp2_with fail
 refine pg.mono ?_
 rintro e W0 ⟨Ap,rfl,hks,hb,hrow⟩
 have KS:=Lib.hid hks
 obtain ⟨P,hPP⟩:∃ P,pagesC C=P:=⟨_,rfl⟩
 rw [hPP] at KS ⊢
 have HPP:=Lib.hid hPP
 have HPL:P.length≤3:=by rw [← hPP];unfold pagesC;split <;> (try split) <;> simp
 have KB1:Hid (W0.heap[Bs]?=some (.cells #[.string (sB op),.slice A lc cap] 26 (0,0))∧OpsP W0 A C∧MaxAt W0):=⟨(hb.block Bs (Array.getElem?_eq_some_iff.1 KB.out.1).1).trans KB.out.1,KB.out.2.1.below hb,KB.out.2.2.below hb⟩
 have J1:=Lib.hid (HJd.out _ _ _ J0.out hb)
 have NW0:Hid (n0≤W0.heap.size):=Nat.le_trans NW hb.size
 have OK0:Hid (CbOk cb W0):=(KeepL.of_below hb).ok OKW.out
 have R0:Hid (∀ g,¬Rho cb W0 g):=fun g hg=>RW.out g (hg.back hb OKW.out)
 have HC1:Hid (cb<W0.heap.size):=by have:=hb.size;have:=hcW.out;show cb<_;omega
 have HPB:Hid (∀ a,Ap=some a→P≠[]→a.block≠cb):=fun a ha _=>by have:=hrow a ha;have:=hcW.out;omega
 obtain ⟨np,hnp⟩:∃ z,P.length=z:=⟨_,rfl⟩
 have HNP:=Lib.hid hnp
 rw [hnp] at HPL ⊢
 clear NW
 clear hks hb hrow KB J0 hcW OKW RW pg hPP k0 k1 hnp
 go_wp2
 go_loopw [10] (fun i wr=>∃ (j:Nat) (pre:List Ee),j≤np∧i=.int .i64 j∧Hid (KeepL cb W0 wr)∧Hid (J pre wr)∧Hid (pre.map Ee.k=candP op C (P.take j))) (fun i _=>np - (intOf i).toNat)
 case atStart=>exact ⟨0,[],Nat.zero_le _,rfl,KeepL.refl _ _,J1.out,rfl⟩
 case round=>
  clear J1
  obtain ⟨j,pre,hj,rfl,KK,JJ,PK⟩:=hrel
  by_cases hlt:j<np
  ·have hjP:j<P.length:=by rw [HNP.out];exact hlt
   obtain ⟨b1,o1,rfl,p0⟩:=(KS.out.keepS (KK.out.s OK0.out) fun a ha hne=>⟨HPB.out a ha hne,R0.out _⟩).at_ hjP
   obtain ⟨pg,hpg⟩:∃ z,P[j]=z:=⟨_,rfl⟩
   have PT:Hid (P.take (j+1)=P.take j++[pg]):=by show P.take (j+1)=_;rw [List.take_succ_eq_append_getElem hjP,hpg]
   rw [hpg] at p0
   have fb:=(KK.out.s OK0.out).2 Bs _ ⟨HA.out.1,R0.out _⟩ KB1.out.1 rfl
   have k0:=Lib.cell_of_heap fb 0
   have ma:=KB1.out.2.2.keepS (KK.out.s OK0.out) ⟨HA.out.2.2,R0.out _⟩
   have ba:=up1 wr (.cells #[.int .i64 pg] 3)
   have nm:=named_any op _ (ma.below ba) (some ⟨wr.heap.size,0,none⟩) 1 [pg] (ints_onep wr pg) (by simp)
   rw [keysAll_one] at nm
   have BA:=Lib.hid ba
   clear hjP fb hpg
   go_wp2_with fail
   refine nm.mono ?_
   rintro e W2 ⟨Ae,ce,R,rfl,hO,hK,hb⟩
   have hb':Below wr.heap.size wr W2:=ba.trans (hb.mono ba.size)
   have K2:Hid (KeepL cb W0 W2):=KK.out.trans (KeepL.of_below hb')
   have J2:=Lib.hid (HJd.out _ _ _ JJ.out hb')
   have hsz:cb<(wr.alloc (.cells #[.int .i64 pg] 3)).heap.size:=by have h8:=KK.out.1;have:=HC1.out;simp;omega
   have ES:=Lib.hid hO.esT
   obtain ⟨N,hN⟩:∃ N,(wr.alloc (.cells #[.int .i64 pg] 3)).heap.size=N:=⟨_,rfl⟩
   rw [hN] at ES hsz
   have OKr:=KK.out.ok OK0.out
   have NN:Hid (n0≤N):=by
    have h1:=NW0.out
    have h2:=KK.out.1
    have h3:wr.heap.size≤N:=by rw [← hN];exact ba.size
    show n0≤N
    omega
   have OK2:=Lib.hid (K2.out.ok OK0.out)
   have HN8:wr.heap.size≤N:=by rw [← hN];exact ba.size
   have HN2:Hid (∀ b,N≤b→b≠cb∧¬Rho cb W2 b):=fun b hbn=>⟨by omega,fun (hg:Rho cb W2 b)=>absurd (OKr.2 b (hg.back hb' OKr)) (by omega)⟩
   have KR:Hid (R.map Ee.k=keysPg (fun m=>decide (m=op)) pg):=hK
   have PK2:Hid (candP op C (P.take (j+1))=pre.map Ee.k++(R.map Ee.k).filter (shpE C)):=by
    show _=_
    rw [PT.out,candP_snoc,PK.out,KR.out]
   have RL:R.length≤256:=by
    have h1:(R.map Ee.k).length=_:=congrArg List.length hK
    rw [List.length_map] at h1
    rw [h1]
    exact keysPg_len op pg
   have PF:Hid (candP op C (P.take (j+1)) <+: candK op C):=by
    show _ <+: _
    unfold candK
    rw [HPP.out]
    exact candP_pre op C P (j+1)
   obtain ⟨nr,hnr⟩:∃ z,R.length=z:=⟨_,rfl⟩
   have HNR:=Lib.hid hnr
   have HJ1:Hid (j+1≤np):=by show _≤_;omega
   rw [hnr] at RL ⊢
   clear nm hO hK hb hb' hN hsz k0 p0 ma ba KK JJ PK hnr OKr HN8
   go_wp2
   go_loopw [20] (fun i wr=>∃ (k:Nat) (pr:List Ee),k≤nr∧i=.int .i64 k∧Hid (KeepL cb W0 wr)∧Hid (KeepL cb W2 wr)∧Hid (J pr wr)∧Hid (pr.map Ee.k=pre.map Ee.k++candE C R k)) (fun i _=>nr - (intOf i).toNat)
   case atStart=>exact ⟨0,pre,Nat.zero_le _,rfl,K2.out,KeepL.refl _ _,J2.out,by show _=_;simp [candE]⟩
   case round=>
    clear K2 J2
    obtain ⟨k,pr,hk,rfl,KA,KK,JJ,PK⟩:=hrel
    by_cases hlt2:k<nr
    ·have hkR:k<R.length:=by rw [HNR.out];exact hlt2
     have hes:=ES.out.keepS (KK.out.s OK2.out) HN2.out
     have hat:=hes.1.1.at_ hkR
     have hty:=hes.2 _ (List.getElem_mem hkR)
     have CS:=candE_succ C R k hkR
     obtain ⟨r,hr⟩:∃ r,R[k]=r:=⟨_,rfl⟩
     have hmem:r.k∈keysPg (fun m=>decide (m=op)) pg:=by rw [← KR.out,← hr];exact List.mem_map_of_mem (List.getElem_mem hkR)
     rw [hr] at hat CS hty
     have HCS:=Lib.hid CS
     have PKL:Hid (∀ k',k'≤R.length→pre.map Ee.k++candE C R k' <+: candK op C):=fun k' hk'=>by
      refine List.IsPrefix.trans ?_ PF.out
      rw [PK2.out]
      refine (List.prefix_append_right_inj _).2 ?_
      unfold candE
      conv=>rhs;rw [← List.take_append_drop k' (R.map Ee.k),List.filter_append,← List.map_take]
      exact List.prefix_append _ _
     have HPK1:=Lib.hid (PKL.out (k+1) (by omega))
     obtain ⟨g,o,m,Ar,cr,Lr,ex,al⟩:=r
     simp only [Ee.v] at hat
     obtain ⟨be,oe,rfl,hbe,e0,e1,e2,e3,e4,e5,eO⟩:=hat
     obtain ⟨ll,hll⟩:∃ z,Lr.length=z:=⟨_,rfl⟩
     rw [hll] at e3
     have HLL:=Lib.hid hll
     have fb:=(KA.out.s OK0.out).2 Bs _ ⟨HA.out.1,R0.out _⟩ KB1.out.1 rfl
     have k1:=Lib.cell_of_heap fb 1
     have cO:=KB1.out.2.1.keepS (KA.out.s OK0.out) fun a ha hne=>⟨HA.out.2.1 a ha hne,R0.out _⟩
     obtain ⟨wa,hwa⟩:∃ z,wr.alloc (.cells #[.int .i64 g,.int .u8 o,.string (sB m),.slice Ar ll cr,.string (sB ex),.bool al] 38)=z:=⟨_,rfl⟩
     have ba:Below wr.heap.size wr wa:=by rw [← hwa];exact up1 _ _
     have nb:wa.heap[wr.heap.size]?=some (.cells #[.int .i64 g,.int .u8 o,.string (sB m),.slice Ar ll cr,.string (sB ex),.bool al] 38 (0,0)):=by rw [← hwa];exact World.alloc_heap_new _ _
     have k1':=(ba.cell (p:=⟨Bs,1,none⟩) (Array.getElem?_eq_some_iff.1 fb).1).trans k1
     have s0:=Lib.cell_of_heap nb 0
     have s1:=Lib.cell_of_heap nb 1
     have s2:=Lib.cell_of_heap nb 2
     have s3:=Lib.cell_of_heap nb 3
     have s4:=Lib.cell_of_heap nb 4
     have s5:=Lib.cell_of_heap nb 5
     have eq:=equalK_any Ar A cr cap ll lc Lr C hll HL.out (by have h:=keysPg_small op pg _ hmem;simp only [Ee.k] at h;omega) hLc wa (eO.below ba) (cO.below ba)
     have BA:=Lib.hid ba
     have NB:=Lib.hid nb
     have EO:=Lib.hid (eO.below ba)
     have TO:=Lib.hid (OwnT.below (OwnT.lift hty NN.out) ba)
     simp only [Ee.v,hll] at TO
     have SH:shpE C (Ee.k ⟨g,o,m,Ar,cr,Lr,ex,al⟩)=decide (Lr.map ks2=C.map ks2):=rfl
     obtain ⟨tt,htt⟩:∃ z,decide (Lr.map ks2=C.map ks2)=z:=⟨_,rfl⟩
     rw [htt] at eq SH
     rw [SH] at HCS CS
     have HCS:=Lib.hid CS
     clear CS hkR hmem hes hty eO fb k1 cO hll htt SH hbe ba nb hr
     go_upto_region 6 with fail
     clear e0 e1 e2 e3 e4 e5
     have KA2:Hid (KeepL cb W0 wa):=KA.out.trans (KeepL.of_below BA.out)
     have KK2:Hid (KeepL cb W2 wa):=KK.out.trans (KeepL.of_below BA.out)
     have J2:=Lib.hid (HJd.out _ _ _ JJ.out BA.out)
     clear KA KK JJ
     cases tt with
     | false=>
      have PS:Hid (pr.map Ee.k=pre.map Ee.k++candE C R (k+1)):=by show _=_;rw [HCS.out,PK.out,if_neg (by decide),List.append_nil]
      go_wp2_with fail
      refine eq.mono ?_
      rintro e W5 ⟨rfl,hb⟩
      have KA5:Hid (KeepL cb W0 W5):=KA2.out.trans (KeepL.of_below hb)
      have KK5:Hid (KeepL cb W2 W5):=KK2.out.trans (KeepL.of_below hb)
      have J5:=Lib.hid (HJd.out _ _ _ J2.out hb)
      clear eq hb KA2 KK2 J2
      go_wp2
      go_roundw
      case rel=>exact ⟨k+1,pr,by omega,by go_num,KA5.out,KK5.out,J5.out,PS.out⟩
      case measure=>simp [intOf];omega
     | true=>
      have PS:Hid ((pr++[(⟨g,o,m,Ar,cr,Lr,ex,al⟩:Ee)]).map Ee.k=pre.map Ee.k++candE C R (k+1)):=by
       show _=_
       rw [HCS.out,List.map_append,PK.out,if_pos rfl,List.append_assoc]
       rfl
      have PX:Hid ((pr++[(⟨g,o,m,Ar,cr,Lr,ex,al⟩:Ee)]).map Ee.k <+: candK op C):=by show _ <+: _;rw [PS.out];exact HPK1.out
      refine (wpIn_wide (n:=n)).1 ?_
      gi_wp2_with fail
      refine ⟨trivial,fun h=>(by cases h),(callsIn_wide.2 eq).mono ?_⟩
      rintro e W5 ⟨rfl,hb⟩
      have KA5:Hid (KeepL cb W0 W5):=KA2.out.trans (KeepL.of_below hb)
      have KK5:Hid (KeepL cb W2 W5):=KK2.out.trans (KeepL.of_below hb)
      have J5:=Lib.hid (HJd.out _ _ _ J2.out hb)
      have hyd:=HY.out pr ⟨g,o,m,Ar,cr,Lr,ex,al⟩ W5 J5.out ⟨⟨PX.out,EO.out.below hb⟩,by simp only [Ee.v,HLL.out,hn0];exact TO.out.below hb⟩
      obtain ⟨fn,tmps,assign,body,hy,hR⟩:=hyd
      have nb5:=(hb.block _ (Array.getElem?_eq_some_iff.1 NB.out).1).trans NB.out
      have s0:=Lib.cell_of_heap nb5 0
      have s1:=Lib.cell_of_heap nb5 1
      have s2:=Lib.cell_of_heap nb5 2
      have s3:=Lib.cell_of_heap nb5 3
      have s4:=Lib.cell_of_heap nb5 4
      have s5:=Lib.cell_of_heap nb5 5
      simp only [eeV,enV,Ee.v] at hy
      rw [HLL.out] at hy
      clear eq hb KA2 KK2 J2 nb5
      gi_wp2
      refine ⟨fun h=>(by cases h),hR.mono ?_⟩
      rintro e3 W3 (⟨rfl,hJ3,hk3⟩ | ⟨rfl,hJx3⟩)
      ·have KA6:Hid (KeepL cb W0 W3):=KA5.out.trans hk3
       have KK6:Hid (KeepL cb W2 W3):=KK5.out.trans hk3
       have J6:=Lib.hid hJ3
       clear hJ3 hk3 hR hy KA5 KK5 J5
       gi_wp2
       go_wp2
       go_roundw
       case rel=>exact ⟨k+1,_,by omega,by go_num,KA6.out,KK6.out,J6.out,PS.out⟩
       case measure=>simp [intOf];omega
      ·clear hR hy
       gi_wp2
       go_wp2
       refine bodyPost_ret (results_none rfl _ _ _) rfl ?_
       exact ⟨⟨_,rfl⟩,.inr ⟨_,hJx3⟩⟩
    ·have PE:Hid (pr.map Ee.k=candP op C (P.take (j+1))):=by
      show _=_
      rw [PK2.out,PK.out]
      unfold candE
      rw [List.take_of_length_le (by have:=HNR.out;omega)]
     go_wp2
     go_roundw
     case rel=>exact ⟨j+1,pr,HJ1.out,by go_num,KA.out,JJ.out,PE.out⟩
     case measure=>simp [intOf];omega
  ·have PE:Hid (pre.map Ee.k=candK op C):=by
    show _=_
    unfold candK
    rw [HPP.out,PK.out,List.take_of_length_le (by have:=HNP.out;omega)]
   go_wp2
   go_end0
   have h:=JJ.out
   exact ⟨⟨_,rfl⟩,.inl ⟨_,PE.out,h⟩⟩
end Go.Proofs.YtoilebmbljpieaaGreatDoor
namespace Go.Proofs.YtoilebmbljpieaaGreatDoor
open Go.RowKit Go.Shelf
theorem append_where {P:Program} (w:World) (base:Nat) (t ty e:TypeId) (i:TypeInfo) (z:Value) (ht:P.underlying t=some (.slice e)) (hi:P.info? e=some i) (hz:i.zero=some z)
  (v:Value) (n:Nat) (xs:List Value) (hown:w.ownsRow base e i.size v n xs) (a:Addr) (m c:Nat) (news:List Value) (hl:news.length=m*i.size)
  (hnews:∀ j u,news[j]?=some u→w.cell? (a.add j)=some u) (h1:∀ u∈news,u.oneCell'=true) (h0:0<m) (h63:n+m≤maxLen) (hbytes:(n+m)*i.bytes≤140737488355328)
  {v':Value} {w':World} (h:(Builtin.append_ #[t,t] ty #[v,.slice (some a) m c]).run P w=.ok v' w'):v'.ownBlock=v.ownBlock∨v'.ownBlock=some w.heap.size:=by
 have h9:n+m≤9223372036854775807:=by simp only [maxLen] at h63;omega
 rcases hown.2 with ⟨rfl,rfl⟩ | ⟨g,cap,cur,rfl,hbg,hg,hnc,hcm,hcs,htake⟩
 ·have hr:=run_append_nil (P:=P) w t ty e i z ht hi hz a m c news hl hnews h0 (by omega) (by simp only [Nat.zero_add] at hbytes;omega)
  rw [hr] at h
  injection h with e1 e2
  subst e1
  exact .inr rfl
 ·by_cases hroom:n+m≤cap
  ·have hr:=run_append_room (P:=P) w t ty e i ht hi g n cap cur hg a m c news hl hnews h1 hroom (by rw [hl,hcs,← Nat.add_mul];exact Nat.mul_le_mul_right _ hroom)
   rw [hr] at h
   injection h with e1 e2
   subst e1
   exact .inl rfl
  ·have hr:=run_append_grow (P:=P) w t ty e i z ht hi hz ⟨g,0,none⟩ n cap xs hown.1 (hown.cells (g:=g) rfl) a m c news hl hnews (by omega) (by omega) (growslice_fits (by omega) hbytes)
   rw [hr] at h
   injection h with e1 e2
   subst e1
   exact .inr rfl
theorem run_appXW {wr:World} {B:Nat} {v:Value} {R:List Ee} (h:OwnXT wr B v R) {b c:Nat} {r:Ee} (hP:EsP wr (some ⟨b,0,none⟩) [r]) (hO:OwnT wr B r.v r.L) (hB:B≤wr.heap.size) (hs:R.length+1≤100000) :
  ∃ A' cap' w1,(Builtin.append_ #[91,91] 91 #[v,.slice (some ⟨b,0,none⟩) 1 c]).run Tryz.prog wr=.ok (.slice A' (R++[r]).length cap') w1∧OwnXT w1 B (.slice A' (R++[r]).length cap') (R++[r])∧Below B wr w1∧wr.grownBy w1 v.ownBlock∧∀ p,A'=some p→v.ownBlock=some p.block∨wr.heap.size≤p.block:=by
 obtain ⟨v',w',k1,k2,k3,k4⟩:=run_appXT wr B v R h (some ⟨b,0,none⟩) c [r] hP (fun q hq=>by obtain rfl:=List.mem_singleton.1 hq;exact hO) hB hs
 obtain ⟨A',cap',rfl,-,-⟩:=k2.es
 obtain ⟨i0,hi,hz0,hz1,hz2⟩:=info_parts info_enT
 have hw:=fun p (hp:A'=some p)=>append_where wr B 91 91 38 i0 _ Tryz.underlying91 hi hz0 v R.length (cellsX R) (by rw [hz1];exact h.1) ⟨b,0,none⟩ 1 c (cellsX [r]) (by rw [hz1];exact cellsX_length [r])
  (fun j u hu=>by
   rcases hP.news with h0 | ⟨a0,e0,h2⟩
   ·cases h0
   ·cases e0
    exact h2 j u hu) (cellsX_one [r]) Nat.one_pos (by unfold maxLen;omega) (by rw [hz2];omega) k1
 refine ⟨A',cap',w',k1,k2,k3,k4,fun p hp=>?_⟩
 subst hp
 rcases hw p rfl with h2 | h2
 ·exact .inl h2.symm
 ·exact .inr (by have:=Option.some.inj h2;omega)
end Go.Proofs.YtoilebmbljpieaaGreatDoor
