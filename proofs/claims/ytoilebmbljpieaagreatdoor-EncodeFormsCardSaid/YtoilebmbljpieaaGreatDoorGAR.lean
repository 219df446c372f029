/-
  InL, InR, InC, EsA.
-/
import Derived.Test.YtoilebmbljpieaaGreatDoorGAQ
import Derived.Test.YtoilebmbljpieaaGreatDoorGAC
import Derived.Test.YtoilebmbljpieaaGreatDoorGAO
import Derived.Test.YtoilebmbljpieaaGreatDoorGAD
import Derived.Test.YtoilebmbljpieaaGreatDoorGAL
import Derived.Deep.DeepCutAuto
import Derived.Deep.Cut
import Derived.StillTail
import Derived.StillTailTactics
import Derived.Deep.RegionHeld3
import Derived.RegionTactic
set_option linter.all false
set_option maxRecDepth 100000
set_option maxHeartbeats 4000000
namespace Go.Proofs.YtoilebmbljpieaaGreatDoor
open Go.RowKit Go.Maps
def knB (s:ByteArray):Bool:=opsL.any fun x=>x.toList == s.toList
theorem plainElem_bool_inv {H:Type} {P:Program} {e:TypeId} (he:P.underlying e=some .bool) {v:Value} {z:DataW H×List MemPlace} (h:plainElem P e v=some z):∃ x,v=.bool x∧z=(.lit (.bool x),[]):=by
 unfold plainElem at h
 rw [he] at h
 cases v <;> simp at h
 rename_i x
 exact ⟨x,rfl,h.symm⟩
theorem key_klit (s:ByteArray):WideAt.IsKeyLit (klit s):=by
 first | trivial | exact ⟨_,rfl⟩ | simp [klit,WideAt.IsKeyLit]
theorem same_klit (a b:ByteArray):(klit a).sameKey (klit b)=(a.toList == b.toList):=by
 rw [ByteArray.toList_eq,ByteArray.toList_eq];rfl
theorem at_fold (z:DataW Unit) (s:ByteArray):∀ (l:List ByteArray) (m:DataW Unit),IsMap m→((l.map klit).foldl (fun m x=>m.put x yesD) m).atKey (klit s) z=if (l.any fun x=>x.toList == s.toList) then yesD else m.atKey (klit s) z
 | [],m,_=>rfl
 | x :: l,m,hm=>by
  have ih:=at_fold z s l (m.put (klit x) yesD) (hm.put _ _)
  show ((l.map klit).foldl (fun m x=>m.put x yesD) (m.put (klit x) yesD)).atKey (klit s) z=_
  rw [ih,List.any_cons]
  by_cases hx:klit s=klit x
  ·have h1:(x.toList == s.toList)=true:=by rw [← same_klit,hx];show (x.data.toList == x.data.toList)=true;exact beq_self_eq_true _
   rw [hx,atKey_put_same hm (key_klit x)]
   simp [h1]
  ·have h1:(x.toList == s.toList)=false:=by rw [← same_klit];exact sameKey_ne fun e=>hx e.symm
   rw [atKey_put_other hx]
   simp [h1]
theorem at_setOf (z:DataW Unit) (s:ByteArray) (l:List ByteArray):(setOf yesD (l.map klit)).atKey (klit s) z=if (l.any fun x=>x.toList == s.toList) then yesD else z:=at_fold z s l (.map []) isMap_empty
theorem at_mnD (s:ByteArray):mnD.atKey (klit s) (.lit (.bool false))=.lit (.bool (knB s)):=by
 unfold mnD
 rw [at_setOf]
 unfold knB
 split <;> simp_all
theorem zero_bool (w:World):(zeroValue 4).run Tryz.prog w=.ok (.bool false) w:=by kernel_rfl
def Mn (w:World) (b:Nat):Prop:=w.ownsMap Tryz.prog 9 (plainElem Tryz.prog 4) b 68 mnD
theorem Mn.below {w w':World} {b:Nat} (h:Mn w b) (k:Below w.heap.size w w'):Mn w' b:=World.ownsMap.kept h (row:=none) ⟨k.os,k.tape,k.output,k.size,fun i hi _=>k.block i hi⟩ (by simp)
theorem look_mn {w:World} {b:Nat} (h:Mn w b) (s:ByteArray) (hs:s.size≤maxLen):(Instr.lookup 175 (.map (some b)) (.string s) false).run Tryz.prog w=.ok (.bool (knB s)) w:=by
 obtain ⟨v,ps,hrun,hv⟩:=World.ownsMap.lookup h lawK Tryz.underlying175 (zero_bool w) (plainElem_bool Tryz.underlying4 false) (WideMaps.keyOf_string_mk Tryz.underlying9 hs)
 obtain ⟨x,rfl,hx⟩:=plainElem_bool_inv Tryz.underlying4 hv
 have e:mnD.atKey (klit s) (.lit (.bool false))=.lit (.bool x):=(Prod.mk.injEq .. ▸ hx).1
 rw [at_mnD] at e
 have e2:knB s=x:=by simpa using e
 rw [e2]
 exact hrun
theorem mnemonics_any (w:World):Calls Tryz.prog 123 #[] w fun e w'=>∃ b,e=.returned (.map (some b))∧Mn w' b∧Below w.heap.size w w':=(mn_any w).mono fun e w' h=>⟨_,h⟩
end Go.Proofs.YtoilebmbljpieaaGreatDoor
namespace Go.Proofs.YtoilebmbljpieaaGreatDoor
open Go.RowKit Go.Maps
theorem rops_any (w:World):Calls Tryz.prog 155 #[] w (RetStrs w opsL):=by
 go_enter Tryz.func155,Tryz.ntmps155
 go_wp2
 go_ret
 exact ⟨_,68,rfl,strs_of_new w opsL 9,(Below.refl _ _).alloc (Nat.le_refl _) _⟩
theorem kn_yes (s:ByteArray) (j:Nat) (h:j<opsL.length) (e:(opsL[j].toList == s.toList)=true):true=knB s:=
 (List.any_eq_true.2 ⟨_,List.getElem_mem h,e⟩).symm
theorem kn_no (s:ByteArray) (h:∀ k,k<68→∀ (a:k<opsL.length),(opsL[k].toList == s.toList)=false):false=knB s:=by
 refine (List.any_eq_false.2 fun x hx=>?_).symm
 obtain ⟨k,hk,rfl⟩:=List.getElem_of_mem hx
 rw [h k (by rw [ops_len] at hk;exact hk) hk]
 exact Bool.false_ne_true
theorem rknown_any (s:ByteArray) (w:World) :
  Calls Tryz.prog 128 #[.string s] w fun e w'=>e=.returned (.bool (knB s))∧Below w.heap.size w w':=by
 go_enter Tryz.func128,Tryz.ntmps128
 go_wp2_with fail
 refine (rops_any _).mono ?_
 rintro e w1 ⟨A,cap,rfl,hA,h1⟩
 have X:=Lib.hid hA
 have B1:=Lib.hid h1
 clear hA h1
 rw [ops_len]
 go_wp2
 go_loopw [4] (fun i wr=>∃ j:Nat,j≤68∧i=.int .i64 j∧Hid (∀ k,k<j→∀ (a:k<opsL.length),(opsL[k].toList == s.toList)=false)∧wr=w1) (fun i _=>68 - (intOf i).toNat)
 case atStart=>exact ⟨0,Nat.zero_le _,rfl,fun k h=>by omega,rfl⟩
 case round=>
  obtain ⟨j,hj,rfl,R,rfl⟩:=hrel
  by_cases hlt:j<68
  ·have hj1:j<opsL.length:=by rw [ops_len];exact hlt
   obtain ⟨b1,o1,hA1,p0⟩:=X.out.at_ hj1
   subst hA1
   cases q:(opsL[j].toList == s.toList)
   ·have R2:Hid (∀ k,k<j+1→∀ (a:k<opsL.length),(opsL[k].toList == s.toList)=false):=fun k hk a=>by
     by_cases e:k=j
     ·subst e;exact q
     ·exact R.out k (by omega) a
    obtain ⟨x,hx⟩:∃ x,opsL[j]=x:=⟨_,rfl⟩
    rw [hx] at p0 q
    clear hx R hj1
    go_wp2
    go_roundw
    case rel=>exact ⟨j+1,by omega,by go_num,R2.out,trivial⟩
    case measure=>simp [intOf];omega
   ·have T:Hid (true=knB s):=kn_yes s j hj1 q
    obtain ⟨x,hx⟩:∃ x,opsL[j]=x:=⟨_,rfl⟩
    rw [hx] at p0 q
    clear hx R hj1
    go_wp2
    go_ret
    exact ⟨ret_bool T.out,B1.out⟩
  ·have hj8:j=68:=by omega
   subst hj8
   have T:Hid (false=knB s):=kn_no s R.out
   clear R hlt
   go_wp2
   go_ret
   exact ⟨ret_bool T.out,B1.out⟩
end Go.Proofs.YtoilebmbljpieaaGreatDoor
namespace Go.Proofs.YtoilebmbljpieaaGreatDoor
open Go.RowKit
def vT (t:Tr):Bool:=vldB t.1 t.2.1 t.2.2
def codeI (s:ByteArray) (L:List Tr):Int:=if knB s=false then 12 else if 3<L.length then 11 else if L.all vT then 0 else 2
theorem code_12 (s:ByteArray) (L:List Tr) (h:knB s=false):(12:Int)=codeI s L:=by unfold codeI;rw [if_pos h]
theorem code_11 (s:ByteArray) (L:List Tr) (h:knB s=true) (h3:3<L.length):(11:Int)=codeI s L:=by unfold codeI;rw [if_neg (by simp [h]),if_pos h3]
theorem code_0 (s:ByteArray) (L:List Tr) (h:knB s=true) (h3:¬3<L.length) (hv:∀ k,k<L.length→∀ (a:k<L.length),vT L[k]=true):(0:Int)=codeI s L:=by
 unfold codeI
 rw [if_neg (by simp [h]),if_neg h3,if_pos]
 refine List.all_eq_true.2 fun x hx=>?_
 obtain ⟨k,hk,rfl⟩:=List.getElem_of_mem hx
 exact hv k hk hk
theorem code_2 (s:ByteArray) (L:List Tr) (h:knB s=true) (h3:¬3<L.length) (k:Nat) (hk:k<L.length) (hv:vT L[k]=false):(2:Int)=codeI s L:=by
 unfold codeI
 rw [if_neg (by simp [h]),if_neg h3,if_neg]
 intro hq
 have:=List.all_eq_true.1 hq _ (List.getElem_mem hk)
 rw [hv] at this
 cases this
attribute [local irreducible] Go.Mixed.wpMix
theorem check_all (s:ByteArray) (A:Option Addr) (cap:Nat) (L:List Tr) (hs:s.size≤maxLen) (hL:L.length≤maxLen) (w:World) (H:OpsP w A L) :
  Calls Tryz.prog 88 #[.agg #[.string s,.slice A L.length cap]] w fun e w'=>e=.returned (.int .i64 (codeI s L))∧Below w.heap.size w w':=by
 unfold maxLen at hL
 have X:=Lib.hid H
 have C12:=Lib.hid (code_12 s L)
 have C11:=Lib.hid (code_11 s L)
 have C0:=Lib.hid (code_0 s L)
 have C2:=Lib.hid (code_2 s L)
 obtain ⟨n,hn⟩:∃ n,L.length=n:=⟨_,rfl⟩
 have HN:=Lib.hid hn
 obtain ⟨kb,hkb⟩:∃ kb,knB s=kb:=⟨_,rfl⟩
 have HK:=Lib.hid hkb
 rw [hn] at hL ⊢
 have T0:=Lib.hid (Bx.new w s A n cap 26)
 have B0:Hid (Below w.heap.size w (w.alloc (.cells #[.string s,.slice A n cap] 26))):=(Below.refl _ _).alloc (Nat.le_refl _) _
 clear H hn hkb
 go_enter Tryz.func88,Tryz.ntmps88
 go_wp2
 refine Mixed.wp_region_mixed (fun w'=>Bx w' w.heap.size s A n cap) 3 [(1,true),(2,true),(0,false)] (by kernel_rfl) (by kernel_rfl) T0.out ?_
 refine Mixed.wpMix_pure rfl (by kernel_rfl) (.pointer (some ⟨w.heap.size,0,none⟩)) (fun w h=>by obtain ⟨h1,h2⟩:=h;go_simp;try rfl) ?_
 refine Mixed.wpMix_pure rfl (by kernel_rfl) (.string s) (fun w h=>by obtain ⟨h1,h2⟩:=h;go_simp;try rfl) ?_
 refine Mixed.wpMix_loudG rfl (by kernel_rfl) ?_
 go_wp2_with fail
 refine (mnemonics_any _).mono ?_
 rintro e w1 ⟨mb,rfl,hM,h1⟩
 have T1:Hid (Bx w1 w.heap.size s A n cap):=T0.out.all (((below_drewN _ _ 1)).trans h1)
 have B1:Hid (Below w.heap.size w w1):=(B0.out.trans (below_drewN _ _ 1)).trans (h1.mono (by simp))
 have LK:=look_mn hM s hs
 rw [HK.out] at LK
 have xx:=T1.out
 clear hM h1 T0 B0
 go_wp2
 refine ⟨xx,?_⟩
 simp only [Mixed.wpMix,List.drop_succ_cons,List.drop_zero]
 clear xx
 cases kb with
 | false=>
  have E:=Lib.hid (C12.out HK.out)
  go_wp2
  go_ret
  exact ⟨ret_int E.out,B1.out⟩
 | true=>
  have xx:=T1.out
  obtain ⟨x0,x1⟩:=xx
  by_cases h3:3<n
  ·have E:=Lib.hid (C11.out HK.out (by rw [HN.out];exact h3))
   have h3':(3:Int)<(n:Int):=by omega
   go_wp2
   go_ret
   exact ⟨ret_int E.out,B1.out⟩
  ·have H3:Hid (¬3<L.length):=by rw [HN.out];exact h3
   have h3':¬(3:Int)<(n:Int):=by omega
   go_wp2
   clear h3' h3
   go_loopw [17] (fun i wr=>∃ j:Nat,j≤n∧i=.int .i64 j∧Hid (∀ k,k<j→∀ (a:k<L.length),vT L[k]=true)∧Hid (Below w.heap.size w wr)) (fun i _=>n - (intOf i).toNat)
   case atStart=>exact ⟨0,Nat.zero_le _,rfl,fun k h=>by omega,B1.out⟩
   case round=>
    obtain ⟨j,hj,rfl,R,B⟩:=hrel
    by_cases hlt:j<n
    ·have hj1:j<L.length:=by have:=HN.out;omega
     obtain ⟨b1,o1,hA1,-,p0,p1,p2⟩:=(X.out.below B.out).at_ hj1
     subst hA1
     have HV:Hid (vT L[j]=vldB L[j].1 L[j].2.1 L[j].2.2):=rfl
     have R2:Hid (vT L[j]=true→∀ k,k<j+1→∀ (a:k<L.length),vT L[k]=true):=fun q k hk a=>by
      by_cases e:k=j
      ·subst e;exact q
      ·exact R.out k (by omega) a
     have N2:Hid (vT L[j]=false→2=codeI s L):=fun q=>C2.out HK.out H3.out j hj1 q
     obtain ⟨vb,hvb⟩:∃ vb,vT L[j]=vb:=⟨_,rfl⟩
     rw [hvb] at HV R2 N2
     obtain ⟨⟨y0,y1,y2⟩,hy⟩:∃ y,L[j]=y:=⟨_,rfl⟩
     rw [hy] at p0 p1 p2 HV
     simp only at p0 p1 p2 HV
     have VV:=Lib.hid (valid_any y0 y1 y2)
     rw [← HV.out] at VV
     have hal:Below wr.heap.size wr (wr.alloc (.cells #[.int .i64 y0,.int .i64 y1,.int .i64 y2] 63)):=(Below.refl _ _).alloc (Nat.le_refl _) _
     have BA:=Lib.hid (B.out.trans (hal.mono B.out.size))
     clear hy hvb hj1 R HV hal B
     go_wp2_with fail
     refine (VV.out _).mono ?_
     rintro e w2 ⟨rfl,hb⟩
     have B2:=Lib.hid (BA.out.trans (hb.mono BA.out.size))
     clear hb BA
     cases vb with
     | true=>
      go_wp2
      go_roundw
      case rel=>exact ⟨j+1,by omega,by go_num,R2.out trivial,B2.out⟩
      case measure=>simp [intOf];omega
     | false=>
      go_wp2
      go_ret
      exact ⟨ret_int (N2.out trivial),B2.out⟩
    ·have hjn:j=n:=by omega
     have E:Hid (0=codeI s L):=C0.out HK.out H3.out fun k hk a=>R.out k (by have:=HN.out;omega) a
     clear R
     go_wp2
     go_ret
     exact ⟨ret_int E.out,B.out⟩
theorem rcheck_all (s:ByteArray) (A:Option Addr) (cap:Nat) (L:List Tr) (hL:L.length≤maxLen) (w:World) (H:OpsP w A L) :
  Calls Tryz.prog 94 #[.agg #[.string s,.slice A L.length cap]] w fun e w'=>e=.returned (.int .i64 (codeI s L))∧Below w.heap.size w w':=by
 unfold maxLen at hL
 have X:=Lib.hid H
 have C12:=Lib.hid (code_12 s L)
 have C11:=Lib.hid (code_11 s L)
 have C0:=Lib.hid (code_0 s L)
 have C2:=Lib.hid (code_2 s L)
 have RK:=Lib.hid (rknown_any s)
 obtain ⟨n,hn⟩:∃ n,L.length=n:=⟨_,rfl⟩
 have HN:=Lib.hid hn
 obtain ⟨kb,hkb⟩:∃ kb,knB s=kb:=⟨_,rfl⟩
 have HK:=Lib.hid hkb
 rw [hkb] at RK
 rw [hn] at hL ⊢
 have T0:=Lib.hid (Bx.new w s A n cap 26)
 have B0:Hid (Below w.heap.size w (w.alloc (.cells #[.string s,.slice A n cap] 26))):=(Below.refl _ _).alloc (Nat.le_refl _) _
 clear H hn hkb
 go_enter Tryz.func94,Tryz.ntmps94
 go_wp2_with fail
 refine (RK.out _).mono ?_
 rintro e w1 ⟨rfl,h1⟩
 have T1:Hid (Bx w1 w.heap.size s A n cap):=T0.out.all h1
 have B1:Hid (Below w.heap.size w w1):=B0.out.trans (h1.mono (by simp))
 clear h1 T0 B0 RK
 cases kb with
 | false=>
  have E:=Lib.hid (C12.out HK.out)
  go_wp2
  go_ret
  exact ⟨ret_int E.out,B1.out⟩
 | true=>
  have xx:=T1.out
  obtain ⟨x0,x1⟩:=xx
  by_cases h3:3<n
  ·have E:=Lib.hid (C11.out HK.out (by rw [HN.out];exact h3))
   have h3':(3:Int)<(n:Int):=by omega
   go_wp2
   go_ret
   exact ⟨ret_int E.out,B1.out⟩
  ·have H3:Hid (¬3<L.length):=by rw [HN.out];exact h3
   have h3':¬(3:Int)<(n:Int):=by omega
   go_wp2
   clear h3' h3 x0 x1
   go_loopw [3] (fun i wr=>∃ j:Nat,j≤n∧i=.int .i64 j∧Hid (∀ k,k<j→∀ (a:k<L.length),vT L[k]=true)∧Hid (Bx wr w.heap.size s A n cap)∧Hid (Below w.heap.size w wr)) (fun i _=>n - (intOf i).toNat)
   case atStart=>exact ⟨0,Nat.zero_le _,rfl,fun k h=>by omega,T1.out,B1.out⟩
   case round=>
    obtain ⟨j,hj,rfl,R,T,B⟩:=hrel
    obtain ⟨x0,x1⟩:=T.out
    by_cases hlt:j<n
    ·have hj1:j<L.length:=by have:=HN.out;omega
     obtain ⟨b1,o1,hA1,-,p0,p1,p2⟩:=(X.out.below B.out).at_ hj1
     subst hA1
     have HV:Hid (vT L[j]=vldB L[j].1 L[j].2.1 L[j].2.2):=rfl
     have R2:Hid (vT L[j]=true→∀ k,k<j+1→∀ (a:k<L.length),vT L[k]=true):=fun q k hk a=>by
      by_cases e:k=j
      ·subst e;exact q
      ·exact R.out k (by omega) a
     have N2:Hid (vT L[j]=false→2=codeI s L):=fun q=>C2.out HK.out H3.out j hj1 q
     obtain ⟨vb,hvb⟩:∃ vb,vT L[j]=vb:=⟨_,rfl⟩
     rw [hvb] at HV R2 N2
     obtain ⟨⟨y0,y1,y2⟩,hy⟩:∃ y,L[j]=y:=⟨_,rfl⟩
     rw [hy] at p0 p1 p2 HV
     simp only at p0 p1 p2 HV
     have VV:=Lib.hid (rvalid_any y0 y1 y2)
     rw [← HV.out] at VV
     clear hy hvb hj1 R HV
     go_wp2_with fail
     refine (VV.out _).mono ?_
     rintro e w2 ⟨rfl,hb⟩
     have B2:=Lib.hid (B.out.trans (hb.mono B.out.size))
     have T2:=Lib.hid (T.out.all hb)
     clear hb B x0 x1 T
     cases vb with
     | true=>
      go_wp2
      go_roundw
      case rel=>exact ⟨j+1,by omega,by go_num,R2.out trivial,T2.out,B2.out⟩
      case measure=>simp [intOf];omega
     | false=>
      go_wp2
      go_ret
      exact ⟨ret_int (N2.out trivial),B2.out⟩
    ·have hjn:j=n:=by omega
     have E:Hid (0=codeI s L):=C0.out HK.out H3.out fun k hk a=>R.out k (by have:=HN.out;omega) a
     clear R
     go_wp2
     go_ret
     exact ⟨ret_int E.out,B.out⟩
theorem check_any (s:ByteArray) (A:Option Addr) (cap:Nat) (L:List Tr) (hs:s.size≤maxLen) (hL:L.length≤1000) (w:World) (H:OpsP w A L) :
  Calls Tryz.prog 88 #[.agg #[.string s,.slice A L.length cap]] w fun e w'=>e=.returned (.int .i64 (codeI s L))∧Below w.heap.size w w':=check_all s A cap L hs (by unfold maxLen;omega) w H
theorem rcheck_any (s:ByteArray) (A:Option Addr) (cap:Nat) (L:List Tr) (hL:L.length≤1000) (w:World) (H:OpsP w A L) :
  Calls Tryz.prog 94 #[.agg #[.string s,.slice A L.length cap]] w fun e w'=>e=.returned (.int .i64 (codeI s L))∧Below w.heap.size w w':=rcheck_all s A cap L (by unfold maxLen;omega) w H
end Go.Proofs.YtoilebmbljpieaaGreatDoor
namespace Go.Proofs.YtoilebmbljpieaaGreatDoor
open Go.RowKit Go.Shelf
attribute [local irreducible] Go.Mixed.wpMix
structure Ee where
 g:Int
 o:Int
 m:Str
 A:Option Addr
 cap:Nat
 L:List Tr
 ex:Str
 al:Bool
instance:Inhabited Ee:=⟨⟨0,0,[],none,0,[],[],false⟩⟩
def Ee.v (r:Ee):Value:=.slice r.A r.L.length r.cap
abbrev Ke:=Int×Int×Str×List Tr×Str×Bool
def Ee.k (r:Ee):Ke:=(r.g,r.o,r.m,r.L,r.ex,r.al)
def Ee.c (r:Ee):List Value:=[.int .i64 r.g,.int .u8 r.o,.string (sB r.m),r.v,.string (sB r.ex),.bool r.al]
def cellsX:List Ee→List Value
 | []=>[]
 | r :: t=>.int .i64 r.g :: .int .u8 r.o :: .string (sB r.m) :: r.v :: .string (sB r.ex) :: .bool r.al :: cellsX t
theorem cellsX_length:∀ R:List Ee,(cellsX R).length=R.length*6
 | []=>rfl
 | r :: t=>by
  have h:=cellsX_length t
  show (cellsX t).length+1+1+1+1+1+1=(t.length+1)*6
  omega
theorem cellsX_append:∀ a b:List Ee,cellsX (a++b)=cellsX a++cellsX b
 | [],b=>rfl
 | x :: t,b=>by
  show _ :: _ :: _ :: _ :: _ :: _ :: cellsX (t++b)=_ :: _ :: _ :: _ :: _ :: _ :: (cellsX t++cellsX b)
  rw [cellsX_append t b]
theorem cellsX_at:∀ (R:List Ee) (j:Nat) (h:j<R.length),(cellsX R)[j*6]?=some (.int .i64 R[j].g)∧(cellsX R)[j*6+1]?=some (.int .u8 R[j].o)∧(cellsX R)[j*6+2]?=some (.string (sB R[j].m))∧(cellsX R)[j*6+3]?=some R[j].v∧(cellsX R)[j*6+4]?=some (.string (sB R[j].ex))∧(cellsX R)[j*6+5]?=some (.bool R[j].al)
 | x :: t,0,h=>⟨rfl,rfl,rfl,rfl,rfl,rfl⟩
 | x :: t,j+1,h=>by
  obtain ⟨h1,h2,h3,h4,h5,h6⟩:=cellsX_at t j (by simpa using h)
  have e:cellsX (x :: t)=.int .i64 x.g :: .int .u8 x.o :: .string (sB x.m) :: x.v :: .string (sB x.ex) :: .bool x.al :: cellsX t:=rfl
  rw [e,show (j+1)*6=j*6+1+1+1+1+1+1 by omega,show j*6+1+1+1+1+1+1+1=(j*6+1)+1+1+1+1+1+1 by omega,show j*6+1+1+1+1+1+1+2=(j*6+2)+1+1+1+1+1+1 by omega,show j*6+1+1+1+1+1+1+3=(j*6+3)+1+1+1+1+1+1 by omega,show j*6+1+1+1+1+1+1+4=(j*6+4)+1+1+1+1+1+1 by omega,show j*6+1+1+1+1+1+1+5=(j*6+5)+1+1+1+1+1+1 by omega]
  simp only [List.getElem?_cons_succ,List.getElem_cons_succ]
  exact ⟨h1,h2,h3,h4,h5,h6⟩
theorem cellsX_one:∀ (R:List Ee),∀ u∈cellsX R,u.oneCell'=true
 | [],u,h=>by cases h
 | x :: t,u,h=>by
  have e:cellsX (x :: t)=.int .i64 x.g :: .int .u8 x.o :: .string (sB x.m) :: x.v :: .string (sB x.ex) :: .bool x.al :: cellsX t:=rfl
  rw [e] at h
  simp only [List.mem_cons] at h
  rcases h with rfl | rfl | rfl | rfl | rfl | rfl | h
  ·rfl
  ·rfl
  ·rfl
  ·rfl
  ·rfl
  ·rfl
  ·exact cellsX_one t u h
theorem cellsX_take6 (R:List Ee) (j:Nat) (u:Value) (hu:(cellsX R)[j]?=some u):∃ (k:Nat) (h:k<R.length) (i:Nat),i<6∧j=k*6+i∧(R[k].c)[i]?=some u:=by
 have hj:j<R.length*6:=by
  rw [← cellsX_length]
  exact (List.getElem?_eq_some_iff.1 hu).1
 have hk:j / 6<R.length:=by omega
 obtain ⟨h1,h2,h3,h4,h5,h6⟩:=cellsX_at R (j / 6) hk
 refine ⟨j / 6,hk,j % 6,by omega,by omega,?_⟩
 have:j % 6=0∨j % 6=1∨j % 6=2∨j % 6=3∨j % 6=4∨j % 6=5:=by omega
 rcases this with h | h | h | h | h | h
 all_goals rw [h]
 ·exact (show _=_ from h1.symm).trans ((congrArg (fun z=>(cellsX R)[z]?) (by omega:j / 6*6=j)).trans hu)
 ·exact (show _=_ from h2.symm).trans ((congrArg (fun z=>(cellsX R)[z]?) (by omega:j / 6*6+1=j)).trans hu)
 ·exact (show _=_ from h3.symm).trans ((congrArg (fun z=>(cellsX R)[z]?) (by omega:j / 6*6+2=j)).trans hu)
 ·exact (show _=_ from h4.symm).trans ((congrArg (fun z=>(cellsX R)[z]?) (by omega:j / 6*6+3=j)).trans hu)
 ·exact (show _=_ from h5.symm).trans ((congrArg (fun z=>(cellsX R)[z]?) (by omega:j / 6*6+4=j)).trans hu)
 ·exact (show _=_ from h6.symm).trans ((congrArg (fun z=>(cellsX R)[z]?) (by omega:j / 6*6+5=j)).trans hu)
def EsP (w:World) (A:Option Addr) (R:List Ee):Prop:=
 R=[]∨∃ b off,A=some ⟨b,off,none⟩∧∀ k (h:k<R.length),(∀ i u,(R[k].c)[i]?=some u→w.cell? ⟨b,off+(k*6+i),none⟩=some u)∧OpsP w R[k].A R[k].L
theorem EsP.at_ {w:World} {A:Option Addr} {R:List Ee} (h:EsP w A R) {k:Nat} (hk:k<R.length):∃ b off,A=some ⟨b,off,none⟩∧b<w.heap.size∧w.cell? ⟨b,off+k*6,none⟩=some (.int .i64 R[k].g)∧w.cell? ⟨b,off+k*6+1,none⟩=some (.int .u8 R[k].o)∧w.cell? ⟨b,off+k*6+2,none⟩=some (.string (sB R[k].m))∧w.cell? ⟨b,off+k*6+3,none⟩=some R[k].v∧w.cell? ⟨b,off+k*6+4,none⟩=some (.string (sB R[k].ex))∧w.cell? ⟨b,off+k*6+5,none⟩=some (.bool R[k].al)∧OpsP w R[k].A R[k].L:=by
 rcases h with rfl | ⟨b,off,rfl,hc⟩
 ·simp at hk
 ·obtain ⟨h1,h2⟩:=hc k hk
  have e:∀ i u,(R[k].c)[i]?=some u→w.cell? ⟨b,off+k*6+i,none⟩=some u:=fun i u hu=>by rw [Nat.add_assoc];exact h1 i u hu
  exact ⟨b,off,rfl,World.block_lt_of_cell? w _ (e 0 _ rfl),e 0 _ rfl,e 1 _ rfl,e 2 _ rfl,e 3 _ rfl,e 4 _ rfl,e 5 _ rfl,h2⟩
theorem EsP.below {w w':World} {A:Option Addr} {R:List Ee} (h:EsP w A R) (hb:Below w.heap.size w w'):EsP w' A R:=by
 rcases h with rfl | ⟨b,off,rfl,hc⟩
 ·exact .inl rfl
 ·refine .inr ⟨b,off,rfl,fun k hk=>⟨fun i u hu=>?_,(hc k hk).2.below hb⟩⟩
  have hp:=(hc k hk).1 i u hu
  exact (hb.cell (World.block_lt_of_cell? w _ hp)).trans hp
theorem EsP.news {w:World} {A:Option Addr} {R:List Ee} (h:EsP w A R):R.length=0∨∃ a,A=some a∧∀ j u,(cellsX R)[j]?=some u→w.cell? (a.add j)=some u:=by
 rcases h with rfl | ⟨b,off,rfl,hc⟩
 ·exact .inl rfl
 ·refine .inr ⟨_,rfl,fun j u hu=>?_⟩
  have hadd:(⟨b,off,none⟩:Addr).add j=⟨b,off+j,none⟩:=by unfold Addr.add;split <;> simp_all
  rw [hadd]
  obtain ⟨k,hk,i,hi,rfl,e⟩:=cellsX_take6 R j u hu
  exact (hc k hk).1 i u e
theorem info_enR:(Tryz.prog.info? 41).map (fun i=>(i.zero,i.size,i.bytes))=some (some (.agg #[.int .i64 0,.int .u8 0,.string ⟨#[]⟩,.slice none 0 0,.string ⟨#[]⟩,.bool false]),6,80):=by kernel_rfl
def OwnXR (w:World) (n:Nat) (v:Value) (R:List Ee):Prop:=w.ownsRow n 41 6 v R.length (cellsX R)∧∀ r∈R,OwnT w n r.v r.L
theorem OwnXR.below {w w':World} {n:Nat} {v:Value} {R:List Ee} (h:OwnXR w n v R) (k:Below w.heap.size w w'):OwnXR w' n v R:=
 ⟨World.ownsRow.kept h.1 (row:=none) ⟨k.os,k.tape,k.output,k.size,fun i hi _=>k.block i hi⟩ (by
  cases e:v.ownBlock with
  | none=>exact .inl rfl
  | some g=>exact .inr (by simp)),fun r hr=>(h.2 r hr).below k⟩
theorem OwnXR.lift {w:World} {n m:Nat} {v:Value} {R:List Ee} (h:OwnXR w n v R) (k:m≤n):OwnXR w m v R:=⟨row_mono h.1 k,fun r hr=>(h.2 r hr).lift k⟩
theorem OwnXR.es {w:World} {n:Nat} {v:Value} {R:List Ee} (h:OwnXR w n v R):∃ A cap,v=.slice A R.length cap∧EsP w A R∧R.length≤cap:=by
 rcases h.1.2 with ⟨rfl,h0⟩ | ⟨g,cap,cur,rfl,_,_,hle,_⟩
 ·have:R=[]:=List.eq_nil_of_length_eq_zero h0
  subst this
  exact ⟨none,0,rfl,.inl rfl,Nat.le_refl _⟩
 ·refine ⟨_,cap,rfl,.inr ⟨g,0,rfl,fun k hk=>⟨fun i u hu=>?_,?_⟩⟩,hle⟩
  ·rw [Nat.zero_add]
   have hi:i<6:=by
    have:=(List.getElem?_eq_some_iff.1 hu).1
    exact this
   obtain ⟨h1,h2,h3,h4,h5,h6⟩:=cellsX_at R k hk
   have hc:(cellsX R)[k*6+i]?=some u:=by
    have:i=0∨i=1∨i=2∨i=3∨i=4∨i=5:=by omega
    rcases this with rfl | rfl | rfl | rfl | rfl | rfl
    ·exact h1.trans hu
    ·exact h2.trans hu
    ·exact h3.trans hu
    ·exact h4.trans hu
    ·exact h5.trans hu
    ·exact h6.trans hu
   exact (World.ownsRow.cellAt h.1 _ (by omega)).trans hc
  ·obtain ⟨A',c',e,hP,-⟩:=(h.2 _ (List.getElem_mem hk)).ops
   simp only [Ee.v,Value.slice.injEq] at e
   rw [e.1];exact hP
theorem ownXR_nil (w:World) (n:Nat):OwnXR w n (.slice none 0 0) []:=⟨World.ownsRow_nil _ _ _ _,fun r hr=>absurd hr List.not_mem_nil⟩
theorem run_appXR (w:World) (B:Nat) (v:Value) (R:List Ee) (h:OwnXR w B v R) (A:Option Addr) (c:Nat) (R2:List Ee) (hP:EsP w A R2) (hO:∀ r∈R2,OwnT w B r.v r.L) (hB:B≤w.heap.size) (hs:R.length+R2.length≤100000) :
  ∃ v' w',(Builtin.append_ #[96,96] 96 #[v,.slice A R2.length c]).run Tryz.prog w=.ok v' w'∧OwnXR w' B v' (R++R2)∧Below B w w'∧w.grownBy w' v.ownBlock:=by
 obtain ⟨i0,hi,hz0,hz1,hz2⟩:=info_parts info_enR
 obtain ⟨v',w',k1,k2,k3⟩:=run_append_src w B 96 96 41 i0 _ 6 80 Tryz.underlying96 hi hz0 hz1 hz2 rfl (by decide) v R.length (cellsX R) h.1 A R2.length c (cellsX R2)
  (cellsX_length R2) hP.news (cellsX_one R2) (by unfold maxLen;omega) (by omega) hB
 have hty:∀ q,v.ownBlock=some q→∀ cur fz,w.heap[q]?≠some (.cells cur 63 fz):=fun q hq cur fz hx=>by
  rcases h.1.2 with ⟨rfl,_⟩ | ⟨g',cap,cur',rfl,_,hg,_⟩
  ·simp [Value.ownBlock] at hq
  ·simp only [Value.ownBlock,Option.some.injEq] at hq
   subst hq
   rw [hx] at hg
   simp at hg
 have kept:∀ {u:Value} {L:List Tr},OwnT w B u L→OwnT w' B u L:=fun {u L} ho=>World.ownsRow.kept ho k3 (by
  cases e:u.ownBlock with
  | none=>exact .inl rfl
  | some q=>
   refine .inr fun e'=>?_
   obtain ⟨cur,hc⟩:=own_types ho e
   exact hty q e'.symm _ _ hc)
 refine ⟨v',w',k1,⟨?_,fun r hr=>?_⟩,(Below.refl B w).grown k3 hB fun k hk=>(World.ownsRow.lt h.1 k hk).1,k3⟩
 ·rw [cellsX_append,List.length_append]
  exact k2
 ·rcases List.mem_append.1 hr with hr | hr
  ·exact kept (h.2 r hr)
  ·exact kept (hO r hr)
theorem wpList_appXR {wr:World} {B:Nat} {v:Value} {R:List Ee} (h:OwnXR wr B v R) {A:Option Addr} {c:Nat} {R2:List Ee} (hP:EsP wr A R2) (hO:∀ r∈R2,OwnT wr B r.v r.L) (hB:B≤wr.heap.size) (hs:R.length+R2.length≤100000) {ops:Array Oper} {rest:List Oper} {o:Oper} {a:Act} {Q:Exit→Act→World→Prop} (hgd:o.guard=none) (s x:Operand)
  (ho:o.op=.call {callee:=.builtin .append,args:=#[s,x],argTypes:=#[96,96]}) (hty:o.type=96) (hsv:a.eval s=v) (m:Nat) (hm:R2.length=m) (hx:a.eval x=.slice A m c)
  (k:∀ A' cap' w1,OwnXR w1 B (.slice A' (R++R2).length cap') (R++R2)→Below B wr w1→wr.grownBy w1 v.ownBlock→wpList Tryz.prog ops Q rest (a.put o.dst (.slice A' (R++R2).length cap')) w1):wpList Tryz.prog ops Q (o :: rest) a wr:=by
 subst hm
 obtain ⟨v',w',k1,k2,k3,k4⟩:=run_appXR wr B v R h A c R2 hP hO hB hs
 obtain ⟨A',cap',rfl,-,-⟩:=k2.es
 exact wpList_run_append k1 hgd s x ho hty hsv hx (k A' cap' w' k2 k3 k4)
theorem es_oneR (w:World) (r:Ee) (hP:OpsP w r.A r.L):EsP (w.alloc (.cells #[.int .i64 r.g,.int .u8 r.o,.string (sB r.m),r.v,.string (sB r.ex),.bool r.al] 41)) (some ⟨w.heap.size,0,none⟩) [r]:=by
 refine .inr ⟨_,_,rfl,fun k hk=>?_⟩
 obtain rfl:k=0:=by simp at hk;omega
 refine ⟨fun i u hu=>?_,hP.below (up_alloc _ _)⟩
 rw [Nat.zero_add,Nat.zero_mul,Nat.zero_add,Lib.cell_of_heap (heap_alloc_new w _)]
 have:i=0∨i=1∨i=2∨i=3∨i=4∨i=5:=by
  have h:i<6:=(List.getElem?_eq_some_iff.1 hu).1
  omega
 rcases this with rfl | rfl | rfl | rfl | rfl | rfl <;> exact hu
theorem info_enT:(Tryz.prog.info? 38).map (fun i=>(i.zero,i.size,i.bytes))=some (some (.agg #[.int .i64 0,.int .u8 0,.string ⟨#[]⟩,.slice none 0 0,.string ⟨#[]⟩,.bool false]),6,80):=by kernel_rfl
def OwnXT (w:World) (n:Nat) (v:Value) (R:List Ee):Prop:=w.ownsRow n 38 6 v R.length (cellsX R)∧∀ r∈R,OwnT w n r.v r.L
theorem OwnXT.below {w w':World} {n:Nat} {v:Value} {R:List Ee} (h:OwnXT w n v R) (k:Below w.heap.size w w'):OwnXT w' n v R:=
 ⟨World.ownsRow.kept h.1 (row:=none) ⟨k.os,k.tape,k.output,k.size,fun i hi _=>k.block i hi⟩ (by
  cases e:v.ownBlock with
  | none=>exact .inl rfl
  | some g=>exact .inr (by simp)),fun r hr=>(h.2 r hr).below k⟩
theorem OwnXT.lift {w:World} {n m:Nat} {v:Value} {R:List Ee} (h:OwnXT w n v R) (k:m≤n):OwnXT w m v R:=⟨row_mono h.1 k,fun r hr=>(h.2 r hr).lift k⟩
theorem OwnXT.es {w:World} {n:Nat} {v:Value} {R:List Ee} (h:OwnXT w n v R):∃ A cap,v=.slice A R.length cap∧EsP w A R∧R.length≤cap:=by
 rcases h.1.2 with ⟨rfl,h0⟩ | ⟨g,cap,cur,rfl,_,_,hle,_⟩
 ·have:R=[]:=List.eq_nil_of_length_eq_zero h0
  subst this
  exact ⟨none,0,rfl,.inl rfl,Nat.le_refl _⟩
 ·refine ⟨_,cap,rfl,.inr ⟨g,0,rfl,fun k hk=>⟨fun i u hu=>?_,?_⟩⟩,hle⟩
  ·rw [Nat.zero_add]
   have hi:i<6:=by
    have:=(List.getElem?_eq_some_iff.1 hu).1
    exact this
   obtain ⟨h1,h2,h3,h4,h5,h6⟩:=cellsX_at R k hk
   have hc:(cellsX R)[k*6+i]?=some u:=by
    have:i=0∨i=1∨i=2∨i=3∨i=4∨i=5:=by omega
    rcases this with rfl | rfl | rfl | rfl | rfl | rfl
    ·exact h1.trans hu
    ·exact h2.trans hu
    ·exact h3.trans hu
    ·exact h4.trans hu
    ·exact h5.trans hu
    ·exact h6.trans hu
   exact (World.ownsRow.cellAt h.1 _ (by omega)).trans hc
  ·obtain ⟨A',c',e,hP,-⟩:=(h.2 _ (List.getElem_mem hk)).ops
   simp only [Ee.v,Value.slice.injEq] at e
   rw [e.1];exact hP
theorem ownXT_nil (w:World) (n:Nat):OwnXT w n (.slice none 0 0) []:=⟨World.ownsRow_nil _ _ _ _,fun r hr=>absurd hr List.not_mem_nil⟩
theorem run_appXT (w:World) (B:Nat) (v:Value) (R:List Ee) (h:OwnXT w B v R) (A:Option Addr) (c:Nat) (R2:List Ee) (hP:EsP w A R2) (hO:∀ r∈R2,OwnT w B r.v r.L) (hB:B≤w.heap.size) (hs:R.length+R2.length≤100000) :
  ∃ v' w',(Builtin.append_ #[91,91] 91 #[v,.slice A R2.length c]).run Tryz.prog w=.ok v' w'∧OwnXT w' B v' (R++R2)∧Below B w w'∧w.grownBy w' v.ownBlock:=by
 obtain ⟨i0,hi,hz0,hz1,hz2⟩:=info_parts info_enT
 obtain ⟨v',w',k1,k2,k3⟩:=run_append_src w B 91 91 38 i0 _ 6 80 Tryz.underlying91 hi hz0 hz1 hz2 rfl (by decide) v R.length (cellsX R) h.1 A R2.length c (cellsX R2)
  (cellsX_length R2) hP.news (cellsX_one R2) (by unfold maxLen;omega) (by omega) hB
 have hty:∀ q,v.ownBlock=some q→∀ cur fz,w.heap[q]?≠some (.cells cur 63 fz):=fun q hq cur fz hx=>by
  rcases h.1.2 with ⟨rfl,_⟩ | ⟨g',cap,cur',rfl,_,hg,_⟩
  ·simp [Value.ownBlock] at hq
  ·simp only [Value.ownBlock,Option.some.injEq] at hq
   subst hq
   rw [hx] at hg
   simp at hg
 have kept:∀ {u:Value} {L:List Tr},OwnT w B u L→OwnT w' B u L:=fun {u L} ho=>World.ownsRow.kept ho k3 (by
  cases e:u.ownBlock with
  | none=>exact .inl rfl
  | some q=>
   refine .inr fun e'=>?_
   obtain ⟨cur,hc⟩:=own_types ho e
   exact hty q e'.symm _ _ hc)
 refine ⟨v',w',k1,⟨?_,fun r hr=>?_⟩,(Below.refl B w).grown k3 hB fun k hk=>(World.ownsRow.lt h.1 k hk).1,k3⟩
 ·rw [cellsX_append,List.length_append]
  exact k2
 ·rcases List.mem_append.1 hr with hr | hr
  ·exact kept (h.2 r hr)
  ·exact kept (hO r hr)
theorem es_oneT (w:World) (r:Ee) (hP:OpsP w r.A r.L):EsP (w.alloc (.cells #[.int .i64 r.g,.int .u8 r.o,.string (sB r.m),r.v,.string (sB r.ex),.bool r.al] 38)) (some ⟨w.heap.size,0,none⟩) [r]:=by
 refine .inr ⟨_,_,rfl,fun k hk=>?_⟩
 obtain rfl:k=0:=by simp at hk;omega
 refine ⟨fun i u hu=>?_,hP.below (up_alloc _ _)⟩
 rw [Nat.zero_add,Nat.zero_mul,Nat.zero_add,Lib.cell_of_heap (heap_alloc_new w _)]
 have:i=0∨i=1∨i=2∨i=3∨i=4∨i=5:=by
  have h:i<6:=(List.getElem?_eq_some_iff.1 hu).1
  omega
 rcases this with rfl | rfl | rfl | rfl | rfl | rfl <;> exact hu
end Go.Proofs.YtoilebmbljpieaaGreatDoor
