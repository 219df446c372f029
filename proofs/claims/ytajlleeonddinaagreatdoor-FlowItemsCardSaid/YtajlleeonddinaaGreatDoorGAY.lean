/-
  FmB, DeE, TbSm, TbY, RsA, DfB, DfD, FoA, DgA, SeRj, EnC.
-/
import Derived.Test.YtajlleeonddinaaGreatDoorGAX
import Derived.Test.YtajlleeonddinaaGreatDoorGAT
import Derived.Test.YtajlleeonddinaaGreatDoorGAE
import Derived.Test.YtajlleeonddinaaGreatDoorGAF
import Derived.Test.YtajlleeonddinaaGreatDoorGAR
import Derived.Test.YtajlleeonddinaaGreatDoorGAP
import Derived.Deep.DeepCutAuto
import Derived.Deep.Cut
import Derived.StillTail
import Derived.StillTailTactics
import Derived.Deep.RegionHeld3
import Derived.RegionTactic
import Derived.Test.YtajlleeonddinaaGreatDoorGAC
import Derived.Test.YtajlleeonddinaaGreatDoorGAJ
set_option linter.all false
set_option maxRecDepth 100000
set_option maxHeartbeats 4000000
namespace Go.Proofs.YtajlleeonddinaaGreatDoor
open Go.RowKit Go.Shelf
attribute [local go_sem] Oper.semAt_some
def adB (n:Int):Bool:=decide (0≤n)&&decide (n≤65535)
theorem adB_iff {n:Int}:adB n=true↔0≤n∧n≤65535:=by unfold adB;simp
theorem isAddr_any (n:Int) (w:World) :
  Calls Tryz.prog 49 #[.int .i64 n] w fun e w'=>e=.returned (.bool (adB n))∧Below w.heap.size w w':=by
 obtain ⟨g,w1,hg,hw1,S1,y1,z1⟩:=Fr.box (Fr.nil w) #[.int .i64 n] 3
 have F:=Lib.hid (fit1_any 0 65535 n g (adB n) (by simp [fitsB,adB]) w1 (Lib.cell_of_heap S1.out.1 0))
 have B:=Lib.hid y1
 clear y1 S1
 go_enter Tryz.func49,Tryz.ntmps49
 go_wp2_with fail
 refine F.out.mono ?_
 rintro e w2 ⟨rfl,rfl⟩
 clear F
 go_wp2
 go_ret
 exact ⟨rfl,B.out⟩
theorem hclos_any (g:Nat) (k:Int) (t:Tr) (w:World) (hg:w.heap[g]?=some (.cells #[.int .i64 k] 3 (0,0))) :
  Calls Tryz.prog 81 #[.agg #[.int .i64 t.1,.int .i64 t.2.1,.int .i64 t.2.2],.pointer (some ⟨g,0,none⟩)] w fun e w'=>e=.returned (.bool (t.1 == k))∧Below w.heap.size w w':=by
 obtain ⟨b,w1,hb,hw1,S1,y1,z1⟩:=Fr.box (Fr.nil w) #[.int .i64 t.1,.int .i64 t.2.1,.int .i64 t.2.2] 55
 have B:=Lib.hid y1
 obtain ⟨k0,k1,k2⟩:=Fr.cells3 S1.out.1
 have k3:=Lib.cell_of_heap ((y1.block g (Array.getElem?_eq_some_iff.1 hg).1).trans hg) 0
 clear y1 S1 hg
 go_enter Tryz.func81,Tryz.ntmps81
 go_wp2
 go_ret
 exact ⟨rfl,B.out⟩
theorem hindex_any (g:Nat) (k:Int) (A:Option Addr) (cap n:Nat) (C:List Tr) (hn:C.length=n) (hL:n≤1000) (w:World) (hg:w.heap[g]?=some (.cells #[.int .i64 k] 3 (0,0))) (H:OpsP w A C) :
  Calls Tryz.prog 104 #[.slice A n cap,.func (.func 81) #[] #[.pointer (some ⟨g,0,none⟩)]] w fun e w'=>(∃ i:Int,e=.returned (.int .i64 i)∧decide (i≥0)=C.any (kdT k))∧Below w.heap.size w w':=by
 have X:=Lib.hid H
 have G:=Lib.hid hg
 have HN:=Lib.hid hn
 clear H hg hn
 go_enter Tryz.func104,Tryz.ntmps104
 go_wp2
 go_loopw [8] (fun i wr=>∃ j:Nat,j≤n∧i=.int .i64 j∧Hid ((C.take j).any (kdT k)=false)∧Hid (Below w.heap.size w wr)) (fun i _=>n - (intOf i).toNat)
 case atStart=>exact ⟨0,Nat.zero_le _,rfl,rfl,Below.refl _ _⟩
 case round=>
  obtain ⟨j,hj,rfl,NO,B⟩:=hrel
  by_cases hlt:j<n
  ·have hj1:j<C.length:=by have:=HN.out;omega
   obtain ⟨b1,o1,rfl,p0,p1,p2,p3⟩:=(X.out.below B.out).at_ hj1
   have NO2:Hid (C[j].1≠k→(C.take (j+1)).any (kdT k)=false):=fun h=>by
    rw [List.take_succ_eq_append_getElem hj1,List.any_append,NO.out]
    unfold kdT
    simp [h]
   have YES:Hid (C[j].1=k→C.any (kdT k)=true):=fun h=>List.any_eq_true.2 ⟨_,List.getElem_mem hj1,by unfold kdT;simpa using h⟩
   obtain ⟨t,ht⟩:∃ x,C[j]=x:=⟨_,rfl⟩
   rw [ht] at p1 p2 p3 NO2 YES
   have D:=Lib.hid (fun w' (hb:Below w.heap.size w w')=>hclos_any g k t w' ((hb.block g (Array.getElem?_eq_some_iff.1 G.out).1).trans G.out))
   clear ht
   go_wp2_with fail
   refine (D.out _ B.out).mono ?_
   rintro e w2 ⟨rfl,hb2⟩
   have B2:Hid (Below w.heap.size w w2):=B.out.trans (hb2.mono B.out.size)
   clear D hb2 p0 p1 p2 p3
   by_cases hk:t.1=k
   ·have e1:(t.1 == k)=true:=by simpa using hk
    have Y:=Lib.hid (YES.out hk)
    rw [e1]
    clear e1 hk YES NO2
    go_wp2
    go_ret
    exact ⟨⟨_,rfl,by rw [Y.out];exact decide_eq_true (by omega)⟩,B2.out⟩
   ·have e1:(t.1 == k)=false:=by simpa using hk
    have Y:=Lib.hid (NO2.out hk)
    rw [e1]
    clear e1 hk YES NO2
    go_wp2
    go_roundw
    case rel=>exact ⟨j+1,by omega,by go_num,Y.out,B2.out⟩
    case measure=>simp [intOf];omega
  ·have hj2:C.take j=C:=List.take_of_length_le (by have:=HN.out;omega)
   have Y:Hid (C.any (kdT k)=false):=by show _=_;rw [← hj2];exact NO.out
   clear hj2
   go_wp2
   go_ret
   exact ⟨⟨_,rfl,by rw [Y.out];rfl⟩,B.out⟩
theorem hcont_any (g:Nat) (k:Int) (A:Option Addr) (cap n:Nat) (C:List Tr) (hn:C.length=n) (hL:n≤1000) (w:World) (hg:w.heap[g]?=some (.cells #[.int .i64 k] 3 (0,0))) (H:OpsP w A C) :
  Calls Tryz.prog 80 #[.slice A n cap,.func (.func 81) #[] #[.pointer (some ⟨g,0,none⟩)]] w fun e w'=>e=.returned (.bool (C.any (kdT k)))∧Below w.heap.size w w':=by
 have I:=Lib.hid (hindex_any g k A cap n C hn hL w hg H)
 clear hg H hn
 go_enter Tryz.func80,Tryz.ntmps80
 go_wp2_with fail
 refine I.out.mono ?_
 rintro e w2 ⟨⟨i,rfl,hi⟩,hb2⟩
 have B2:=Lib.hid hb2
 have HI:=Lib.hid hi
 clear I hb2 hi
 go_wp2
 go_ret
 exact ⟨ret_bool HI.out,B2.out⟩
theorem has_any (s:ByteArray) (k:Int) (A:Option Addr) (cap n:Nat) (C:List Tr) (hn:C.length=n) (hL:n≤1000) (w:World) (H:OpsP w A C) :
  Calls Tryz.prog 53 #[.agg #[.string s,.slice A n cap],.int .i64 k] w fun e w'=>e=.returned (.bool (C.any (kdT k)))∧Below w.heap.size w w':=by
 obtain ⟨b,w1,hb,hw1,S1,y1,z1⟩:=Fr.box (Fr.nil w) #[.string s,.slice A n cap] 24
 obtain ⟨g,w2,hg,hw2,S2,y2,z2⟩:=Fr.box S1 #[.int .i64 k] 3
 have B:=Lib.hid (y1.trans (y2.mono y1.size))
 obtain ⟨k0,k1⟩:=Fr.cells2 S2.out.2.1
 have CO:=Lib.hid (hcont_any g k A cap n C hn hL w2 S2.out.1 (H.below B.out))
 have hmf:∀ (fn:Fn) (first cap:Array Value) (w:World),(Instr.makeFunc fn first cap).run Tryz.prog w=.ok (.func fn first cap) w:=fun _ _ _ _=>rfl
 have hgb:g=b+1:=by omega
 subst hgb
 clear y1 y2 S1 S2 H hn
 go_enter Tryz.func53,Tryz.ntmps53
 go_wp2_with fail
 refine CO.out.mono ?_
 rintro e w3 ⟨rfl,hb3⟩
 have B3:Hid (Below w.heap.size w w3):=B.out.trans (hb3.mono B.out.size)
 clear CO hb3
 go_wp2
 go_ret
 exact ⟨rfl,B3.out⟩
theorem knd_1 (C:List Tr):kndP opJR C=1∧kndP opDJ C=1:=⟨if_pos (.inl rfl),if_pos (.inr rfl)⟩
theorem knd_2 (C:List Tr):kndP opCA C=2∧kndP opRS C=2:=by
 unfold kndP
 exact ⟨by rw [if_neg (by decide),if_pos (.inl rfl)],by rw [if_neg (by decide),if_pos (.inr rfl)]⟩
theorem knd_3 (C:List Tr):kndP opRE C=3∧kndP opRI C=3∧kndP opRN C=3:=by
 unfold kndP
 exact ⟨by rw [if_neg (by decide),if_neg (by decide),if_pos (.inl rfl)],by rw [if_neg (by decide),if_neg (by decide),if_pos (.inr (.inl rfl))],by rw [if_neg (by decide),if_neg (by decide),if_pos (.inr (.inr rfl))]⟩
theorem knd_4 (C:List Tr):kndP opHA C=4:=by
 unfold kndP
 rw [if_neg (by decide),if_neg (by decide),if_neg (by decide),if_pos rfl]
theorem knd_5 (C:List Tr):kndP opJP C=if C.any (kdT 4)=true then 4 else 1:=by
 unfold kndP
 rw [if_neg (by decide),if_neg (by decide),if_neg (by decide),if_neg (by decide),if_pos rfl]
theorem str_ne {s:ByteArray} {m:Str} (h:s≠⟨m.toArray⟩):(s.toList == m)=false:=beq_eq_false_iff_ne.2 fun e=>h (by
 have e2:s.data.toList=m:=by rw [← ByteArray.toList_eq];exact e
 exact ByteArray.ext (by rw [← e2]))
theorem kindOf_any (s:ByteArray) (A:Option Addr) (cap n:Nat) (C:List Tr) (hn:C.length=n) (hL:n≤1000) (w:World) (H:OpsP w A C) :
  Calls Tryz.prog 52 #[.agg #[.string s,.slice A n cap]] w fun e w'=>e=.returned (.int .i64 (kndP s C))∧Below w.heap.size w w':=by
 obtain ⟨b,w1,hb,hw1,S1,y1,z1⟩:=Fr.box (Fr.nil w) #[.string s,.slice A n cap] 24
 have B:=Lib.hid y1
 obtain ⟨k0,k1⟩:=Fr.cells2 S1.out.1
 have HA:=Lib.hid (has_any s 4 A cap n C hn hL w1 (H.below y1))
 clear H hn hL y1 S1
 have HE:Hid (∀ w' (k:Int),Below w.heap.size w w'→kndP s C=k→(Ending.returned (.int .i64 k)=.returned (.int .i64 (kndP s C))∧Below w.heap.size w w')):=fun w' k h e=>⟨by rw [e],h⟩
 by_cases h1:s=opJR
 ·subst h1
  have t1:(opJR.toList == [74,82])=true:=by rw [ByteArray.toList_eq];rfl
  have K:=Lib.hid (knd_1 C).1
  go_enter Tryz.func52,Tryz.ntmps52
  go_wp2
  go_ret
  exact HE.out _ _ B.out K.out
 by_cases h2:s=opDJ
 ·subst h2
  have t1:(opDJ.toList == [74,82])=false:=by rw [ByteArray.toList_eq];rfl
  have t2:(opDJ.toList == [68,74,78,90])=true:=by rw [ByteArray.toList_eq];rfl
  have K:=Lib.hid (knd_1 C).2
  clear h1
  go_enter Tryz.func52,Tryz.ntmps52
  go_wp2
  go_ret
  exact HE.out _ _ B.out K.out
 by_cases h3:s=opCA
 ·subst h3
  have t1:(opCA.toList == [74,82])=false:=by rw [ByteArray.toList_eq];rfl
  have t2:(opCA.toList == [68,74,78,90])=false:=by rw [ByteArray.toList_eq];rfl
  have t3:(opCA.toList == [67,65,76,76])=true:=by rw [ByteArray.toList_eq];rfl
  have K:=Lib.hid (knd_2 C).1
  clear h1 h2
  go_enter Tryz.func52,Tryz.ntmps52
  go_wp2
  go_ret
  exact HE.out _ _ B.out K.out
 by_cases h4:s=opRS
 ·subst h4
  have t1:(opRS.toList == [74,82])=false:=by rw [ByteArray.toList_eq];rfl
  have t2:(opRS.toList == [68,74,78,90])=false:=by rw [ByteArray.toList_eq];rfl
  have t3:(opRS.toList == [67,65,76,76])=false:=by rw [ByteArray.toList_eq];rfl
  have t4:(opRS.toList == [82,83,84])=true:=by rw [ByteArray.toList_eq];rfl
  have K:=Lib.hid (knd_2 C).2
  clear h1 h2 h3
  go_enter Tryz.func52,Tryz.ntmps52
  go_wp2
  go_ret
  exact HE.out _ _ B.out K.out
 by_cases h5:s=opRE
 ·subst h5
  have t1:(opRE.toList == [74,82])=false:=by rw [ByteArray.toList_eq];rfl
  have t2:(opRE.toList == [68,74,78,90])=false:=by rw [ByteArray.toList_eq];rfl
  have t3:(opRE.toList == [67,65,76,76])=false:=by rw [ByteArray.toList_eq];rfl
  have t4:(opRE.toList == [82,83,84])=false:=by rw [ByteArray.toList_eq];rfl
  have t5:(opRE.toList == [82,69,84])=true:=by rw [ByteArray.toList_eq];rfl
  have K:=Lib.hid (knd_3 C).1
  clear h1 h2 h3 h4
  go_enter Tryz.func52,Tryz.ntmps52
  go_wp2
  go_ret
  exact HE.out _ _ B.out K.out
 by_cases h6:s=opRI
 ·subst h6
  have t1:(opRI.toList == [74,82])=false:=by rw [ByteArray.toList_eq];rfl
  have t2:(opRI.toList == [68,74,78,90])=false:=by rw [ByteArray.toList_eq];rfl
  have t3:(opRI.toList == [67,65,76,76])=false:=by rw [ByteArray.toList_eq];rfl
  have t4:(opRI.toList == [82,83,84])=false:=by rw [ByteArray.toList_eq];rfl
  have t5:(opRI.toList == [82,69,84])=false:=by rw [ByteArray.toList_eq];rfl
  have t6:(opRI.toList == [82,69,84,73])=true:=by rw [ByteArray.toList_eq];rfl
  have K:=Lib.hid (knd_3 C).2.1
  clear h1 h2 h3 h4 h5
  go_enter Tryz.func52,Tryz.ntmps52
  go_wp2
  go_ret
  exact HE.out _ _ B.out K.out
 by_cases h7:s=opRN
 ·subst h7
  have t1:(opRN.toList == [74,82])=false:=by rw [ByteArray.toList_eq];rfl
  have t2:(opRN.toList == [68,74,78,90])=false:=by rw [ByteArray.toList_eq];rfl
  have t3:(opRN.toList == [67,65,76,76])=false:=by rw [ByteArray.toList_eq];rfl
  have t4:(opRN.toList == [82,83,84])=false:=by rw [ByteArray.toList_eq];rfl
  have t5:(opRN.toList == [82,69,84])=false:=by rw [ByteArray.toList_eq];rfl
  have t6:(opRN.toList == [82,69,84,73])=false:=by rw [ByteArray.toList_eq];rfl
  have t7:(opRN.toList == [82,69,84,78])=true:=by rw [ByteArray.toList_eq];rfl
  have K:=Lib.hid (knd_3 C).2.2
  clear h1 h2 h3 h4 h5 h6
  go_enter Tryz.func52,Tryz.ntmps52
  go_wp2
  go_ret
  exact HE.out _ _ B.out K.out
 by_cases h8:s=opHA
 ·subst h8
  have t1:(opHA.toList == [74,82])=false:=by rw [ByteArray.toList_eq];rfl
  have t2:(opHA.toList == [68,74,78,90])=false:=by rw [ByteArray.toList_eq];rfl
  have t3:(opHA.toList == [67,65,76,76])=false:=by rw [ByteArray.toList_eq];rfl
  have t4:(opHA.toList == [82,83,84])=false:=by rw [ByteArray.toList_eq];rfl
  have t5:(opHA.toList == [82,69,84])=false:=by rw [ByteArray.toList_eq];rfl
  have t6:(opHA.toList == [82,69,84,73])=false:=by rw [ByteArray.toList_eq];rfl
  have t7:(opHA.toList == [82,69,84,78])=false:=by rw [ByteArray.toList_eq];rfl
  have t8:(opHA.toList == [72,65,76,84])=true:=by rw [ByteArray.toList_eq];rfl
  have K:=Lib.hid (knd_4 C)
  clear h1 h2 h3 h4 h5 h6 h7
  go_enter Tryz.func52,Tryz.ntmps52
  go_wp2
  go_ret
  exact HE.out _ _ B.out K.out
 by_cases h9:s=opJP
 ·subst h9
  have t1:(opJP.toList == [74,82])=false:=by rw [ByteArray.toList_eq];rfl
  have t2:(opJP.toList == [68,74,78,90])=false:=by rw [ByteArray.toList_eq];rfl
  have t3:(opJP.toList == [67,65,76,76])=false:=by rw [ByteArray.toList_eq];rfl
  have t4:(opJP.toList == [82,83,84])=false:=by rw [ByteArray.toList_eq];rfl
  have t5:(opJP.toList == [82,69,84])=false:=by rw [ByteArray.toList_eq];rfl
  have t6:(opJP.toList == [82,69,84,73])=false:=by rw [ByteArray.toList_eq];rfl
  have t7:(opJP.toList == [82,69,84,78])=false:=by rw [ByteArray.toList_eq];rfl
  have t8:(opJP.toList == [72,65,76,84])=false:=by rw [ByteArray.toList_eq];rfl
  have t9:(opJP.toList == [74,80])=true:=by rw [ByteArray.toList_eq];rfl
  have K:=Lib.hid (knd_5 C)
  obtain ⟨q,hq⟩:∃ z,C.any (kdT 4)=z:=⟨_,rfl⟩
  rw [hq] at HA K
  clear h1 h2 h3 h4 h5 h6 h7 h8 hq
  go_enter Tryz.func52,Tryz.ntmps52
  go_wp2_with fail
  refine HA.out.mono ?_
  rintro e w3 ⟨rfl,hb3⟩
  have B3:Hid (Below w.heap.size w w3):=B.out.trans (hb3.mono B.out.size)
  clear HA hb3 B
  cases q
  ·go_wp2
   go_ret
   exact HE.out _ _ B3.out K.out
  ·go_wp2
   go_ret
   exact HE.out _ _ B3.out K.out
 ·have K:Hid (kndP s C=0):=by
   show _=_
   unfold kndP
   rw [if_neg (by simp [h1,h2]),if_neg (by simp [h3,h4]),if_neg (by simp [h5,h6,h7]),if_neg h8,if_neg h9]
  have t1:(s.toList == [74,82])=false:=str_ne h1
  have t2:(s.toList == [68,74,78,90])=false:=str_ne h2
  have t3:(s.toList == [67,65,76,76])=false:=str_ne h3
  have t4:(s.toList == [82,83,84])=false:=str_ne h4
  have t5:(s.toList == [82,69,84])=false:=str_ne h5
  have t6:(s.toList == [82,69,84,73])=false:=str_ne h6
  have t7:(s.toList == [82,69,84,78])=false:=str_ne h7
  have t8:(s.toList == [72,65,76,84])=false:=str_ne h8
  have t9:(s.toList == [74,80])=false:=str_ne h9
  clear h1 h2 h3 h4 h5 h6 h7 h8 h9 HA
  go_enter Tryz.func52,Tryz.ntmps52
  go_wp2
  go_ret
  exact HE.out _ _ B.out K.out
end Go.Proofs.YtajlleeonddinaaGreatDoor
namespace Go.Proofs.YtajlleeonddinaaGreatDoor
open Go.RowKit
def pgA:Str→Int×Nat
 | []=>(0,0)
 | c :: r=>if c=203 then (1,1) else if c=237 then (2,1) else if c=221 then (if r.head?=some 203 then (5,3) else (3,1)) else if c=253 then (if r.head?=some 203 then (6,3) else (4,1)) else (0,0)
def nxA (b:Str):Nat:=if 5≤(pgA b).1 then 2 else (pgA b).2+1
theorem pg_none {b:Str} (h:b.length≤(pgA b).2):hdB b=none:=by
 cases b with
 | nil=>rfl
 | cons c r=>
  simp only [pgA,hdB,List.length_cons] at h ⊢
  split
  ·rw [if_pos ‹_›] at h
   cases r with
   | nil=>rfl
   | cons y u=>simp at h
  ·rw [if_neg ‹_›] at h
   split
   ·rw [if_pos ‹_›] at h
    cases r with
    | nil=>rfl
    | cons y u=>simp at h
   ·rw [if_neg ‹_›] at h
    split
    ·rw [if_pos ‹_›] at h
     cases r with
     | nil=>rfl
     | cons y u=>
      simp only [List.head?_cons,Option.some.injEq] at h ⊢
      split
      ·rw [if_pos ‹_›] at h
       match u,h with
       | [],h=>rfl
       | [x],h=>rfl
       | x :: z :: v,h=>simp at h
      ·rw [if_neg ‹_›] at h
       simp at h
    ·rw [if_neg ‹_›] at h
     split
     ·rw [if_pos ‹_›] at h
      cases r with
      | nil=>rfl
      | cons y u=>
       simp only [List.head?_cons,Option.some.injEq] at h ⊢
       split
       ·rw [if_pos ‹_›] at h
        match u,h with
        | [],h=>rfl
        | [x],h=>rfl
        | x :: z :: v,h=>simp at h
       ·rw [if_neg ‹_›] at h
        simp at h
     ·rw [if_neg ‹_›] at h
      simp at h
theorem pg_some {b:Str} (h:(pgA b).2<b.length):hdB b=some ((pgA b).1,b[(pgA b).2],if 5≤(pgA b).1 then b.getD 2 0 :: b.drop 4 else b.drop ((pgA b).2+1)):=by
 cases b with
 | nil=>simp at h
 | cons c r=>
  by_cases h1:c=203
  ·subst h1
   cases r with
   | nil=>simp [pgA] at h
   | cons y u=>rfl
  ·by_cases h2:c=237
   ·subst h2
    cases r with
    | nil=>simp [pgA] at h
    | cons y u=>rfl
   ·by_cases h3:c=221
    ·subst h3
     cases r with
     | nil=>simp [pgA] at h
     | cons y u=>
      by_cases hy:y=203
      ·subst hy
       match u,h with
       | [],h=>simp [pgA] at h
       | [x],h=>simp [pgA] at h
       | x :: z :: v,h=>rfl
      ·have e:pgA (221 :: y :: u)=(3,1):=by simp [pgA,hy]
       simp only [e]
       simp [hdB,hy]
    ·by_cases h4:c=253
     ·subst h4
      cases r with
      | nil=>simp [pgA] at h
      | cons y u=>
       by_cases hy:y=203
       ·subst hy
        match u,h with
        | [],h=>simp [pgA] at h
        | [x],h=>simp [pgA] at h
        | x :: z :: v,h=>rfl
       ·have e:pgA (253 :: y :: u)=(4,1):=by simp [pgA,hy]
        simp only [e]
        simp [hdB,hy]
     ·have e:pgA (c :: r)=(0,0):=by simp [pgA,h1,h2,h3,h4]
      simp only [e]
      simp [hdB,h1,h2,h3,h4]
theorem pg_rng (b:Str):(0≤(pgA b).1∧(pgA b).1≤6)∧(pgA b).2≤3∧(5≤(pgA b).1↔(pgA b).2=3):=by
 cases b with
 | nil=>decide
 | cons c r=>
  simp only [pgA]
  repeat' split
  all_goals decide
end Go.Proofs.YtajlleeonddinaaGreatDoor
namespace Go.Proofs.YtajlleeonddinaaGreatDoor
open Go.RowKit Go.Shelf
theorem same_start (w:World) (s1 s2:ByteArray) (v1 v2:Value):∃ w0,(w.alloc (.cells #[.string s1,v1] 24)).alloc (.cells #[.string s2,v2] 24)=w0∧
  w0.heap[w.heap.size]?=some (.cells #[.string s1,v1] 24 (0,0))∧w0.heap[w.heap.size+1]?=some (.cells #[.string s2,v2] 24 (0,0))∧Below w.heap.size w w0:=by
 refine ⟨_,rfl,(Below.heap_alloc _ _ _ (by simp)).trans (World.alloc_heap_new w _),?_,((Below.refl _ w).alloc (Nat.le_refl _) _).alloc (by simp) _⟩
 have h:=World.alloc_heap_new (w.alloc (.cells #[.string s1,v1] 24)) (.cells #[.string s2,v2] 24)
 rw [World.size_alloc] at h
 exact h
theorem sB_inj {a b:Str} (h:sB a=sB b):a=b:=by
 have h2:(sB a).data.toList=(sB b).data.toList:=by rw [h]
 simpa [sB] using h2
theorem sB_ne (a b:Str) (h:a≠b):((sB a).toList == (sB b).toList)=false:=strB_ne fun e=>h (sB_inj e)
theorem rsame_any (m1 m2:Str) (A1 A2:Option Addr) (c1 c2:Nat) (L1 L2:List Tr) (h1:L1.length≤1000) (h2:L2.length≤1000) (w:World) (H1:OpsP w A1 L1) (H2:OpsP w A2 L2) :
  Calls Tryz.prog 39 #[.agg #[.string (sB m1),.slice A1 L1.length c1],.agg #[.string (sB m2),.slice A2 L2.length c2]] w fun e w'=>e=.returned (.bool (decide (m1=m2)&&decide (L1=L2)))∧Below w.heap.size w w':=by
 obtain ⟨r,hr⟩:∃ r,(decide (m1=m2)&&decide (L1=L2))=r:=⟨_,rfl⟩
 have HR:=Lib.hid hr
 rw [hr]
 clear hr
 by_cases hm:m1=m2
 ·subst hm
  by_cases hl:L1.length=L2.length
  ·obtain ⟨w0,hw0,C1,C2,B0⟩:=same_start w (sB m1) (sB m1) (.slice A1 L1.length c1) (.slice A2 L2.length c2)
   obtain ⟨n,hn⟩:∃ n,L1.length=n:=⟨_,rfl⟩
   have HN:=Lib.hid hn
   have HL:=Lib.hid hl
   rw [← hl,hn] at C2 hw0
   rw [hn] at C1 h1
   rw [← hl,hn]
   have X1:=Lib.hid (H1.below B0)
   have X2:=Lib.hid (H2.below B0)
   have k0:=Lib.cell_of_heap C1 0
   have k1:=Lib.cell_of_heap C1 1
   have j0:=Lib.cell_of_heap C2 0
   have j1:=Lib.cell_of_heap C2 1
   have B0:=Lib.hid B0
   have hq:=strB_eq (sB m1)
   clear H1 H2 C1 C2 hn hl h2
   go_enter Tryz.func39,Tryz.ntmps39
   go_wp2
   clear hw0
   go_loopw [5] (fun i wr=>∃ j q:Nat,j≤n∧i=.int .i64 j∧wr=w0.drewN q∧Hid (∀ k,k<j→∀ (a:k<L1.length) (b:k<L2.length),L1[k]=L2[k])) (fun i _=>n - (intOf i).toNat)
   case atStart=>exact ⟨0,0,Nat.zero_le _,rfl,rfl,fun k h=>by omega⟩
   case round=>
    obtain ⟨j,q,hj,rfl,rfl,R⟩:=hrel
    by_cases hlt:j<n
    ·have hj1:j<L1.length:=by have:=HN.out;omega
     have hj2:j<L2.length:=by have:=HL.out;omega
     obtain ⟨b1,o1,hA1,-,p0,p1,p2⟩:=X1.out.at_ hj1
     obtain ⟨b2,o2,hA2,-,q0,q1,q2⟩:=X2.out.at_ hj2
     subst hA1
     subst hA2
     by_cases he:L1[j]=L2[j]
     ·have R2:Hid (∀ k,k<j+1→∀ (a:k<L1.length) (b:k<L2.length),L1[k]=L2[k]):=fun k hk a b=>by
       by_cases e:k=j
       ·subst e;exact he
       ·exact R.out k (by omega) a b
      rw [he] at p0 p1 p2
      obtain ⟨⟨x0,x1,x2⟩,hx⟩:∃ x,L2[j]=x:=⟨_,rfl⟩
      rw [hx] at p0 p1 p2 q0 q1 q2
      simp only at p0 p1 p2 q0 q1 q2
      clear he hx hj1 hj2 R
      go_wp2
      go_quiet (fail)
      go_wp2
      go_roundw
      case rel=>exact ⟨j+1,q+nq,by omega,by go_num,rfl,R2.out⟩
      case measure=>simp [intOf];omega
     ·have T:Hid (false=r):=by show false=r;rw [← HR.out,decide_eq_false (fun e=>he (by simp only [e]):¬L1=L2),Bool.and_false]
      have hne:=tr_ne he
      obtain ⟨⟨x0,x1,x2⟩,hx⟩:∃ x,L1[j]=x:=⟨_,rfl⟩
      obtain ⟨⟨y0,y1,y2⟩,hy⟩:∃ y,L2[j]=y:=⟨_,rfl⟩
      rw [hx] at p0 p1 p2 hne
      rw [hy] at q0 q1 q2 hne
      simp only at p0 p1 p2 q0 q1 q2 hne
      clear he hx hy hj1 hj2 R
      rcases hne with hne | ⟨rfl,hne⟩ | ⟨rfl,rfl,hne⟩
      all_goals
       go_wp2
       go_quiet (fail)
       go_wp2
       go_ret
       exact ⟨ret_bool T.out,B0.out.trans ((below_drewN w0 _ q).trans (below_drewN _ _ nq))⟩
    ·have T:Hid (true=r):=by
      have e:L1=L2:=List.ext_getElem HL.out fun k a b=>R.out k (by have:=HN.out;omega) a b
      show true=r
      rw [← HR.out,decide_eq_true e]
      rfl
     go_wp2
     go_ret
     exact ⟨ret_bool T.out,B0.out.trans (below_drewN w0 w.heap.size q)⟩
  ·have T:Hid (false=r):=by show false=r;rw [← HR.out,decide_eq_false (fun e=>hl (by rw [e]):¬L1=L2),Bool.and_false]
   have hq:=strB_eq (sB m1)
   have hne:((L1.length:Int) == (L2.length:Int))=false:=beq_eq_false_iff_ne.2 fun e=>hl (by omega)
   have hne2:((L1.length:Int) != (L2.length:Int))=true:=by unfold bne;rw [hne];rfl
   clear H1 H2
   go_enter Tryz.func39,Tryz.ntmps39
   go_wp2
   go_ret
   exact ⟨ret_bool T.out,((Below.refl _ w).alloc (Nat.le_refl _) _).alloc (by simp) _⟩
 ·have T:Hid (false=r):=by show false=r;rw [← HR.out,decide_eq_false hm,Bool.false_and]
  have hq:=sB_ne m1 m2 hm
  clear H1 H2
  go_enter Tryz.func39,Tryz.ntmps39
  go_wp2
  go_ret
  exact ⟨ret_bool T.out,((Below.refl _ w).alloc (Nat.le_refl _) _).alloc (by simp) _⟩
end Go.Proofs.YtajlleeonddinaaGreatDoor
namespace Go.Proofs.YtajlleeonddinaaGreatDoor
open Go.RowKit Go.Shelf
theorem rprefixes_1 (w:World):Calls Tryz.prog 98 #[.int .i64 1] w (RetB w [203]):=by
 have O:=Lib.hid (own_lit w [203] (by decide))
 go_enter Tryz.func98,Tryz.ntmps98
 go_wp2
 go_ret
 exact ⟨_,rfl,O.out,(Below.refl _ _).alloc (Nat.le_refl _) _⟩
theorem rprefixes_2 (w:World):Calls Tryz.prog 98 #[.int .i64 2] w (RetB w [237]):=by
 have O:=Lib.hid (own_lit w [237] (by decide))
 go_enter Tryz.func98,Tryz.ntmps98
 go_wp2
 go_ret
 exact ⟨_,rfl,O.out,(Below.refl _ _).alloc (Nat.le_refl _) _⟩
theorem rprefixes_3 (w:World):Calls Tryz.prog 98 #[.int .i64 3] w (RetB w [221]):=by
 have O:=Lib.hid (own_lit w [221] (by decide))
 go_enter Tryz.func98,Tryz.ntmps98
 go_wp2
 go_ret
 exact ⟨_,rfl,O.out,(Below.refl _ _).alloc (Nat.le_refl _) _⟩
theorem rprefixes_4 (w:World):Calls Tryz.prog 98 #[.int .i64 4] w (RetB w [253]):=by
 have O:=Lib.hid (own_lit w [253] (by decide))
 go_enter Tryz.func98,Tryz.ntmps98
 go_wp2
 go_ret
 exact ⟨_,rfl,O.out,(Below.refl _ _).alloc (Nat.le_refl _) _⟩
theorem rprefixes_5 (w:World):Calls Tryz.prog 98 #[.int .i64 5] w (RetB w [221,203]):=by
 have O:=Lib.hid (own_lit w [221,203] (by decide))
 go_enter Tryz.func98,Tryz.ntmps98
 go_wp2
 go_ret
 exact ⟨_,rfl,O.out,(Below.refl _ _).alloc (Nat.le_refl _) _⟩
theorem rprefixes_6 (w:World):Calls Tryz.prog 98 #[.int .i64 6] w (RetB w [253,203]):=by
 have O:=Lib.hid (own_lit w [253,203] (by decide))
 go_enter Tryz.func98,Tryz.ntmps98
 go_wp2
 go_ret
 exact ⟨_,rfl,O.out,(Below.refl _ _).alloc (Nat.le_refl _) _⟩
theorem rprefixes_any (page:Int) (w:World):Calls Tryz.prog 98 #[.int .i64 page] w (RetB w (preS page)):=by
 unfold preS
 by_cases h1:page=1
 ·rw [if_pos h1];subst h1;exact rprefixes_1 w
 by_cases h2:page=2
 ·rw [if_neg h1,if_pos h2];subst h2;exact rprefixes_2 w
 by_cases h3:page=3
 ·rw [if_neg h1,if_neg h2,if_pos h3];subst h3;exact rprefixes_3 w
 by_cases h4:page=4
 ·rw [if_neg h1,if_neg h2,if_neg h3,if_pos h4];subst h4;exact rprefixes_4 w
 by_cases h5:page=5
 ·rw [if_neg h1,if_neg h2,if_neg h3,if_neg h4,if_pos h5];subst h5;exact rprefixes_5 w
 by_cases h6:page=6
 ·rw [if_neg h1,if_neg h2,if_neg h3,if_neg h4,if_neg h5,if_pos h6];subst h6;exact rprefixes_6 w
 rw [if_neg h1,if_neg h2,if_neg h3,if_neg h4,if_neg h5,if_neg h6]
 have e1:(page == 1)=false:=by simpa using h1
 have e2:(page == 2)=false:=by simpa using h2
 have e3:(page == 3)=false:=by simpa using h3
 have e4:(page == 4)=false:=by simpa using h4
 have e5:(page == 5)=false:=by simpa using h5
 have e6:(page == 6)=false:=by simpa using h6
 clear h1 h2 h3 h4 h5 h6
 go_enter Tryz.func98,Tryz.ntmps98
 go_wp2
 go_ret
 exact ⟨_,rfl,World.ownsRow_nil _ _ _ _,Below.refl _ _⟩
theorem BytesAt.at_ {w:World} {A:Option Addr} {L:Str} (h:BytesAt w A L) {k:Nat} (hk:k<L.length):∃ b off,A=some ⟨b,off,none⟩∧w.cell? ⟨b,off+k,none⟩=some (.int .u8 (L[k].toNat:Int)):=by
 rcases h with rfl | ⟨b,off,rfl,hc⟩
 ·simp at hk
 ·exact ⟨b,off,rfl,hc k hk⟩
end Go.Proofs.YtajlleeonddinaaGreatDoor
namespace Go.Proofs.YtajlleeonddinaaGreatDoor
open Go.RowKit Go.Shelf
theorem al2 (w:World) (o1 o2:Obj):Below w.heap.size w ((w.alloc o1).alloc o2):=(up_alloc w o1).alloc (by simp) o2
def rsumN (l:Str):Nat→Nat
 | 0=>0
 | k+1=>if l[k]?.getD 0=119 then rsumN l k+2 else rsumN l k+1
theorem rsumN_le (l:Str):∀ k,rsumN l k≤2*k
 | 0=>Nat.le_refl _
 | k+1=>by
  have:=rsumN_le l k
  unfold rsumN
  split <;> omega
def rsizeT (page:Int) (ex:Str):Nat:=(preS page).length+1+rsumN ex ex.length
theorem rsize_any (page op:Int) (m:Str) (A:Option Addr) (n cap:Nat) (ex:Str) (hx:ex.length≤1000) (al:Bool) (w:World) :
  Calls Tryz.prog 70 #[enV page op m (.slice A n cap) ex al] w fun e w'=>e=.returned (.int .i64 (rsizeT page ex:Nat))∧Below w.heap.size w w':=by
 unfold enV
 obtain ⟨s,hs⟩:∃ s,sB ex=s:=⟨_,rfl⟩
 have hz:s.size=ex.length:=by rw [← hs,sB_size]
 have hat:∀ k (h:k<s.size) (h':k<ex.length),s[k]=ex[k]:=fun k h h'=>by subst hs;exact sB_at ex k h h'
 have HAT:=Lib.hid hat
 obtain ⟨l,hl⟩:∃ l,ex.length=l:=⟨_,rfl⟩
 have HL:=Lib.hid hl
 rw [hl] at hz hx
 rw [hs]
 clear hs hat hl
 obtain ⟨w0,hw0⟩:∃ w0,w.alloc (.cells #[.int .i64 page,.int .u8 op,.string (sB m),.slice A n cap,.string s,.bool al] 64)=w0:=⟨_,rfl⟩
 obtain ⟨b,hb⟩:∃ b,w.heap.size=b:=⟨_,rfl⟩
 have B0:Hid (Below b w w0):=by rw [← hw0,← hb];exact (Below.refl _ _).alloc (Nat.le_refl _) _
 have Z0:w0.heap.size=b+1:=by rw [← hw0,← hb];simp
 have c0:w0.heap[b]?=some (.cells #[.int .i64 page,.int .u8 op,.string (sB m),.slice A n cap,.string s,.bool al] 64 (0,0)):=by rw [← hw0,← hb];exact World.alloc_heap_new w _
 have C0:=Lib.hid c0
 have hpp:=rprefixes_any page w0
 have k0:=Lib.cell_of_heap c0 0
 have HB:=Lib.hid hb
 have HPL:=Lib.hid (pre_le page)
 obtain ⟨pl,hpl⟩:∃ p,(preS page).length=p:=⟨_,rfl⟩
 have HP:=Lib.hid hpl
 have HZ:=Lib.hid hz
 clear c0
 go_enter Tryz.func70,Tryz.ntmps70
 go_wp2_with fail
 refine hpp.mono ?_
 rintro e w1 ⟨v,rfl,hO,hb1⟩
 obtain ⟨A1,cap1,rfl,-⟩:=hO.bytes
 rw [hpl]
 have B1:Hid (Below b w w1):=B0.out.trans (hb1.mono (by omega))
 have c1:=(hb1.block b (by omega)).trans C0.out
 have C1:=Lib.hid c1
 have k4:=Lib.cell_of_heap c1 4
 have hp2:pl≤2:=by rw [← hpl];exact HPL.out
 clear hpp hO hb1 c1 k0 hw0 B0 C0 hpl Z0
 go_wp2
 clear k4
 go_loopw [4,3] (fun i o wr=>∃ k:Nat,k≤l∧i=.int .i64 k∧o=.int .i64 ((pl+1+rsumN ex k:Nat):Int)∧wr=w1) (fun i _ _=>l - (intOf i).toNat)
 case atStart=>exact ⟨0,Nat.zero_le _,rfl,rfl,rfl⟩
 case round=>
  obtain ⟨k,hk,rfl,rfl,rfl⟩:=hrel
  have k4:=Lib.cell_of_heap C1.out 4
  by_cases hlt:k<l
  ·have hlt':k<s.size:=by omega
   have hlt2:k<ex.length:=by rw [HL.out];exact hlt
   have SL:=rsumN_le ex k
   have hc:ex[k]?.getD 0=s[k]:=by rw [List.getElem?_eq_getElem hlt2,Option.getD_some];exact (HAT.out k hlt' hlt2).symm
   have HC:=Lib.hid hc
   obtain ⟨t,ht⟩:∃ t,rsumN ex k=t:=⟨_,rfl⟩
   rw [ht] at SL ⊢
   have HT:=Lib.hid ht
   clear hc ht
   have hk1:k≤1000:=by omega
   by_cases h119:s[k]=119
   ·have SS:Hid (rsumN ex (k+1)=t+2):=by show rsumN ex (k+1)=_;rw [rsumN,if_pos (HC.out.trans h119),HT.out]
    have hv:s[k].toNat=119:=by rw [h119];rfl
    clear h119
    go_wp2
    go_roundw
    case rel=>exact ⟨k+1,by omega,by go_num,by rw [SS.out];go_num,trivial⟩
    case measure=>simp [intOf];omega
   ·have SS:Hid (rsumN ex (k+1)=t+1):=by show rsumN ex (k+1)=_;rw [rsumN,if_neg (by rw [HC.out];exact h119),HT.out]
    have hv:((s[k].toNat:Int) == 119)=false:=by
     simp
     intro h
     exact h119 (UInt8.toNat_inj.1 (by rw [show (119:UInt8).toNat=119 from rfl];omega))
    clear h119
    go_wp2
    go_roundw
    case rel=>exact ⟨k+1,by omega,by go_num,by rw [SS.out];go_num,trivial⟩
    case measure=>simp [intOf];omega
  ·obtain rfl:k=l:=by omega
   have T:Hid (rsizeT page ex=pl+1+rsumN ex k):=by show rsizeT page ex=_;unfold rsizeT;rw [HP.out,HL.out]
   go_wp2
   go_ret
   exact ⟨by rw [T.out];rfl,by rw [HB.out];exact B1.out⟩
end Go.Proofs.YtajlleeonddinaaGreatDoor
namespace Go.Proofs.YtajlleeonddinaaGreatDoor
open Go.RowKit
def stepL (c:UInt8) (t:Str) (s:Int×Int):Int×Int:=
 if c=100 then (sgB (t.getD 0 0),s.2) else if c=101 then (s.1,sgB (t.getD 0 0)) else if c=110 then (s.1,((t.getD 0 0).toNat:Int)) else if c=119 then (s.1,((t.getD 0 0).toNat:Int)+256*((t.getD 1 0).toNat:Int)) else s
def stJ (ex:Str) (b:Str) (nx:Nat):Nat→Int×Int
 | 0=>(0,0)
 | j+1=>stepL (ex.getD j 0) (b.drop (nx+j)) (stJ ex b nx j)
theorem sz_same {g:Int} {i:Nat} {ex:Str} (hx:ExP g i ex):rsizeT g ex=sizeT g ex:=by
 obtain ⟨h0,h6⟩:=hx.pg
 rcases (by omega:g=0∨g=1∨g=2∨g=3∨g=4∨g=5∨g=6) with rfl | rfl | rfl | rfl | rfl | rfl | rfl <;> rcases hx.lst with rfl | rfl | rfl | rfl | rfl | rfl <;> decide
theorem getD_drop (b:Str) (k j:Nat):(b.drop k).getD j 0=b.getD (k+j) 0:=by
 rw [List.getD_eq_getElem?_getD,List.getD_eq_getElem?_getD,List.getElem?_drop]
theorem st_num {b:Str} {g:Int} {i:Nat} {ex:Str} (hx:ExP g i ex) (hg:(pgA b).1=g) (h:(pgA b).2<b.length) :
  stJ ex b (nxA b) ex.length=numB ex (if 5≤(pgA b).1 then b.getD 2 0 :: b.drop 4 else b.drop ((pgA b).2+1)):=by
 unfold nxA
 rw [hg]
 by_cases h5:5≤g
 ·rw [if_pos h5,if_pos h5]
  obtain rfl:=hx.hi h5
  rw [num_d]
  show stepL 100 (b.drop 2) (0,0)=_
  simp only [stepL,if_true,getD_drop,List.getD_cons_zero]
 ·rw [if_neg h5,if_neg h5]
  generalize (pgA b).2+1=nx
  rcases hx.lst with rfl | rfl | rfl | rfl | rfl | rfl
  ·rw [num_0];rfl
  ·rw [num_d];rfl
  ·rw [num_e];rfl
  ·rw [num_n];rfl
  ·rw [num_w];rfl
  ·rw [num_dn]
   show stepL 110 (b.drop (nx+1)) (stepL 100 (b.drop (nx+0)) (0,0))=_
   have e1:stepL 100 (b.drop (nx+0)) (0,0)=(sgB ((b.drop nx).getD 0 0),0):=by unfold stepL;rw [if_pos rfl];rfl
   rw [e1]
   unfold stepL
   rw [if_neg (by decide),if_neg (by decide),if_pos rfl]
   simp only [getD_drop,Nat.add_zero]
theorem st_bnd {b:Str} {g:Int} {i:Nat} {ex:Str} (hx:ExP g i ex) (hg:(pgA b).1=g) (hz:sizeT g ex≤b.length) :
  ∀ j (hj:j<ex.length),nxA b+j<b.length∧(ex[j]=119→nxA b+j+1<b.length)∧(ex[j]=100∨ex[j]=101∨ex[j]=110∨ex[j]=119):=by
 obtain ⟨h0,h6⟩:=hx.pg
 obtain ⟨-,hp3,hp5⟩:=pg_rng b
 have hat:(pgA b).2=(if 5≤g then 3 else (preS g).length):=by
  cases b with
  | nil=>rw [← hg];decide
  | cons c r=>
   rw [← hg]
   simp only [pgA]
   repeat' split
   all_goals first | rfl | (simp_all;done) | (exfalso;revert hg;simp_all;done) | decide
 unfold nxA
 rw [hg]
 by_cases h5:5≤g
 ·rw [if_pos h5]
  have he:=hx.hi h5
  subst he
  have hs:sizeT g [100]=4:=by rcases (by omega:g=5∨g=6) with rfl | rfl <;> rfl
  intro j hj
  obtain rfl:j=0:=by simp at hj;omega
  exact ⟨by omega,fun e=>absurd (show (100:UInt8)=119 from e) (by decide),.inl rfl⟩
 ·rw [if_neg h5] at hat ⊢
  rw [hat]
  have hs:sizeT g ex=(preS g).length+1+sumN ex ex.length:=rfl
  rw [hs] at hz
  rcases hx.lst with rfl | rfl | rfl | rfl | rfl | rfl
  ·intro j hj;simp at hj
  ·have:sumN [100] [100].length=1:=rfl
   intro j hj
   obtain rfl:j=0:=by simp at hj;omega
   exact ⟨by omega,fun e=>absurd (show (100:UInt8)=119 from e) (by decide),.inl rfl⟩
  ·have:sumN [101] [101].length=1:=rfl
   intro j hj
   obtain rfl:j=0:=by simp at hj;omega
   exact ⟨by omega,fun e=>absurd (show (101:UInt8)=119 from e) (by decide),.inr (.inl rfl)⟩
  ·have:sumN [110] [110].length=1:=rfl
   intro j hj
   obtain rfl:j=0:=by simp at hj;omega
   exact ⟨by omega,fun e=>absurd (show (110:UInt8)=119 from e) (by decide),.inr (.inr (.inl rfl))⟩
  ·have:sumN [119] [119].length=2:=rfl
   intro j hj
   obtain rfl:j=0:=by simp at hj;omega
   exact ⟨by omega,fun e=>by omega,.inr (.inr (.inr rfl))⟩
  ·have:sumN [100,110] [100,110].length=2:=rfl
   intro j hj
   simp only [List.length_cons,List.length_nil] at hj
   have hj2:j=0∨j=1:=by omega
   rcases hj2 with rfl | rfl
   ·exact ⟨by omega,fun e=>absurd (show (100:UInt8)=119 from e) (by decide),.inl rfl⟩
   ·exact ⟨by omega,fun e=>absurd (show (110:UInt8)=119 from e) (by decide),.inr (.inr (.inl rfl))⟩
end Go.Proofs.YtajlleeonddinaaGreatDoor
namespace Go.Proofs.YtajlleeonddinaaGreatDoor
open Go.RowKit Go.Shelf
attribute [local go_sem] Oper.semAt_some
end Go.Proofs.YtajlleeonddinaaGreatDoor
namespace Go.Proofs.YtajlleeonddinaaGreatDoor
open Go.RowKit Go.Shelf
attribute [local irreducible] Go.Mixed.wpMix
def lenE (x:En):Bool:=decide (x.1.length≤10)&&decide (x.2.1.length≤3)&&decide (x.2.2.1.length≤3)
def lenN (p n:Nat):Bool:=match atN p n with | some x=>lenE x | none=>kindT p n == rkindT p n
theorem len_0:∀ n:Fin 256,lenN 0 n.val=true:=by decide +kernel
theorem len_1:∀ n:Fin 256,lenN 1 n.val=true:=by decide +kernel
theorem len_2:∀ n:Fin 256,lenN 2 n.val=true:=by decide +kernel
theorem len_3:∀ n:Fin 256,lenN 3 n.val=true:=by decide +kernel
theorem len_4:∀ n:Fin 256,lenN 4 n.val=true:=by decide +kernel
theorem len_5:∀ n:Fin 256,lenN 5 n.val=true:=by decide +kernel
theorem len_6:∀ n:Fin 256,lenN 6 n.val=true:=by decide +kernel
theorem len_all (p n:Nat) (hp:p<7) (hn:n<256):lenN p n=true:=by
 rcases (by omega:p=0∨p=1∨p=2∨p=3∨p=4∨p=5∨p=6) with rfl | rfl | rfl | rfl | rfl | rfl | rfl
 ·exact len_0 ⟨n,hn⟩
 ·exact len_1 ⟨n,hn⟩
 ·exact len_2 ⟨n,hn⟩
 ·exact len_3 ⟨n,hn⟩
 ·exact len_4 ⟨n,hn⟩
 ·exact len_5 ⟨n,hn⟩
 ·exact len_6 ⟨n,hn⟩
theorem ok_none {page:Int} {n:Nat} (hn:n<256) (h:ratT page n=none):kindT page n=rkindT page n:=by
 by_cases hp:0≤page∧page≤6
 ·obtain ⟨p,rfl⟩:∃ p:Nat,page=p:=⟨page.toNat,by omega⟩
  have h1:=len_all p n (by omega) hn
  rw [← at_same _ n hn,atN_eq p n hn] at h
  unfold lenN at h1
  rw [h] at h1
  exact eq_of_beq h1
 ·unfold kindT rkindT
  rw [if_pos (by omega),if_neg (by omega),if_neg (by omega),if_neg (by omega)]
end Go.Proofs.YtajlleeonddinaaGreatDoor
namespace Go.Proofs.YtajlleeonddinaaGreatDoor
open Go.RowKit
theorem page_cases {p:Int} (hp:0≤p∧p≤6):p=0∨p=1∨p=2∨p=3∨p=4∨p=5∨p=6:=by omega
theorem hd_at {p:Int} (hp:0≤p∧p≤4) (o:UInt8) (t:Str) (h0:p=0→o≠203∧o≠221∧o≠237∧o≠253) (h3:p=3∨p=4→o≠203):hdB (preS p++o :: t)=some (p,o,t):=by
 rcases (by omega:p=0∨p=1∨p=2∨p=3∨p=4) with rfl | rfl | rfl | rfl | rfl
 ·obtain ⟨a,b,c,d⟩:=h0 rfl
  show hdB (o :: t)=_
  simp only [hdB]
  rw [if_neg a,if_neg c,if_neg b,if_neg d]
 ·rfl
 ·rfl
 ·have h:=h3 (.inl rfl)
  show hdB (221 :: o :: t)=_
  simp only [hdB]
  rw [if_neg (by decide),if_neg (by decide),if_pos (by decide),if_neg h]
 ·have h:=h3 (.inr rfl)
  show hdB (253 :: o :: t)=_
  simp only [hdB]
  rw [if_neg (by decide),if_neg (by decide),if_neg (by decide),if_pos (by decide),if_neg h]
theorem hd_at5 {p:Int} (hp:5≤p∧p≤6) (x o:UInt8) (t:Str):hdB (preS p++x :: o :: t)=some (p,o,x :: t):=by
 rcases (by omega:p=5∨p=6) with rfl | rfl <;> rfl
theorem hd_some {p:Int} (hp:0≤p∧p≤4) {o:UInt8} (t:Str) {x:En} (h:ratT p o.toNat=some x):hdB (preS p++o :: t)=some (p,o,t):=by
 have hx:=exP_of o.toNat_lt h
 have ne:∀ n:Nat,n<256→o.toNat≠n→o≠UInt8.ofNat n:=fun n hn hh e=>hh (by rw [e,UInt8.toNat_ofNat_of_lt' hn])
 refine hd_at hp o t (fun h0=>?_) (fun h3=>ne 203 (by decide) (hx.ind h3))
 obtain ⟨a,b,c,d⟩:=hx.main h0
 exact ⟨ne 203 (by decide) a,ne 221 (by decide) b,ne 237 (by decide) c,ne 253 (by decide) d⟩
theorem knd_of {p:Int} (hp:0≤p∧p≤6) {o:UInt8} (h:ratT p o.toNat=none) :
  (rkindT p o.toNat=2∧p≤4∧∃ p',pageT (preS p++[o])=some p'∧preS p'=preS p++[o]∧0≤p'∧p'≤6)∨
  ((rkindT p o.toNat=0∨rkindT p o.toNat=3∧p=2)∧(p≤4→∀ t,hdB (preS p++o :: t)=some (p,o,t))):=by
 have hlt:=o.toNat_lt
 have ho:o=UInt8.ofNat o.toNat:=by simp
 have hk:=knd_k ⟨p.toNat,by omega⟩ ⟨o.toNat,hlt⟩
 unfold kndB at hk
 simp only at hk
 rw [show ((p.toNat:Nat):Int)=p by omega,h] at hk
 simp only [Option.isSome_none,Bool.false_or,Bool.or_eq_true,Bool.and_eq_true,decide_eq_true_eq,beq_iff_eq] at hk
 have two:∀ q:Int,(q=0∧(o=203∨o=221∨o=237∨o=253))∨((q=3∨q=4)∧o=203)→q=p→(rkindT p o.toNat=2∧p≤4∧∃ p',pageT (preS p++[o])=some p'∧preS p'=preS p++[o]∧0≤p'∧p'≤6):=by
  intro q hq e
  subst e
  rcases hq with ⟨rfl,rfl | rfl | rfl | rfl⟩ | ⟨rfl | rfl,rfl⟩
  ·exact ⟨rfl,by decide,1,rfl,rfl,by decide,by decide⟩
  ·exact ⟨rfl,by decide,3,rfl,rfl,by decide,by decide⟩
  ·exact ⟨rfl,by decide,2,rfl,rfl,by decide,by decide⟩
  ·exact ⟨rfl,by decide,4,rfl,rfl,by decide,by decide⟩
  ·exact ⟨rfl,by decide,5,rfl,rfl,by decide,by decide⟩
  ·exact ⟨rfl,by decide,6,rfl,rfl,by decide,by decide⟩
 have on:∀ n:Nat,n<256→o.toNat=n→o=UInt8.ofNat n:=fun n hn e=>by rw [ho,e]
 by_cases hpre:(p=0∧(o=203∨o=221∨o=237∨o=253))∨((p=3∨p=4)∧o=203)
 ·exact .inl (two p hpre rfl)
 ·have hat:p≤4→∀ t,hdB (preS p++o :: t)=some (p,o,t):=fun h4 t=>hd_at ⟨hp.1,h4⟩ o t
   (fun h0=>⟨fun e=>hpre (.inl ⟨h0,.inl e⟩),fun e=>hpre (.inl ⟨h0,.inr (.inl e)⟩),fun e=>hpre (.inl ⟨h0,.inr (.inr (.inl e))⟩),fun e=>hpre (.inl ⟨h0,.inr (.inr (.inr e))⟩)⟩)
   (fun h3 e=>hpre (.inr ⟨h3,e⟩))
  refine .inr ⟨?_,hat⟩
  rcases hk with ((hk | ⟨hk,h2⟩) | ⟨h0,hk⟩) | ⟨h3,hk⟩
  ·exact .inl hk
  ·exact .inr ⟨hk,by omega⟩
  ·exfalso
   refine hpre (.inl ⟨by omega,?_⟩)
   rcases hk with ((hk | hk) | hk) | hk
   ·exact .inl (on 203 (by decide) hk)
   ·exact .inr (.inl (on 221 (by decide) hk))
   ·exact .inr (.inr (.inl (on 237 (by decide) hk)))
   ·exact .inr (.inr (.inr (on 253 (by decide) hk)))
  ·exfalso
   exact hpre (.inr ⟨by omega,on 203 (by decide) hk⟩)
theorem miss4 {p:Int} (hp:0≤p∧p≤4):itR (preS p)=iteO 4 (preS p)∧needR (preS p)=(preS p).length+1:=by
 rcases (by omega:p=0∨p=1∨p=2∨p=3∨p=4) with rfl | rfl | rfl | rfl | rfl <;> exact ⟨rfl,rfl⟩
theorem miss5 {p:Int} (hp:5≤p∧p≤6) {r:Str} (hr:r.length≤1):itR (preS p++r)=iteO 4 (preS p++r)∧needR (preS p++r)=4:=by
 match r,hr with
 | [],_=>rcases (by omega:p=5∨p=6) with rfl | rfl <;> exact ⟨rfl,rfl⟩
 | [x],_=>rcases (by omega:p=5∨p=6) with rfl | rfl <;> exact ⟨rfl,rfl⟩
 | _ :: _ :: _,h=>simp at h
theorem it_of {b:Str} {p:Int} {o:UInt8} {t:Str} (h:hdB b=some (p,o,t)):itR b=match ratT p o.toNat with
   | none=>if rkindT p o.toNat=0 then iteO 2 (b.take 1) else iteO 3 (b.take 2)
   | some x=>if b.length<sizeT p x.2.2.1 then iteO 4 b else ⟨1,b.take (sizeT p x.2.2.1),x.1,(fillV x.2.2.1 x.2.1 (numB x.2.2.1 t).1 (numB x.2.2.1 t).2).getD [],x.2.2.2⟩:=by
 unfold itR
 rw [h]
 try rfl
def mS (s0:Int×Int) (ex:Str) (b:Str) (k:Nat):Nat→Int×Int
 | 0=>s0
 | j+1=>stepL (ex.getD j 0) (b.drop (k+sumN ex j)) (mS s0 ex b k j)
theorem mS_succ (s0:Int×Int) {ex:Str} (b:Str) (k:Nat) {j:Nat} (hj:j<ex.length):mS s0 ex b k (j+1)=stepL ex[j] (b.drop (k+sumN ex j)) (mS s0 ex b k j):=by
 show stepL (ex.getD j 0) _ _=_
 rw [List.getD_eq_getElem?_getD,List.getElem?_eq_getElem hj]
 rfl
theorem mS_num {g:Int} {i:Nat} {ex:Str} (hx:ExP g i ex) (b:Str) (k:Nat):mS (0,0) ex b k ex.length=numB ex (b.drop k):=by
 rcases hx.lst with rfl | rfl | rfl | rfl | rfl | rfl
 ·rw [num_0];rfl
 ·rw [num_d];rfl
 ·rw [num_e];rfl
 ·rw [num_n];rfl
 ·rw [num_w];rfl
 ·rw [num_dn]
  show stepL 110 (b.drop (k+1)) (stepL 100 (b.drop (k+0)) (0,0))=_
  have e1:stepL 100 (b.drop (k+0)) (0,0)=(sgB ((b.drop k).getD 0 0),0):=by unfold stepL;rw [if_pos rfl];rfl
  rw [e1]
  unfold stepL
  rw [if_neg (by decide),if_neg (by decide),if_pos rfl]
  simp only [getD_drop,Nat.add_zero]
theorem sumN_all (ex:Str) {j:Nat} (h:j≤ex.length):sumN ex j≤sumN ex ex.length:=by
 have e:ex=ex.take j++ex.drop j:=(List.take_append_drop j ex).symm
 have h1:sumN ex ex.length=sumN ex j+((ex.drop j).map letN).sum:=by
  unfold sumN
  rw [List.take_length]
  conv=>lhs;rw [e]
  rw [List.map_append,List.sum_append]
 omega
theorem ex_let {g:Int} {i:Nat} {ex:Str} (hx:ExP g i ex) {j:Nat} (hj:j<ex.length):ex[j]=100∨ex[j]=101∨ex[j]=110∨ex[j]=119:=by
 have hm:=List.getElem_mem hj
 generalize ex[j]=c at hm ⊢
 rcases hx.lst with rfl | rfl | rfl | rfl | rfl | rfl
 ·cases hm
 ·exact .inl (List.mem_singleton.1 hm)
 ·exact .inr (.inl (List.mem_singleton.1 hm))
 ·exact .inr (.inr (.inl (List.mem_singleton.1 hm)))
 ·exact .inr (.inr (.inr (List.mem_singleton.1 hm)))
 ·rcases List.mem_cons.1 hm with h | h
  ·exact .inl h
  ·exact .inr (.inr (.inl (List.mem_singleton.1 h)))
theorem ex_len {g:Int} {i:Nat} {ex:Str} (hx:ExP g i ex):ex.length≤2:=by
 rcases hx.lst with rfl | rfl | rfl | rfl | rfl | rfl <;> decide
theorem pre_5 {p:Int} (h:5≤p∧p≤6):(preS p).length=2:=by
 rcases (by omega:p=5∨p=6) with rfl | rfl <;> rfl
end Go.Proofs.YtajlleeonddinaaGreatDoor
namespace Go.Proofs.YtajlleeonddinaaGreatDoor
open Go.RowKit Go.Shelf
attribute [local go_sem] Oper.semAt_some
def RetRFill (w:World) (m:Str) (o:Option (List Tr)) (e:Ending) (w':World):Prop:=match o with
 | some L2=>∃ v,e=.returned (.tuple #[.agg #[.string (sB m),v],.bool true])∧OwnT w' w.heap.size v L2∧Below w.heap.size w w'
 | none=>e=.returned (.tuple #[.agg #[.string ⟨#[]⟩,.slice none 0 0],.bool false])∧Below w.heap.size w w'
theorem fillR_no {ex:Str} {L:List Tr} {d n:Int} {k:Nat} (hk:k<L.length) (h:okR ex L d n k=false):fillR ex L d n=none:=by
 unfold fillR
 refine if_neg fun hc=>?_
 have:=List.all_eq_true.1 hc.1 k (List.mem_range.2 hk)
 rw [h] at this
 cases this
theorem fillR_yes {ex:Str} {L:List Tr} {d n:Int} (h:∀ k,k<L.length→okR ex L d n k=true) (h1:useD ex L d L.length=true) (h2:useN ex L n L.length=true):fillR ex L d n=some ((List.range L.length).map (stR ex L d n)):=by
 unfold fillR
 exact if_pos ⟨List.all_eq_true.2 fun k hk=>h k (List.mem_range.1 hk),h1,h2⟩
theorem fillR_noD {ex:Str} {L:List Tr} {d n:Int} (h1:useD ex L d L.length=false):fillR ex L d n=none:=by
 unfold fillR
 refine if_neg fun hc=>?_
 rw [h1] at hc
 exact absurd hc.2.1 (by simp)
theorem fillR_noN {ex:Str} {L:List Tr} {d n:Int} (h1:useN ex L n L.length=false):fillR ex L d n=none:=by
 unfold fillR
 refine if_neg fun hc=>?_
 rw [h1] at hc
 exact absurd hc.2.2 (by simp)
theorem useD_step (ex:Str) (L:List Tr) (d:Int) (k:Nat):useD ex L d (k+1)=(useD ex L d k||letR ex L k == 100):=by
 unfold useD
 rw [List.range_succ,List.any_append]
 simp [Bool.or_assoc]
theorem useN_step (ex:Str) (L:List Tr) (n:Int) (k:Nat):useN ex L n (k+1)=(useN ex L n k||(letR ex L k != 100&&letR ex L k != 0)):=by
 unfold useN
 rw [List.range_succ,List.any_append]
 simp [Bool.or_assoc]
theorem map_step (ex:Str) (L:List Tr) (d n:Int) (k:Nat):(List.range (k+1)).map (stR ex L d n)=(List.range k).map (stR ex L d n)++[stR ex L d n k]:=by
 rw [List.range_succ,List.map_append]
 rfl
theorem fill_start (w:World) (page op:Int) (m:Str) (v:Value) (ex:Str) (al:Bool) (n:Nat) (hn:w.heap.size=n):∃ w0,((w.alloc (.cells #[.int .i64 page,.int .u8 op,.string (sB m),v,.string (sB ex),.bool al] 64)).alloc (.cells #[.string ⟨#[]⟩,.slice none 0 0] 24))=w0∧
  w0.heap[n]?=some (.cells #[.int .i64 page,.int .u8 op,.string (sB m),v,.string (sB ex),.bool al] 64 (0,0))∧Rz w0 (n+1)∧Below w.heap.size w w0∧w0.heap.size=n+2:=by
 subst hn
 refine ⟨_,rfl,(Below.heap_alloc _ _ _ (by simp)).trans (World.alloc_heap_new w _),?_,((Below.refl _ w).alloc (Nat.le_refl _) _).alloc (by simp) _,by simp⟩
 have h:=World.alloc_heap_new (w.alloc (.cells #[.int .i64 page,.int .u8 op,.string (sB m),v,.string (sB ex),.bool al] 64)) (.cells #[.string ⟨#[]⟩,.slice none 0 0] 24)
 rwa [World.size_alloc] at h
theorem rfill_any (page op:Int) (m:Str) (A:Option Addr) (cap l:Nat) (L:List Tr) (hl:L.length=l) (hL:l≤1000) (ex:Str) (hx:ex.length≤1000) (al:Bool) (d q:Int) (w:World) (H:OpsP w A L) :
  Calls Tryz.prog 72 #[enV page op m (.slice A l cap) ex al,.int .i64 d,.int .i64 q] w (RetRFill w m (fillR ex L d q)):=by
 unfold enV
 obtain ⟨n,hn⟩:∃ z,w.heap.size=z:=⟨_,rfl⟩
 obtain ⟨w0,hw0,c0,zz,b0,z0⟩:=fill_start w page op m (.slice A l cap) ex al n hn
 have BB:Hid (Below n w w0):=by rw [← hn];exact b0
 have HN:=Lib.hid hn
 have HL:=Lib.hid hl
 have Z0:=Lib.hid z0
 have PH:=Lib.hid H
 have C0:=Lib.hid c0
 have R0:=Lib.hid zz
 have k0:=Lib.cell_of_heap c0 0
 have k1:=Lib.cell_of_heap c0 1
 have k2:=Lib.cell_of_heap c0 2
 have k3:=Lib.cell_of_heap c0 3
 have k4:=Lib.cell_of_heap c0 4
 have k5:=Lib.cell_of_heap c0 5
 clear H b0 c0 z0 zz hl
 go_enter Tryz.func72,Tryz.ntmps72
 go_upto_region 1 with fail
 clear hw0
 go_upto_region 2 with fail
 obtain ⟨w3,hw3⟩:∃ z,w0.alloc (.cells #[.string (sB m),.slice none 0 0] 24)=z:=⟨_,rfl⟩
 obtain ⟨b,hb⟩:∃ z,w0.heap.size=z:=⟨_,rfl⟩
 have y2:Below w0.heap.size w0 w3:=by rw [← hw3];exact (Below.refl _ _).alloc (Nat.le_refl _) _
 have RI:Hid (Ri w3 b (sB m) (.slice none 0 0)):=by rw [← hw3,← hb];exact heap_alloc_new w0 _
 have hb2:n+1<b:=by have:=Z0.out;omega
 have ZS:Hid (w3.heap.size=b+1):=by show _=_;rw [← hw3,← hb];simp
 have B3:Hid (Below n w w3):=BB.out.trans (y2.mono (by have:=Z0.out;omega))
 have C3:=Lib.hid ((y2.block n (by have:=Z0.out;omega)).trans C0.out)
 have R3:Hid (Rz w3 (n+1)):=(y2.block (n+1) (by have:=Z0.out;omega)).trans R0.out
 rw [hw3,hb]
 clear hw3 hb y2 k0 k1 k2 k3 k4 k5 BB Z0 C0 R0
 have U0:Hid ((d == 0)=useD ex L d 0):=by show _=_;unfold useD;simp
 have U1:Hid ((q == 0)=useN ex L q 0):=by show _=_;unfold useN;simp
 obtain ⟨ud,hud⟩:∃ z,(d == 0)=z:=⟨_,rfl⟩
 obtain ⟨un,hun⟩:∃ z,(q == 0)=z:=⟨_,rfl⟩
 rw [hud] at U0
 rw [hun] at U1
 have hO0:Hid (OwnT w3 (b+1) (.slice none 0 0) ((List.range 0).map (stR ex L d q))):=World.ownsRow_nil _ _ _ _
 go_wp2
 clear hud hun
 go_loopw [9,10,11] (fun x y i wr=>∃ (j:Nat) (A4:Option Addr) (cap4:Nat) (p r:Bool),j≤l∧i=.int .i64 j∧x=.bool p∧y=.bool r∧Hid (p=useD ex L d j)∧Hid (r=useN ex L q j)∧Hid (∀ k,k<j→okR ex L d q k=true)∧Hid (Ri wr b (sB m) (.slice A4 j cap4))∧Hid (OwnT wr (b+1) (.slice A4 j cap4) ((List.range j).map (stR ex L d q)))∧Hid (Below b w3 wr)∧Hid (b+1≤wr.heap.size)) (fun _ _ i _=>l - (intOf i).toNat)
 case atStart=>exact ⟨0,none,0,ud,un,Nat.zero_le _,rfl,rfl,rfl,U0.out,U1.out,fun k h=>by omega,RI.out,hO0.out,Below.refl _ _,Nat.le_of_eq ZS.out.symm⟩
 case round=>
  clear RI hO0 U0 U1
  obtain ⟨j,A4,cap4,p,r,hj,rfl,rfl,rfl,UD,UN,OK,hri,hO,hB,hS⟩:=hrel
  have cw:=(hB.out.block n (by omega)).trans C3.out
  have CW:=Lib.hid cw
  have RW:Hid (Rz wr (n+1)):=(hB.out.block (n+1) (by omega)).trans R3.out
  have BW:Hid (Below n w wr):=B3.out.trans (hB.out.mono (by omega))
  have PW:Hid (OpsP wr A L):=PH.out.below (by rw [HN.out];exact BW.out)
  have k0:=Lib.cell_of_heap cw 0
  have k1:=Lib.cell_of_heap cw 1
  have k2:=Lib.cell_of_heap cw 2
  have k3:=Lib.cell_of_heap cw 3
  have k4:=Lib.cell_of_heap cw 4
  have k5:=Lib.cell_of_heap cw 5
  clear cw
  by_cases hlt:j<l
  ·have hjL:j<L.length:=by have:=HL.out;omega
   obtain ⟨b1,o1,rfl,-,p0,p1,p2⟩:=PW.out.at_ hjL
   have g2:L.getD j tr0=L[j]:=by rw [List.getD_eq_getElem?_getD,List.getElem?_eq_getElem hjL];rfl
   rw [← g2] at p0 p1 p2
   have HJL:=Lib.hid hjL
   obtain ⟨⟨y0,y1,y2⟩,hy⟩:∃ z,L.getD j tr0=z:=⟨_,rfl⟩
   have HY:=Lib.hid hy
   rw [hy] at p0 p1 p2
   simp only at p0 p1 p2
   have hal:Below wr.heap.size wr (wr.alloc (.cells #[.int .i64 y0,.int .i64 y1,.int .i64 y2] 55)):=(Below.refl _ _).alloc (Nat.le_refl _) _
   have HAL:=Lib.hid hal
   have bx:(wr.alloc (.cells #[.int .i64 y0,.int .i64 y1,.int .i64 y2] 55)).heap[wr.heap.size]?=some (.cells #[.int .i64 y0,.int .i64 y1,.int .i64 y2] 55 (0,0)):=heap_alloc_new wr _
   have BX:=Lib.hid bx
   have lt:=fun w' h=>letter_any page op m (some ⟨b1,o1,none⟩) cap l L HL.out hL ex hx al j hlt w' h
   simp only [enV] at lt
   have LT:=Lib.hid lt
   clear hy hjL g2 hal bx lt
   go_upto_region 8 with fail
   obtain ⟨g,hg⟩:∃ z,wr.heap.size=z:=⟨_,rfl⟩
   obtain ⟨w4,hw4⟩:∃ z,wr.alloc (.cells #[.int .i64 y0,.int .i64 y1,.int .i64 y2] 55)=z:=⟨_,rfl⟩
   rw [hw4,hg]
   rw [hw4,hg] at BX
   rw [hw4] at HAL
   have c4:=(HAL.out.block n (by have:=hS.out;omega)).trans CW.out
   have C4:=Lib.hid c4
   have RW4:Hid (Rz w4 (n+1)):=(HAL.out.block (n+1) (by have:=hS.out;omega)).trans RW.out
   have P4:=Lib.hid (PW.out.below HAL.out)
   have hri4:Hid (Ri w4 b (sB m) (.slice A4 j cap4)):=(HAL.out.block b (by have:=hS.out;omega)).trans hri.out
   have hO4:=Lib.hid (hO.out.below HAL.out)
   have hB4:Hid (Below b w3 w4):=hB.out.trans (HAL.out.mono (by have:=hS.out;omega))
   have hS4:Hid (b+1≤g∧g<w4.heap.size):=by
    have h1:=hS.out
    exact ⟨by omega,(Array.getElem?_eq_some_iff.1 BX.out).1⟩
   have GB:Hid (∀ g',(Value.slice A4 j cap4).ownBlock=some g'→g'≠g):=fun g' hg'=>by have:=(World.ownsRow.lt hO.out g' hg').2;omega
   have k0:=Lib.cell_of_heap c4 0
   have k1:=Lib.cell_of_heap c4 1
   have k2:=Lib.cell_of_heap c4 2
   have k3:=Lib.cell_of_heap c4 3
   have k4:=Lib.cell_of_heap c4 4
   have k5:=Lib.cell_of_heap c4 5
   clear hw4 c4 p0 p1 p2 hg HAL CW RW BW PW hri hO hB hS
   go_wp2_with fail
   refine (LT.out w4 P4.out).mono ?_
   rintro e w5 ⟨rfl,hb⟩
   have RW5:Hid (Rz w5 (n+1)):=(hb.block (n+1) (by have:=hS4.out;omega)).trans RW4.out
   have hri5:Hid (Ri w5 b (sB m) (.slice A4 j cap4)):=(hb.block b (by have:=hS4.out;omega)).trans hri4.out
   have hO5:=Lib.hid (hO4.out.below hb)
   have hB5:Hid (Below b w3 w5):=hB4.out.trans (hb.mono (by have:=hS4.out;omega))
   have bx5:Hid (w5.heap[g]?=some (.cells #[.int .i64 y0,.int .i64 y1,.int .i64 y2] 55 (0,0))):=(hb.block g hS4.out.2).trans BX.out
   have hS5:Hid (b+1≤g∧g<w5.heap.size):=⟨hS4.out.1,Nat.lt_of_lt_of_le hS4.out.2 hb.size⟩
   have hgb:g≠b:=by have:=hS5.out.1;omega
   have hgn:g≠n+1:=by have:=hS5.out.1;omega
   have q0:=Lib.cell_of_heap bx5.out 0
   have q1:=Lib.cell_of_heap bx5.out 1
   have q2:=Lib.cell_of_heap bx5.out 2
   have hll:((List.range j).map (stR ex L d q)).length=j:=by rw [List.length_map,List.length_range]
   have HLL:=Lib.hid hll
   clear hb k0 k1 k2 k3 k4 k5 LT P4 RW4 hri4 hO4 hB4 BX hS4 C4 hll
   rcases letR_cases ex L j with hv9 | hv9 | hv9 | hv9 | hv9
   rotate_left 4
   ·have e9:letR ex L j=0:=hv9
    rw [hv9]
    simp only [show ((0:UInt8).toNat:Int)=0 from rfl]
    have ST:Hid (stR ex L d q j=(y0,y1,y2)):=by show stR ex L d q j=_;unfold stR;rw [if_neg (by rw [e9];decide),if_pos e9,HY.out]
    have OKJ:Hid (okR ex L d q j=true):=by show okR ex L d q j=_;unfold okR;rw [e9];rfl
    have UD2:Hid (p=useD ex L d (j+1)):=by show _=_;rw [useD_step,e9];rw [← UD.out];simp
    have UN2:Hid (r=useN ex L q (j+1)):=by show _=_;rw [useN_step,e9];rw [← UN.out];simp
    have hri6:=hri5
    have hO6:=hO5
    have hB6:=hB5
    have hS6:Hid (b+1≤w5.heap.size):=by have:=hS5.out;show _≤_;omega
    have OK2:Hid (∀ k,k<j+1→okR ex L d q k=true):=fun k hk=>by
     by_cases e:k=j
     ·rw [e];exact OKJ.out
     ·exact OK.out k (by omega)
    have W3:Hid ((List.range (j+1)).map (stR ex L d q)=(List.range j).map (stR ex L d q)++[(y0,y1,y2)]):=by show _=_;rw [map_step,ST.out]
    clear hri5 hO5 hB5 RW5
    obtain ⟨-,r1⟩:=hri6.out.cells
    have BK:Hid (∀ w8,Below (b+1) w5 w8→Ri w8 b (sB m) (.slice A4 j cap4)∧Below b w3 w8∧b+1≤w8.heap.size):=fun w8 hB8=>⟨(hB8.block b (by omega)).trans hri6.out,hB6.out.trans (hB8.mono (by omega)),Nat.le_trans hS6.out hB8.size⟩
    go_wp2_with (at_builtin;refine wpList_appT hO6.out hS6.out rfl _ _ rfl rfl w5.heap.size (by simp) rfl (y0,y1,y2) j HLL.out (by omega) ?_;intro A4' cap4' w8 hO8 hB8;obtain ⟨hri8,hB9,hS9⟩:=BK.out w8 hB8;rw [← W3.out] at hO8;obtain ⟨r2,r3⟩:=hri8.cells;have r4:w8.frozen? ⟨b,1,none⟩=false:=Lib.frozen_of_heap hri8 1;have hO8:=Lib.hid hO8;have hri8:=Lib.hid hri8;have hB9:=Lib.hid hB9;have hS9:=Lib.hid hS9;clear hB8 r2)
    have hri9:Hid (Ri (w8.setCell ⟨b,1,none⟩ (.slice A4' (j+1) cap4')) b (sB m) (.slice A4' (j+1) cap4')):=heap_setCell_same w8 b 1 _ _ _ hri8.out
    have hO9:Hid (OwnT (w8.setCell ⟨b,1,none⟩ (.slice A4' (j+1) cap4')) (b+1) (.slice A4' (j+1) cap4') ((List.range (j+1)).map (stR ex L d q))):=row_set hO8.out (p:=⟨b,1,none⟩) (by simp) _
    have hBa:Hid (Below b w3 (w8.setCell ⟨b,1,none⟩ (.slice A4' (j+1) cap4'))):=hB9.out.setCell (p:=⟨b,1,none⟩) (Nat.le_refl _) _
    have hSa:Hid (b+1≤(w8.setCell ⟨b,1,none⟩ (.slice A4' (j+1) cap4')).heap.size):=by have h1:=hS9.out;simp [Hid] at h1 ⊢;omega
    go_roundw
    case rel=>exact ⟨j+1,A4',cap4',_,_,by omega,by go_num,rfl,rfl,UD2.out,UN2.out,OK2.out,hri9.out,hO9.out,hBa.out,hSa.out⟩
    case measure=>simp [intOf];omega
   ·have e9:letR ex L j=100:=hv9
    rw [hv9]
    simp only [show ((100:UInt8).toNat:Int)=100 from rfl]
    have fz:w5.frozen? ⟨g,2,none⟩=false:=Lib.frozen_of_heap bx5.out 2
    have WI:=Lib.hid (fun w'=>rwithin_any 100 d w')
    simp only [show ((100:UInt8).toNat:Int)=100 from rfl] at WI
    have ST:Hid (stR ex L d q j=(y0,y1,d)):=by show stR ex L d q j=_;unfold stR;rw [if_pos e9,HY.out]
    have OKJ:Hid (okR ex L d q j=withR 100 d):=by show okR ex L d q j=_;unfold okR;rw [ST.out,e9];simp
    have UD2:Hid (true=useD ex L d (j+1)):=by show _=_;rw [useD_step,e9];simp
    have UN2:Hid (r=useN ex L q (j+1)):=by show _=_;rw [useN_step,e9];rw [← UN.out];simp
    obtain ⟨o,ho⟩:∃ z,withR 100 d=z:=⟨_,rfl⟩
    rw [ho] at OKJ WI
    have hri6:Hid (Ri (w5.setCell ⟨g,2,none⟩ (.int .i64 d)) b (sB m) (.slice A4 j cap4)):=(heap_setCell_other w5 ⟨g,2,none⟩ b _ hgb.symm).trans hri5.out
    have hO6:Hid (OwnT (w5.setCell ⟨g,2,none⟩ (.int .i64 d)) (b+1) (.slice A4 j cap4) ((List.range j).map (stR ex L d q))):=row_set_ne hO5.out (p:=⟨g,2,none⟩) GB.out _
    have hB6:Hid (Below b w3 (w5.setCell ⟨g,2,none⟩ (.int .i64 d))):=hB5.out.setCell (p:=⟨g,2,none⟩) (by have:=hS5.out.1;simp;omega) _
    have RW6:Hid (Rz (w5.setCell ⟨g,2,none⟩ (.int .i64 d)) (n+1)):=(heap_setCell_other w5 ⟨g,2,none⟩ (n+1) _ hgn.symm).trans RW5.out
    have hS6:Hid (b+1≤(w5.setCell ⟨g,2,none⟩ (.int .i64 d)).heap.size):=by have:=hS5.out;simp [Hid];omega
    clear ho hri5 hO5 hB5 RW5
    go_wp2_with fail
    refine (WI.out _).mono ?_
    rintro e wx ⟨rfl,rfl⟩
    cases o with
    | false=>
     have B6:Hid (Below n w (w5.setCell ⟨g,2,none⟩ (.int .i64 d))):=B3.out.trans (hB6.out.mono (by omega))
     have NO2:=Lib.hid (fillR_no HJL.out OKJ.out)
     clear q0 q1 q2 WI hri6 hO6 hB6
     have NO:Hid (fillR ex L d q=none):=NO2.out
     obtain ⟨z0,z1,z2,z3⟩:=RW6.out.cells
     have F:Hid (RetRFill w m (fillR ex L d q) (.returned (.tuple #[.agg #[.string ⟨#[]⟩,.slice none 0 0],.bool false])) (((w5.setCell ⟨g,2,none⟩ (.int .i64 d)).setCell ⟨n+1,0,none⟩ (.string ⟨#[]⟩)).setCell ⟨n+1,1,none⟩ (.slice none 0 0))):=by
      show RetRFill w m (fillR ex L d q) _ _
      rw [NO.out]
      refine ⟨rfl,?_⟩
      rw [HN.out]
      exact (B6.out.setCell (p:=⟨n+1,0,none⟩) (by simp) _).setCell (p:=⟨n+1,1,none⟩) (by simp) _
     have E:=Lib.hid (RW6.out.set ⟨#[]⟩ (.slice none 0 0))
     go_wp2
     obtain ⟨e0,e1⟩:=E.out
     obtain ⟨w6,hw6⟩:∃ w6,(((w5.setCell ⟨g,2,none⟩ (.int .i64 d)).setCell ⟨n+1,0,none⟩ (.string ⟨#[]⟩)).setCell ⟨n+1,1,none⟩ (.slice none 0 0))=w6:=⟨_,rfl⟩
     rw [hw6] at F e0 e1 ⊢
     clear hw6 z0 z1 z2 z3
     refine bodyPost_ret (v:=.tuple #[.agg #[.string ⟨#[]⟩,.slice none 0 0],.bool false]) ?_ rfl F.out
     simp [results,Tryz.results72,go_sem,e0,e1]
    | true=>
     have OK2:Hid (∀ k,k<j+1→okR ex L d q k=true):=fun k hk=>by
      by_cases e:k=j
      ·rw [e];exact OKJ.out
      ·exact OK.out k (by omega)
     have W3:Hid ((List.range (j+1)).map (stR ex L d q)=(List.range j).map (stR ex L d q)++[(y0,y1,d)]):=by show _=_;rw [map_step,ST.out]
     clear WI
     obtain ⟨-,r1⟩:=hri6.out.cells
     have BK:Hid (∀ w8,Below (b+1) (w5.setCell ⟨g,2,none⟩ (.int .i64 d)) w8→Ri w8 b (sB m) (.slice A4 j cap4)∧Below b w3 w8∧b+1≤w8.heap.size):=fun w8 hB8=>⟨(hB8.block b (by omega)).trans hri6.out,hB6.out.trans (hB8.mono (by omega)),Nat.le_trans hS6.out hB8.size⟩
     go_wp2_with (at_builtin;refine wpList_appT hO6.out hS6.out rfl _ _ rfl rfl w5.heap.size (by simp) rfl (y0,y1,d) j HLL.out (by omega) ?_;intro A4' cap4' w8 hO8 hB8;obtain ⟨hri8,hB9,hS9⟩:=BK.out w8 hB8;rw [← W3.out] at hO8;obtain ⟨r2,r3⟩:=hri8.cells;have r4:w8.frozen? ⟨b,1,none⟩=false:=Lib.frozen_of_heap hri8 1;have hO8:=Lib.hid hO8;have hri8:=Lib.hid hri8;have hB9:=Lib.hid hB9;have hS9:=Lib.hid hS9;clear hB8 r2)
     have hri9:Hid (Ri (w8.setCell ⟨b,1,none⟩ (.slice A4' (j+1) cap4')) b (sB m) (.slice A4' (j+1) cap4')):=heap_setCell_same w8 b 1 _ _ _ hri8.out
     have hO9:Hid (OwnT (w8.setCell ⟨b,1,none⟩ (.slice A4' (j+1) cap4')) (b+1) (.slice A4' (j+1) cap4') ((List.range (j+1)).map (stR ex L d q))):=row_set hO8.out (p:=⟨b,1,none⟩) (by simp) _
     have hBa:Hid (Below b w3 (w8.setCell ⟨b,1,none⟩ (.slice A4' (j+1) cap4'))):=hB9.out.setCell (p:=⟨b,1,none⟩) (Nat.le_refl _) _
     have hSa:Hid (b+1≤(w8.setCell ⟨b,1,none⟩ (.slice A4' (j+1) cap4')).heap.size):=by have h1:=hS9.out;simp [Hid] at h1 ⊢;omega
     go_roundw
     case rel=>exact ⟨j+1,A4',cap4',_,_,by omega,by go_num,rfl,rfl,UD2.out,UN2.out,OK2.out,hri9.out,hO9.out,hBa.out,hSa.out⟩
     case measure=>simp [intOf];omega
   all_goals
    have e9:=hv9
    have WI:=fun w'=>rwithin_any (letR ex L j) q w'
    have fz:w5.frozen? ⟨g,2,none⟩=false:=Lib.frozen_of_heap bx5.out 2
    have ST:Hid (stR ex L d q j=(y0,y1,q)):=by show stR ex L d q j=_;unfold stR;rw [if_neg (by rw [e9];decide),if_neg (by rw [e9];decide),HY.out]
    have OKJ:Hid (okR ex L d q j=withR (letR ex L j) q):=by show okR ex L d q j=_;unfold okR;rw [ST.out,e9];simp
    have UD2:Hid (p=useD ex L d (j+1)):=by show _=_;rw [useD_step,e9];rw [← UD.out];simp
    have UN2:Hid (true=useN ex L q (j+1)):=by show _=_;rw [useN_step,e9];simp
    obtain ⟨o,ho⟩:∃ z,withR (letR ex L j) q=z:=⟨_,rfl⟩
    rw [ho] at OKJ WI
    rw [hv9] at WI ⊢
    simp only [UInt8.reduceToNat,Int.cast_ofNat_Int] at WI ⊢
    have WI:=Lib.hid WI
    have hri6:Hid (Ri (w5.setCell ⟨g,2,none⟩ (.int .i64 q)) b (sB m) (.slice A4 j cap4)):=(heap_setCell_other w5 ⟨g,2,none⟩ b _ hgb.symm).trans hri5.out
    have hO6:Hid (OwnT (w5.setCell ⟨g,2,none⟩ (.int .i64 q)) (b+1) (.slice A4 j cap4) ((List.range j).map (stR ex L d q))):=row_set_ne hO5.out (p:=⟨g,2,none⟩) GB.out _
    have hB6:Hid (Below b w3 (w5.setCell ⟨g,2,none⟩ (.int .i64 q))):=hB5.out.setCell (p:=⟨g,2,none⟩) (by have:=hS5.out.1;simp;omega) _
    have RW6:Hid (Rz (w5.setCell ⟨g,2,none⟩ (.int .i64 q)) (n+1)):=(heap_setCell_other w5 ⟨g,2,none⟩ (n+1) _ hgn.symm).trans RW5.out
    have hS6:Hid (b+1≤(w5.setCell ⟨g,2,none⟩ (.int .i64 q)).heap.size):=by have:=hS5.out;simp [Hid];omega
    clear ho hri5 hO5 hB5 RW5
    go_wp2_with fail
    refine (WI.out _).mono ?_
    rintro e wx ⟨rfl,rfl⟩
    cases o with
    | false=>
     have B6:Hid (Below n w (w5.setCell ⟨g,2,none⟩ (.int .i64 q))):=B3.out.trans (hB6.out.mono (by omega))
     have NO2:=Lib.hid (fillR_no HJL.out OKJ.out)
     clear q0 q1 q2 WI hri6 hO6 hB6
     have NO:Hid (fillR ex L d q=none):=NO2.out
     obtain ⟨z0,z1,z2,z3⟩:=RW6.out.cells
     have F:Hid (RetRFill w m (fillR ex L d q) (.returned (.tuple #[.agg #[.string ⟨#[]⟩,.slice none 0 0],.bool false])) (((w5.setCell ⟨g,2,none⟩ (.int .i64 q)).setCell ⟨n+1,0,none⟩ (.string ⟨#[]⟩)).setCell ⟨n+1,1,none⟩ (.slice none 0 0))):=by
      show RetRFill w m (fillR ex L d q) _ _
      rw [NO.out]
      refine ⟨rfl,?_⟩
      rw [HN.out]
      exact (B6.out.setCell (p:=⟨n+1,0,none⟩) (by simp) _).setCell (p:=⟨n+1,1,none⟩) (by simp) _
     have E:=Lib.hid (RW6.out.set ⟨#[]⟩ (.slice none 0 0))
     go_wp2
     obtain ⟨e0,e1⟩:=E.out
     obtain ⟨w6,hw6⟩:∃ w6,(((w5.setCell ⟨g,2,none⟩ (.int .i64 q)).setCell ⟨n+1,0,none⟩ (.string ⟨#[]⟩)).setCell ⟨n+1,1,none⟩ (.slice none 0 0))=w6:=⟨_,rfl⟩
     rw [hw6] at F e0 e1 ⊢
     clear hw6 z0 z1 z2 z3
     refine bodyPost_ret (v:=.tuple #[.agg #[.string ⟨#[]⟩,.slice none 0 0],.bool false]) ?_ rfl F.out
     simp [results,Tryz.results72,go_sem,e0,e1]
    | true=>
     have OK2:Hid (∀ k,k<j+1→okR ex L d q k=true):=fun k hk=>by
      by_cases e:k=j
      ·rw [e];exact OKJ.out
      ·exact OK.out k (by omega)
     have W3:Hid ((List.range (j+1)).map (stR ex L d q)=(List.range j).map (stR ex L d q)++[(y0,y1,q)]):=by show _=_;rw [map_step,ST.out]
     clear WI
     obtain ⟨-,r1⟩:=hri6.out.cells
     have BK:Hid (∀ w8,Below (b+1) (w5.setCell ⟨g,2,none⟩ (.int .i64 q)) w8→Ri w8 b (sB m) (.slice A4 j cap4)∧Below b w3 w8∧b+1≤w8.heap.size):=fun w8 hB8=>⟨(hB8.block b (by omega)).trans hri6.out,hB6.out.trans (hB8.mono (by omega)),Nat.le_trans hS6.out hB8.size⟩
     go_wp2_with (at_builtin;refine wpList_appT hO6.out hS6.out rfl _ _ rfl rfl w5.heap.size (by simp) rfl (y0,y1,q) j HLL.out (by omega) ?_;intro A4' cap4' w8 hO8 hB8;obtain ⟨hri8,hB9,hS9⟩:=BK.out w8 hB8;rw [← W3.out] at hO8;obtain ⟨r2,r3⟩:=hri8.cells;have r4:w8.frozen? ⟨b,1,none⟩=false:=Lib.frozen_of_heap hri8 1;have hO8:=Lib.hid hO8;have hri8:=Lib.hid hri8;have hB9:=Lib.hid hB9;have hS9:=Lib.hid hS9;clear hB8 r2)
     have hri9:Hid (Ri (w8.setCell ⟨b,1,none⟩ (.slice A4' (j+1) cap4')) b (sB m) (.slice A4' (j+1) cap4')):=heap_setCell_same w8 b 1 _ _ _ hri8.out
     have hO9:Hid (OwnT (w8.setCell ⟨b,1,none⟩ (.slice A4' (j+1) cap4')) (b+1) (.slice A4' (j+1) cap4') ((List.range (j+1)).map (stR ex L d q))):=row_set hO8.out (p:=⟨b,1,none⟩) (by simp) _
     have hBa:Hid (Below b w3 (w8.setCell ⟨b,1,none⟩ (.slice A4' (j+1) cap4'))):=hB9.out.setCell (p:=⟨b,1,none⟩) (Nat.le_refl _) _
     have hSa:Hid (b+1≤(w8.setCell ⟨b,1,none⟩ (.slice A4' (j+1) cap4')).heap.size):=by have h1:=hS9.out;simp [Hid] at h1 ⊢;omega
     go_roundw
     case rel=>exact ⟨j+1,A4',cap4',_,_,by omega,by go_num,rfl,rfl,UD2.out,UN2.out,OK2.out,hri9.out,hO9.out,hBa.out,hSa.out⟩
     case measure=>simp [intOf];omega
  ·obtain rfl:j=l:=by omega
   have hw:=hO.out
   have OKA:Hid (∀ k,k<L.length→okR ex L d q k=true):=fun k hk=>OK.out k (by have:=HL.out;omega)
   obtain ⟨c0,c1⟩:=hri.out.cells
   have UD3:Hid (p=useD ex L d L.length):=by show _=_;rw [HL.out];exact UD.out
   have UN3:Hid (r=useN ex L q L.length):=by show _=_;rw [HL.out];exact UN.out
   have hO7:=hO
   clear hw UD UN OK
   cases p with
   | false=>
    have NO2:=Lib.hid (fillR_noD (n:=q) UD3.out.symm)
    clear UD3 UN3 c0 c1 hO hri hO7 OKA
    have NO:Hid (fillR ex L d q=none):=NO2.out
    obtain ⟨z0,z1,z2,z3⟩:=RW.out.cells
    have F:Hid (RetRFill w m (fillR ex L d q) (.returned (.tuple #[.agg #[.string ⟨#[]⟩,.slice none 0 0],.bool false])) ((wr.setCell ⟨n+1,0,none⟩ (.string ⟨#[]⟩)).setCell ⟨n+1,1,none⟩ (.slice none 0 0))):=by
     show RetRFill w m (fillR ex L d q) _ _
     rw [NO.out]
     refine ⟨rfl,?_⟩
     rw [HN.out]
     exact (BW.out.setCell (p:=⟨n+1,0,none⟩) (by simp) _).setCell (p:=⟨n+1,1,none⟩) (by simp) _
    have E:=Lib.hid (RW.out.set ⟨#[]⟩ (.slice none 0 0))
    go_wp2
    obtain ⟨e0,e1⟩:=E.out
    obtain ⟨w6,hw6⟩:∃ w6,((wr.setCell ⟨n+1,0,none⟩ (.string ⟨#[]⟩)).setCell ⟨n+1,1,none⟩ (.slice none 0 0))=w6:=⟨_,rfl⟩
    rw [hw6] at F e0 e1 ⊢
    clear hw6 z0 z1 z2 z3
    refine bodyPost_ret (v:=.tuple #[.agg #[.string ⟨#[]⟩,.slice none 0 0],.bool false]) ?_ rfl F.out
    simp [results,Tryz.results72,go_sem,e0,e1]
   | true=>
    cases r with
    | false=>
     have NO2:=Lib.hid (fillR_noN (d:=d) UN3.out.symm)
     clear UD3 UN3 c0 c1 hO hri hO7 OKA
     have NO:Hid (fillR ex L d q=none):=NO2.out
     obtain ⟨z0,z1,z2,z3⟩:=RW.out.cells
     have F:Hid (RetRFill w m (fillR ex L d q) (.returned (.tuple #[.agg #[.string ⟨#[]⟩,.slice none 0 0],.bool false])) ((wr.setCell ⟨n+1,0,none⟩ (.string ⟨#[]⟩)).setCell ⟨n+1,1,none⟩ (.slice none 0 0))):=by
      show RetRFill w m (fillR ex L d q) _ _
      rw [NO.out]
      refine ⟨rfl,?_⟩
      rw [HN.out]
      exact (BW.out.setCell (p:=⟨n+1,0,none⟩) (by simp) _).setCell (p:=⟨n+1,1,none⟩) (by simp) _
     have E:=Lib.hid (RW.out.set ⟨#[]⟩ (.slice none 0 0))
     go_wp2
     obtain ⟨e0,e1⟩:=E.out
     obtain ⟨w6,hw6⟩:∃ w6,((wr.setCell ⟨n+1,0,none⟩ (.string ⟨#[]⟩)).setCell ⟨n+1,1,none⟩ (.slice none 0 0))=w6:=⟨_,rfl⟩
     rw [hw6] at F e0 e1 ⊢
     clear hw6 z0 z1 z2 z3
     refine bodyPost_ret (v:=.tuple #[.agg #[.string ⟨#[]⟩,.slice none 0 0],.bool false]) ?_ rfl F.out
     simp [results,Tryz.results72,go_sem,e0,e1]
    | true=>
     have YES:=Lib.hid (fillR_yes OKA.out UD3.out.symm UN3.out.symm)
     have F:Hid (RetRFill w m (fillR ex L d q) (.returned (.tuple #[.agg #[.string (sB m),.slice A4 j cap4],.bool true])) ((wr.setCell ⟨n+1,0,none⟩ (.string (sB m))).setCell ⟨n+1,1,none⟩ (.slice A4 j cap4))):=by
      show RetRFill w m (fillR ex L d q) _ _
      rw [YES.out,HL.out]
      refine ⟨_,rfl,?_,?_⟩
      ·rw [HN.out]
       exact row_mono (row_set (row_set hO7.out (p:=⟨n+1,0,none⟩) (by simp;omega) _) (p:=⟨n+1,1,none⟩) (by simp;omega) _) (by omega)
      ·rw [HN.out]
       exact (BW.out.setCell (p:=⟨n+1,0,none⟩) (by simp) _).setCell (p:=⟨n+1,1,none⟩) (by simp) _
     obtain ⟨z0,z1,z2,z3⟩:=RW.out.cells
     have E:=Lib.hid (RW.out.set (sB m) (.slice A4 j cap4))
     clear UD3 UN3 hO hri hO7 OKA YES
     go_wp2
     obtain ⟨e0,e1⟩:=E.out
     obtain ⟨w6,hw6⟩:∃ w6,((wr.setCell ⟨n+1,0,none⟩ (.string (sB m))).setCell ⟨n+1,1,none⟩ (.slice A4 j cap4))=w6:=⟨_,rfl⟩
     rw [hw6] at F e0 e1 ⊢
     clear hw6 z0 z1 z2 z3 c0 c1
     refine bodyPost_ret (v:=.tuple #[.agg #[.string (sB m),.slice A4 j cap4],.bool true]) ?_ rfl F.out
     simp [results,Tryz.results72,go_sem,e0,e1]
end Go.Proofs.YtajlleeonddinaaGreatDoor
namespace Go.Proofs.YtajlleeonddinaaGreatDoor
open Go.RowKit Go.Shelf
attribute [local go_sem] Oper.semAt_some
end Go.Proofs.YtajlleeonddinaaGreatDoor
