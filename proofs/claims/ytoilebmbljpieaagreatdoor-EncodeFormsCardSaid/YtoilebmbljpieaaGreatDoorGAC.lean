/-
  NumF, NumG, NumE, NumH, NumI, NumJ, NumL, OpA, Sa, OpB, NumM, NumN, TbA, Mixed, TbB, Round, Each.
-/
import Derived.Test.YtoilebmbljpieaaGreatDoorGAA
import Derived.Laws.IdiomStrings
import Derived.Lib.SlBytesRow
import Derived.Deep.OwnRows
import Derived.Laws.EntriesVeiled
import Derived.Deep.QuietTactic
import Derived.BigQuiet
import Derived.Deep.Draws
import Derived.RegionTactic
import Derived.Lib.IndexMore
import Derived.StillTail
import Derived.Deep.Quiet
import Derived.Tactics
import Derived.Tactics2
import Derived.KernelRfl
import Derived.RangeFuncNested
import Derived.RangeFuncBound
import Derived.RangeFuncCalls
import Derived.RangeFuncLeaves
import Derived.RangeFuncBox
import Derived.OwnWalkIn
import Derived.TacticsInMore
set_option linter.all false
set_option maxRecDepth 100000
set_option maxHeartbeats 4000000
namespace Go.Proofs.YtoilebmbljpieaaGreatDoor
open Go.RowKit
def IntsAt (w:World) (A:Option Addr) (zs:List Int):Prop:=
 zs=[]∨∃ b off,A=some ⟨b,off,none⟩∧∀ j (h:j<zs.length),w.cell? ⟨b,off+j,none⟩=some (.int .i64 zs[j])
theorem IntsAt.at_ {w:World} {A:Option Addr} {zs:List Int} (h:IntsAt w A zs) {k:Nat} (hk:k<zs.length):∃ b off,A=some ⟨b,off,none⟩∧w.cell? ⟨b,off+k,none⟩=some (.int .i64 zs[k]):=by
 rcases h with rfl | ⟨b,off,rfl,hc⟩
 ·simp at hk
 ·exact ⟨b,off,rfl,hc k hk⟩
def fitsB (lo hi:Int) (zs:List Int):Bool:=zs.all fun n=>decide (lo≤n)&&decide (n≤hi)
theorem fits_bad (lo hi:Int) (zs:List Int) (k:Nat) (h:k<zs.length) (hb:zs[k]<lo∨hi<zs[k]):fitsB lo hi zs=false:=by
 unfold fitsB
 rw [List.all_eq_false]
 refine ⟨zs[k],List.getElem_mem h,?_⟩
 simp
 omega
theorem fits_all (lo hi:Int) (zs:List Int) (h:∀ j (h:j<zs.length),lo≤zs[j]∧zs[j]≤hi):fitsB lo hi zs=true:=by
 unfold fitsB
 rw [List.all_eq_true]
 intro x hx
 obtain ⟨j,hj,rfl⟩:=List.getElem_of_mem hx
 have:=h j hj
 simp
 omega
theorem fits_any (lo hi:Int) (A:Option Addr) (cap:Nat) (zs:List Int) (hl:zs.length≤maxLen) (w:World) (hz:IntsAt w A zs) :
  Calls Tryz.prog 56 #[.int .i64 lo,.int .i64 hi,.slice A zs.length cap] w fun e w'=>e=.returned (.bool (fitsB lo hi zs))∧w=w':=by
 unfold maxLen at hl
 have Z:=Lib.hid hz
 clear hz
 go_enter Tryz.func56,Tryz.ntmps56
 go_wp2
 go_loop [11] (fun i=>∃ k:Nat,k≤zs.length∧i=.int .i64 k∧Hid (∀ j (h:j<zs.length),j<k→lo≤zs[j]∧zs[j]≤hi)) (fun i=>zs.length - (intOf i).toNat)
 case atStart=>exact ⟨0,Nat.zero_le _,rfl,fun j h h'=>by omega⟩
 case round=>
  obtain ⟨k,hk,rfl,R⟩:=hrel
  by_cases hlt:k<zs.length
  ·obtain ⟨b,off,hA,hc⟩:=Z.out.at_ hlt
   subst hA
   by_cases h1:zs[k]<lo
   ·have F:=Lib.hid (fits_bad lo hi zs k hlt (.inl h1))
    go_wp2
    go_ret
    exact ⟨ret_bool F.out.symm,rfl⟩
   ·by_cases h2:hi<zs[k]
    ·have F:=Lib.hid (fits_bad lo hi zs k hlt (.inr h2))
     go_wp2
     go_ret
     exact ⟨ret_bool F.out.symm,rfl⟩
    ·have N:Hid (∀ j (h:j<zs.length),j<k+1→lo≤zs[j]∧zs[j]≤hi):=fun j h h'=>by
      by_cases e:j=k
      ·subst e;omega
      ·exact R.out j h (by omega)
     go_wp2
     go_round
     case rel=>exact ⟨k+1,by omega,by go_num,N⟩
     case measure=>simp [intOf];omega
  ·have F:=Lib.hid (fits_all lo hi zs fun j h=>R.out j h (by omega))
   go_wp2
   go_ret
   exact ⟨ret_bool F.out.symm,rfl⟩
theorem ints_one (w:World) (x:Int) (t:TypeId):IntsAt (w.alloc (.cells #[.int .i64 x] t)) (some ⟨w.heap.size,0,none⟩) [x]:=by
 refine .inr ⟨_,_,rfl,fun j h=>?_⟩
 obtain rfl:j=0:=by simp at h;omega
 simp [go_sem]
theorem info_u8:(Tryz.prog.info? 5).map (fun i=>(i.zero,i.size,i.bytes))=some (some (.int .u8 0),1,1):=by kernel_rfl
def hexU (x:Int):UInt8:=(if x<10 then 48+x else 55+x).toNat.toUInt8
def hexTab:ByteArray:=⟨#[48,49,50,51,52,53,54,55,56,57,65,66,67,68,69,70]⟩
theorem hexTab_at (x:Int) (h0:0≤x) (h1:x<16) (h:x.toNat<hexTab.size):hexTab[x.toNat]=hexU x:=by
 have t:∀ i:Fin 16,∀ h:i.val<hexTab.size,hexTab[i.val]=hexU (i.val:Int):=by decide +kernel
 have:=t ⟨x.toNat,by omega⟩ h
 simpa [Int.toNat_of_nonneg h0] using this
theorem and15 (x:Int):bits .and .i64 x 15=x % 16:=by
 show IntKind.i64.wrap ((BitVec.ofInt 64 x &&& BitVec.ofInt 64 15).toNat:Int)=_
 rw [BitVec.toNat_and,show (BitVec.ofInt 64 15).toNat=2 ^ 4 - 1 from rfl,Nat.and_two_pow_sub_one_eq_mod,BitVec.toNat_ofInt,IntKind.wrap_i64]
 omega
def digI (n:Int) (i:Nat):Int:=(n / 2 ^ (4*i)) % 16
theorem digI_bd (n:Int) (i:Nat):0≤digI n i∧digI n i<16:=by unfold digI;omega
def hexS (n:Int) (d:Nat):ByteArray:=⟨((List.range d).map fun j=>hexU (digI n (d - 1 - j))).toArray⟩
theorem hexS_size (n:Int) (d:Nat):(hexS n d).size=d:=by show (((List.range d).map fun j=>hexU (digI n (d - 1 - j))).toArray).size=d;simp
theorem hexS_at (n:Int) (d j:Nat) (h:j<(hexS n d).size):(hexS n d)[j]=hexU (digI n (d - 1 - j)):=by
 have h1:(hexS n d).data[j]'h=hexU (digI n (d - 1 - j)):=by simp [hexS]
 exact h1
def HexRel (w:World) (n:Int) (d k:Nat) (wr:World):Prop:=
 (∀ j,j<d→wr.cell? ⟨w.heap.size+1,j,none⟩=some (.int .u8 (if d - 1 - j<k then ((hexU (digI n (d - 1 - j))).toNat:Int) else 0)))∧(∀ j,j<d→wr.frozen? ⟨w.heap.size+1,j,none⟩=false)∧Below w.heap.size w wr
theorem hexRel_start (w:World) (n:Int) (d:Nat) (O:Obj) (e:TypeId):HexRel w n d 0 ((w.alloc O).alloc (.cells (madeCells #[.int .u8 0] d) e)):=by
 refine ⟨fun j h=>?_,fun j h=>?_,((Below.refl _ _).alloc (Nat.le_refl _) _).alloc (by simp) _⟩
 ·rw [if_neg (by omega)]
  simp [go_sem,madeCells,h,Nat.mod_one]
 ·simp [go_sem]
theorem hexRel_next (w wr:World) (n:Int) (d k:Nat) (hk:k<d) (hr:HexRel w n d k wr) :
  HexRel w n d (k+1) (wr.setCell ⟨w.heap.size+1,d - 1 - k,none⟩ (.int .u8 ((hexU (digI n k)).toNat:Int))):=by
 obtain ⟨r1,r2,r3⟩:=hr
 refine ⟨fun j hj=>?_,fun j hj=>?_,r3.setCell (by simp) _⟩
 ·by_cases e:j=d - 1 - k
  ·subst e
   have:=r1 _ hj
   have e2:d - 1 - (d - 1 - k)=k:=by omega
   rw [if_pos (by omega),e2]
   simp [go_sem,this]
  ·rw [World.cell?_setCell_other _ _ _ _ (by simp),r1 j hj]
   by_cases h1:d - 1 - j<k
   ·rw [if_pos h1,if_pos (by omega)]
   ·rw [if_neg h1,if_neg (by omega)]
 ·simp [go_sem,r2 j hj]
theorem hexRel_end (w wr:World) (n:Int) (d cap:Nat) (hr:HexRel w n d d wr) :
  (convert 28 9 (.slice (some ⟨w.heap.size+1,0,none⟩) d cap)).run Tryz.prog wr=.ok (.string (hexS n d)) wr:=by
 have h:=Lib.run_convert_whole (P:=Tryz.prog) wr 28 5 9 Tryz.underlying28 Tryz.underlying5 Tryz.underlying9 (w.heap.size+1) 0 (hexS n d) (fun i hi=>by
  have hi':i<d:=by rw [hexS_size] at hi;exact hi
  rw [Nat.zero_add,hr.1 i hi',if_pos (by omega),hexS_at n d i hi]) cap
 rw [hexS_size] at h
 exact h
theorem hex_any (n:Int) (d:Nat) (hd:d≤8) (w:World) :
  Calls Tryz.prog 202 #[.int .i64 n,.int .i64 d] w fun e w'=>e=.returned (.string (hexS n d))∧Below w.heap.size w w':=by
 have hF:fitsB 0 8 [(d:Int)]=true:=by simp [fitsB];omega
 have hmk:=fun w=>run_make_row' (P:=Tryz.prog) 28 5 (.int .u8 0) 1 Tryz.underlying28 info_u8 rfl .i64 .i64 d (by omega) (by omega) w
 have S:=fun O=>Lib.hid (hexRel_start w n d O 5)
 go_enter Tryz.func202,Tryz.ntmps202
 go_wp2_with (go_at_call 56;refine (fits_any 0 8 _ _ [(d:Int)] (by simp [maxLen]) _ (ints_one _ _ _)).mono ?_;rintro e w' ⟨rfl,rfl⟩)
 clear hmk
 go_loopw [14] (fun i wr=>∃ k:Nat,k≤d∧i=.int .i64 k∧HexRel w n d k wr) (fun i _=>d - (intOf i).toNat)
 case atStart=>exact ⟨0,Nat.zero_le _,rfl,(S _).out⟩
 case round=>
  obtain ⟨k,hk,rfl,hr⟩:=hrel
  have R:=Lib.hid hr
  clear hr
  by_cases hlt:k<d
  ·have hbit:=and15 (n / 2 ^ (4*k))
   obtain ⟨x0,x1⟩:=digI_bd n k
   have hd0:digI n k=n / 2 ^ (4*k) % 16:=rfl
   rw [← hd0] at hbit
   clear hd0
   obtain ⟨x,hx⟩:∃ x,digI n k=x:=⟨_,rfl⟩
   rw [hx] at hbit x0 x1
   have X:=Lib.hid hx
   clear hx
   have g1:=R.out.1 (d - 1 - k) (by omega)
   have g2:=R.out.2.1 (d - 1 - k) (by omega)
   have N:=Lib.hid (hexRel_next w wr n d k hlt R.out)
   go_wp2
   go_roundw
   case rel=>exact ⟨k+1,by omega,by go_num,by have h:=N.out;rw [X.out,← hexTab_at x x0 x1 (by show x.toNat<16;omega)] at h;exact h⟩
   case measure=>simp [intOf];omega
  ·obtain rfl:k=d:=by omega
   have hback:=hexRel_end w wr n k k R.out
   go_wp2
   go_ret
   exact ⟨rfl,R.out.2.2⟩
end Go.Proofs.YtoilebmbljpieaaGreatDoor
namespace Go.Proofs.YtoilebmbljpieaaGreatDoor
open Go.RowKit
theorem extract_le (s:ByteArray) (a b:Nat):(s.extract a b).size≤s.size:=by simp;omega
theorem bytes_ext {a b:ByteArray} (h:a.data.toList=b.data.toList):a=b:=by
 apply ByteArray.ext
 exact Array.toList_inj.1 h
def strLen:Value→Nat
 | .string s=>s.size
 | _=>0
def trimL (c:UInt8) (s:ByteArray):ByteArray:=⟨(s.data.toList.dropWhile (· == c)).toArray⟩
theorem list_cons (t:ByteArray) (h:0<t.size):t.data.toList=t[0] :: (t.extract 1 t.size).data.toList:=by
 rw [Lib.extract_data]
 have hl:0<t.data.toList.length:=by simpa using h
 have h1:=List.drop_eq_getElem_cons hl
 rw [List.drop_zero] at h1
 rw [List.take_of_length_le (by simp),← show t.data.toList[0]=t[0] from rfl]
 exact h1
theorem trimL_same (c:UInt8) (t:ByteArray) (h:0<t.size) (e:t[0]=c):trimL c (t.extract 1 t.size)=trimL c t:=by
 apply bytes_ext
 unfold trimL
 simp only [list_cons t h,List.dropWhile_cons,e,beq_self_eq_true,if_true]
theorem trimL_stop (c:UInt8) (t:ByteArray) (h:0<t.size) (e:¬t[0]=c):trimL c t=t:=by
 apply bytes_ext
 unfold trimL
 show List.dropWhile (· == c) t.data.toList=_
 rw [list_cons t h,List.dropWhile_cons]
 simp [e]
theorem trimL_nil (c:UInt8) (t:ByteArray) (h:¬0<t.size):trimL c t=t:=by
 apply bytes_ext
 have h3:t.data.toList.length=t.size:=by simp
 have h1:t.data.toList=[]:=List.eq_nil_of_length_eq_zero (by omega)
 unfold trimL
 simp [h1]
theorem trimLeftByte_any (s:ByteArray) (c:UInt8) (hs:s.size≤maxLen) (w:World) :
  Calls Tryz.prog 204 #[.string s,.int .u8 (c.toNat:Int)] w fun e w'=>e=.returned (.string (trimL c s))∧w=w':=by
 unfold maxLen at hs
 go_enter Tryz.func204,Tryz.ntmps204
 go_wp2
 go_loop [0] (fun v=>∃ t:ByteArray,v=.string t∧t.size≤2 ^ 63 - 1∧Hid (trimL c t=trimL c s)) (fun v=>strLen v)
 case atStart=>exact ⟨s,rfl,hs,rfl⟩
 case round=>
  obtain ⟨t,rfl,ht,T⟩:=hrel
  by_cases h:0<t.size
  ·have hne:((t.size:Int) == 0)=false:=by rw [beq_eq_false_iff_ne];omega
   by_cases e:t[0]=c
   ·have e1:((t[0].toNat:Int) == (c.toNat:Int))=true:=by rw [e];simp
    have N:Hid (trimL c (t.extract 1 t.size)=trimL c s):=(trimL_same c t h e).trans T.out
    clear e
    go_wp2
    go_round
    case rel=>exact ⟨_,rfl,Nat.le_trans (extract_le t 1 t.size) ht,N⟩
    case measure=>simp [strLen];omega
   ·have e1:((t[0].toNat:Int) == (c.toNat:Int))=false:=by
     rw [beq_eq_false_iff_ne]
     intro h2
     exact e (UInt8.toNat_inj.1 (by omega))
    have N:Hid (t=trimL c s):=(trimL_stop c t h e).symm.trans T.out
    clear e
    go_wp2
    go_ret
    exact ⟨ret_str N.out,rfl⟩
  ·have N:Hid (t=trimL c s):=(trimL_nil c t h).symm.trans T.out
   go_wp2
   go_ret
   exact ⟨ret_str N.out,rfl⟩
theorem trimLeft0_any (s:ByteArray) (hs:s.size≤maxLen) (w:World) :
  Calls Tryz.prog 201 #[.string s,.string ⟨#[48]⟩] w fun e w'=>e=.returned (.string (trimL 48 s))∧w=w':=by
 have hs0:=hs
 unfold maxLen at hs
 by_cases h:s.toList.isEmpty=true
 ·have h1:¬0<s.size:=by
   rw [ByteArray.toList_eq] at h
   have h2:s.data.toList=[]:=by simpa using h
   have h3:s.data.toList.length=s.size:=by simp
   rw [h2] at h3
   simp at h3
   omega
  have N:=Lib.hid (trimL_nil 48 s h1).symm
  go_enter Tryz.func201,Tryz.ntmps201
  go_wp2
  go_ret
  exact ⟨ret_str N.out,rfl⟩
 ·have h':s.toList.isEmpty=false:=by simpa using h
  clear h
  go_enter Tryz.func201,Tryz.ntmps201
  go_wp2_with (go_at_call 204;refine (trimLeftByte_any _ 48 hs0 _).mono ?_;rintro e w' ⟨rfl,rfl⟩)
  go_ret
  exact ⟨rfl,rfl⟩
end Go.Proofs.YtoilebmbljpieaaGreatDoor
namespace Go.Proofs.YtoilebmbljpieaaGreatDoor
open Go.RowKit
end Go.Proofs.YtoilebmbljpieaaGreatDoor
namespace Go.Proofs.YtoilebmbljpieaaGreatDoor
open Go.RowKit
def digS (n:Int):ByteArray:=trimL 48 (hexS n 4)
theorem hexU_48:∀ x:Fin 16,(hexU (x.val:Int)=48↔x.val=0):=by decide +kernel
theorem hexU_zero (x:Int) (h0:0≤x) (h1:x<16):hexU x=48↔x=0:=by
 have h:=hexU_48 ⟨x.toNat,by omega⟩
 have e:((x.toNat:Nat):Int)=x:=by omega
 simp only [e] at h
 rw [h]
 omega
theorem hexS4 (n:Int):(hexS n 4).data.toList=[hexU (digI n 3),hexU (digI n 2),hexU (digI n 1),hexU (digI n 0)]:=by
 unfold hexS;simp [List.range_succ]
theorem digS_cases (n:Int) (h0:10≤n) (h1:n≤65535) :
  (4096≤n∧(digS n).data.toList=[hexU (digI n 3),hexU (digI n 2),hexU (digI n 1),hexU (digI n 0)]∧1≤digI n 3)∨
  (n<4096∧256≤n∧(digS n).data.toList=[hexU (digI n 2),hexU (digI n 1),hexU (digI n 0)]∧1≤digI n 2)∨
  (n<256∧16≤n∧(digS n).data.toList=[hexU (digI n 1),hexU (digI n 0)]∧1≤digI n 1)∨
  (n<16∧(digS n).data.toList=[hexU (digI n 0)]∧1≤digI n 0):=by
 have z3:=hexU_zero (digI n 3) (digI_bd n 3).1 (digI_bd n 3).2
 have z2:=hexU_zero (digI n 2) (digI_bd n 2).1 (digI_bd n 2).2
 have z1:=hexU_zero (digI n 1) (digI_bd n 1).1 (digI_bd n 1).2
 have z0:=hexU_zero (digI n 0) (digI_bd n 0).1 (digI_bd n 0).2
 have d3:digI n 3=n / 4096 % 16:=by unfold digI;simp
 have d2:digI n 2=n / 256 % 16:=by unfold digI;simp
 have d1:digI n 1=n / 16 % 16:=by unfold digI;simp
 have d0:digI n 0=n % 16:=by unfold digI;simp
 have hl:(digS n).data.toList=List.dropWhile (· == 48) [hexU (digI n 3),hexU (digI n 2),hexU (digI n 1),hexU (digI n 0)]:=by
  unfold digS trimL;rw [hexS4]
 rw [hl]
 simp only [List.dropWhile_cons,beq_iff_eq,z3,z2,z1,z0]
 by_cases c3:4096≤n
 ·left
  rw [if_neg (by omega)]
  exact ⟨c3,rfl,by omega⟩
 ·right
  rw [if_pos (by omega)]
  by_cases c2:256≤n
  ·left
   rw [if_neg (by omega)]
   exact ⟨by omega,c2,rfl,by omega⟩
  ·right
   rw [if_pos (by omega)]
   by_cases c1:16≤n
   ·left
    rw [if_neg (by omega)]
    exact ⟨by omega,c1,rfl,by omega⟩
   ·right
    rw [if_pos (by omega),if_neg (by omega)]
    exact ⟨by omega,rfl,by omega⟩
theorem digS_pos (n:Int) (h0:10≤n) (h1:n≤65535):0<(digS n).size:=by
 have hl:(digS n).data.toList.length=(digS n).size:=by simp
 rcases digS_cases n h0 h1 with ⟨_,h,_⟩ | ⟨_,_,h,_⟩ | ⟨_,_,h,_⟩ | ⟨_,h,_⟩ <;> rw [h] at hl <;> simp at hl <;> omega
theorem trimL_le (c:UInt8) (s:ByteArray):(trimL c s).size≤s.size:=by
 show (List.dropWhile (· == c) s.data.toList).toArray.size≤s.data.size
 have h:=(List.dropWhile_sublist (p:=(· == c)) (l:=s.data.toList)).length_le
 simpa using h
theorem digS_le (n:Int):(digS n).size≤4:=by
 have h:=trimL_le 48 (hexS n 4)
 rw [hexS_size] at h
 exact h
theorem hexS4_max (n:Int):(hexS n 4).size≤maxLen:=by rw [hexS_size];simp [maxLen]
theorem hex4_any (n:Int) (w:World) :
  Calls Tryz.prog 202 #[.int .i64 n,.int .i64 4] w fun e w'=>e=.returned (.string (hexS n 4))∧Below w.heap.size w w':=hex_any n 4 (by omega) w
theorem trimDig_any (n:Int) (w:World) :
  Calls Tryz.prog 201 #[.string (hexS n 4),.string ⟨#[48]⟩] w fun e w'=>e=.returned (.string (digS n))∧w=w':=trimLeft0_any _ (hexS4_max n) w
def textS (n:Int):ByteArray:=
 if n<0∨65535<n then ⟨#[]⟩
 else if n<10 then ⟨#[hexU n]⟩
 else if decB (((digS n).data.toList.getD 0 0).toNat:Int) then ⟨((digS n).data.toList++[72]).toArray⟩ else ⟨(48 :: (digS n).data.toList++[72]).toArray⟩
theorem fits16_yes (n:Int) (h0:0≤n) (h1:n≤65535):fitsB 0 65535 [n]=true:=by simp [fitsB];omega
theorem fits16_no (n:Int) (h:n<0∨65535<n):fitsB 0 65535 [n]=false:=by simp [fitsB];omega
theorem text_small (n:Int) (h0:0≤n) (h2:n<10):hexTab.extract n.toNat (n+1).toNat=textS n:=by
 have t:∀ i:Fin 10,hexTab.extract i.val (i.val+1)=⟨#[hexU (i.val:Int)]⟩:=by decide +kernel
 have h:=t ⟨n.toNat,by omega⟩
 have e:((n.toNat:Nat):Int)=n:=by omega
 have e2:(n+1).toNat=n.toNat+1:=by omega
 simp only [e] at h
 unfold textS
 rw [if_neg (by omega),if_pos h2,e2]
 exact h
theorem getD0 (t:ByteArray) (h:0<t.size):t.data.toList.getD 0 0=t[0]:=by
 rw [List.getD_eq_getElem?_getD,List.getElem?_eq_getElem (by simpa using h)];rfl
theorem append_data (a b:ByteArray):(a++b).data.toList=a.data.toList++b.data.toList:=by simp
theorem text_dec (n:Int) (h0:10≤n) (h1:n≤65535) (hp:0<(digS n).size) (h3:decB ((digS n)[0].toNat:Int)=true):digS n++⟨#[72]⟩=textS n:=by
 apply bytes_ext
 unfold textS
 rw [if_neg (by omega),if_neg (by omega),getD0 _ hp,h3,append_data]
 simp
theorem text_let (n:Int) (h0:10≤n) (h1:n≤65535) (hp:0<(digS n).size) (h3:decB ((digS n)[0].toNat:Int)=false):(⟨#[48]⟩++digS n)++⟨#[72]⟩=textS n:=by
 apply bytes_ext
 unfold textS
 rw [if_neg (by omega),if_neg (by omega),getD0 _ hp,h3,append_data,append_data]
 simp
theorem text_any (n:Int) (w:World) :
  Calls Tryz.prog 200 #[.int .i64 n] w fun e w'=>e=.returned (.string (textS n))∧Below w.heap.size w w':=by
 by_cases h0:n<0∨65535<n
 ·have hF:=fits16_no n h0
  have T:=Lib.hid (show (⟨#[]⟩:ByteArray)=textS n by unfold textS;rw [if_pos h0])
  clear h0
  go_enter Tryz.func200,Tryz.ntmps200
  go_wp2_with (go_at_call 56;refine (fits_any 0 65535 _ _ [n] (by simp [maxLen]) _ (ints_one _ _ _)).mono ?_;rintro e w' ⟨rfl,rfl⟩)
  go_ret
  exact ⟨ret_str T.out,(Below.refl _ _).alloc (Nat.le_refl _) _⟩
 ·have h1:n≤65535:=by omega
  have h0':0≤n:=by omega
  have hF:=fits16_yes n h0' h1
  clear h0
  by_cases h2:n<10
  ·have T:=Lib.hid (text_small n h0' h2)
   go_enter Tryz.func200,Tryz.ntmps200
   go_wp2_with (go_at_call 56;refine (fits_any 0 65535 _ _ [n] (by simp [maxLen]) _ (ints_one _ _ _)).mono ?_;rintro e w' ⟨rfl,rfl⟩)
   go_ret
   exact ⟨ret_str T.out,(Below.refl _ _).alloc (Nat.le_refl _) _⟩
  ·have hp:=digS_pos n (by omega) h1
   have hq:=digS_le n
   have c0:(0:Int)≤((digS n)[0].toNat:Int):=by omega
   have c1:((digS n)[0].toNat:Int)≤255:=by have:=(digS n)[0].toNat_lt;omega
   by_cases h3:decB ((digS n)[0].toNat:Int)=true
   ·have T:=Lib.hid (text_dec n (by omega) h1 hp h3)
    go_enter Tryz.func200,Tryz.ntmps200
    go_wp2_with (first | (go_at_call 56;refine (fits_any 0 65535 _ _ [n] (by simp [maxLen]) _ (ints_one _ _ _)).mono ?_;rintro e w' ⟨rfl,rfl⟩) | (go_at_call 202;refine (hex4_any n _).mono ?_;rintro e w1 ⟨rfl,hb1⟩) | (go_at_call 201;refine (trimDig_any n _).mono ?_;rintro e w' ⟨rfl,rfl⟩) | (go_at_call 203;refine (isDecimal_any _ c0 c1 _).mono ?_;rintro e w' ⟨rfl,rfl⟩))
    go_ret
    exact ⟨ret_str T.out,((Below.refl _ _).alloc (Nat.le_refl _) _).trans (hb1.mono (by simp))⟩
   ·have h3':decB ((digS n)[0].toNat:Int)=false:=by simpa using h3
    clear h3
    have T:=Lib.hid (text_let n (by omega) h1 hp h3')
    go_enter Tryz.func200,Tryz.ntmps200
    go_wp2_with (first | (go_at_call 56;refine (fits_any 0 65535 _ _ [n] (by simp [maxLen]) _ (ints_one _ _ _)).mono ?_;rintro e w' ⟨rfl,rfl⟩) | (go_at_call 202;refine (hex4_any n _).mono ?_;rintro e w1 ⟨rfl,hb1⟩) | (go_at_call 201;refine (trimDig_any n _).mono ?_;rintro e w' ⟨rfl,rfl⟩) | (go_at_call 203;refine (isDecimal_any _ c0 c1 _).mono ?_;rintro e w' ⟨rfl,rfl⟩))
    go_ret
    exact ⟨ret_str T.out,((Below.refl _ _).alloc (Nat.le_refl _) _).trans (hb1.mono (by simp))⟩
end Go.Proofs.YtoilebmbljpieaaGreatDoor
namespace Go.Proofs.YtoilebmbljpieaaGreatDoor
open Go.RowKit
end Go.Proofs.YtoilebmbljpieaaGreatDoor
namespace Go.Proofs.YtoilebmbljpieaaGreatDoor
open Go.RowKit
end Go.Proofs.YtoilebmbljpieaaGreatDoor
namespace Go.Proofs.YtoilebmbljpieaaGreatDoor
end Go.Proofs.YtoilebmbljpieaaGreatDoor
namespace Go.Proofs.YtoilebmbljpieaaGreatDoor
open Go.RowKit
def nmL:Nat→List ByteArray
 | 1=>[⟨#[66]⟩,⟨#[67]⟩,⟨#[68]⟩,⟨#[69]⟩,⟨#[72]⟩,⟨#[76]⟩,⟨#[]⟩,⟨#[65]⟩]
 | 2=>[⟨#[73,88,72]⟩,⟨#[73,88,76]⟩,⟨#[73,89,72]⟩,⟨#[73,89,76]⟩]
 | 3=>[⟨#[66,67]⟩,⟨#[68,69]⟩,⟨#[72,76]⟩,⟨#[83,80]⟩,⟨#[65,70]⟩,⟨#[73,88]⟩,⟨#[73,89]⟩,⟨#[65,70,39]⟩]
 | 4=>[⟨#[66,67]⟩,⟨#[68,69]⟩,⟨#[72,76]⟩,⟨#[83,80]⟩,⟨#[]⟩,⟨#[73,88]⟩,⟨#[73,89]⟩,⟨#[]⟩,⟨#[67]⟩]
 | 5=>[⟨#[]⟩,⟨#[]⟩,⟨#[]⟩,⟨#[]⟩,⟨#[]⟩,⟨#[73,88]⟩,⟨#[73,89]⟩]
 | 8=>[⟨#[78,90]⟩,⟨#[90]⟩,⟨#[78,67]⟩,⟨#[67]⟩,⟨#[80,79]⟩,⟨#[80,69]⟩,⟨#[80]⟩,⟨#[77]⟩]
 | 9=>[⟨#[73]⟩,⟨#[82]⟩]
 | _=>[]
def atS (L:List ByteArray) (r:Int):ByteArray:=if 0≤r then L.getD r.toNat ⟨#[]⟩ else ⟨#[]⟩
def neB (s:ByteArray):Bool:=!s.toList.isEmpty
theorem atS_in (L:List ByteArray) (k:Nat) (h:k<L.length):atS L (k:Int)=L[k]:=by
 unfold atS
 rw [if_pos (by omega),List.getD_eq_getElem?_getD,Int.toNat_natCast,List.getElem?_eq_getElem h]
 rfl
theorem atS_out (L:List ByteArray) (r:Int) (h:r<0∨(L.length:Int)≤r):atS L r=⟨#[]⟩:=by
 unfold atS
 split
 ·rw [List.getD_eq_getElem?_getD,List.getElem?_eq_none (by omega)];rfl
 ·rfl
def nmS (k:Nat) (r:Int):ByteArray:=atS (nmL k) r
theorem atS_mem (L:List ByteArray) (r:Int):atS L r=⟨#[]⟩∨atS L r∈L:=by
 by_cases h:0≤r∧r<(L.length:Int)
 ·right
  obtain ⟨k,rfl⟩:∃ k:Nat,r=k:=⟨r.toNat,by omega⟩
  rw [atS_in L k (by omega)]
  exact List.getElem_mem _
 ·left;exact atS_out L r (by omega)
end Go.Proofs.YtoilebmbljpieaaGreatDoor
namespace Go.Proofs.YtoilebmbljpieaaGreatDoor
open Go.RowKit
theorem strs_new (w:World) (L:List ByteArray) (t:TypeId):∀ j (h:j<L.length),(w.alloc (.cells (L.map Value.string).toArray t)).cell? ⟨w.heap.size,j,none⟩=some (.string L[j]):=by
 intro j h
 simp [go_sem,h]
def StrsA (w:World) (A:Option Addr) (L:List ByteArray):Prop:=L=[]∨∃ b off,A=some ⟨b,off,none⟩∧∀ j (h:j<L.length),w.cell? ⟨b,off+j,none⟩=some (.string L[j])
theorem StrsA.at_ {w:World} {A:Option Addr} {L:List ByteArray} (h:StrsA w A L) {k:Nat} (hk:k<L.length):∃ b off,A=some ⟨b,off,none⟩∧w.cell? ⟨b,off+k,none⟩=some (.string L[k]):=by
 rcases h with rfl | ⟨b,off,rfl,hc⟩
 ·simp at hk
 ·exact ⟨b,off,rfl,hc k hk⟩
theorem StrsA.below {w w':World} {A:Option Addr} {L:List ByteArray} (h:StrsA w A L) (hb:Below w.heap.size w w'):StrsA w' A L:=by
 rcases h with rfl | ⟨b,off,rfl,hc⟩
 ·exact .inl rfl
 ·exact .inr ⟨b,off,rfl,fun j hj=>(hb.cell (World.block_lt_of_cell? w _ (hc j hj))).trans (hc j hj)⟩
def RetStrs (w:World) (L:List ByteArray) (e:Ending) (w':World):Prop:=∃ A cap,e=.returned (.slice A L.length cap)∧StrsA w' A L∧Below w.heap.size w w'
theorem strs_of_new (w:World) (L:List ByteArray) (t:TypeId):StrsA (w.alloc (.cells (L.map Value.string).toArray t)) (some ⟨w.heap.size,0,none⟩) L:=
 .inr ⟨_,0,rfl,fun j hj=>by rw [Nat.zero_add];exact strs_new w L t j hj⟩
end Go.Proofs.YtoilebmbljpieaaGreatDoor
namespace Go.Proofs.YtoilebmbljpieaaGreatDoor
open Go.RowKit
theorem fits1_yes (lo hi n:Int) (h0:lo≤n) (h1:n≤hi):fitsB lo hi [n]=true:=by simp [fitsB];omega
theorem fits1_no (lo hi n:Int) (h:n<lo∨hi<n):fitsB lo hi [n]=false:=by simp [fitsB];omega
theorem fit1_any (lo hi x:Int) (b:Nat) (q:Bool) (hq:fitsB lo hi [x]=q) (w:World) (hc:w.cell? ⟨b,0,none⟩=some (.int .i64 x)) :
  Calls Tryz.prog 56 #[.int .i64 lo,.int .i64 hi,.slice (some ⟨b,0,none⟩) 1 1] w fun e w'=>e=.returned (.bool q)∧w=w':=by
 subst hq
 refine fits_any lo hi _ 1 [x] (by simp [maxLen]) w (.inr ⟨b,0,rfl,fun j h=>?_⟩)
 obtain rfl:j=0:=by simp at h;omega
 exact hc
theorem neB_nil:neB ⟨#[]⟩=false:=by decide +kernel
theorem at_any (r:Int) (b cap n:Nat) (L:List ByteArray) (hn:n=L.length) (hl:L.length≤100) (w:World) (hc:∀ j (h:j<L.length),w.cell? ⟨b,j,none⟩=some (.string L[j])) :
  Calls Tryz.prog 197 #[.int .i64 r,.slice (some ⟨b,0,none⟩) n cap] w fun e w'=>e=.returned (.tuple #[.string (atS L r),.bool (neB (atS L r))])∧Below w.heap.size w w':=by
 by_cases h:0≤r∧r<(L.length:Int)
 ·obtain ⟨k,rfl⟩:∃ k:Nat,r=k:=⟨r.toNat,by omega⟩
  have hk:k<L.length:=by omega
  have hck:=hc k hk
  have e1:=atS_in L k hk
  have HF:=fits1_yes 0 ((n:Int) - 1) (k:Int) (by omega) (by omega)
  obtain ⟨s,hs⟩:∃ s,L[k]=s:=⟨_,rfl⟩
  rw [hs] at hck e1
  rw [e1]
  have hkn:k<n:=by omega
  have hnb:n≤100:=by omega
  have hb:=World.block_lt_of_cell? w _ hck
  have hck2:∀ o,(w.alloc o).cell? ⟨b,k,none⟩=some (.string s):=fun o=>(World.cell?_alloc_lt w o _ hb).trans hck
  clear hc h hk e1 hs hn hl hck hb
  go_enter Tryz.func197,Tryz.ntmps197
  go_wp2_with fail
  refine (fits_any 0 ((n:Int) - 1) _ _ [(k:Int)] (by simp [maxLen]) _ (ints_one _ _ _)).mono ?_
  rintro e w' ⟨rfl,rfl⟩
  rw [HF]
  clear HF
  go_wp2
  go_quiet (fail)
  go_wp2
  go_ret2
  exact ⟨rfl,((Below.refl _ _).alloc (Nat.le_refl _) _).trans (below_drewN _ _ _)⟩
 ·have e1:=atS_out L r (by omega)
  have HF:=fits1_no 0 ((n:Int) - 1) r (by omega)
  rw [e1,neB_nil]
  have hnb:n≤100:=by omega
  clear hc h e1 hn hl
  go_enter Tryz.func197,Tryz.ntmps197
  go_wp2_with fail
  refine (fits_any 0 ((n:Int) - 1) _ _ [r] (by simp [maxLen]) _ (ints_one _ _ _)).mono ?_
  rintro e w' ⟨rfl,rfl⟩
  rw [HF]
  clear HF
  go_wp2
  go_ret2
  exact ⟨rfl,((Below.refl _ _).alloc (Nat.le_refl _) _)⟩
theorem name8_any (r:Int) (w:World) :
  Calls Tryz.prog 180 #[.int .i64 r] w fun e w'=>e=.returned (.tuple #[.string (nmS 1 r),.bool (neB (nmS 1 r))])∧Below w.heap.size w w':=by
 go_enter Tryz.func180,Tryz.ntmps180
 go_wp2_with fail
 refine (at_any r _ _ _ (nmL 1) rfl (by decide) _ (strs_new w (nmL 1) 9)).mono ?_
 rintro e w' ⟨rfl,hb⟩
 have N:=Lib.hid (((Below.refl _ _).alloc (Nat.le_refl _) _).trans (hb.mono (by simp)))
 clear hb
 go_wp2
 go_ret2
 exact ⟨rfl,N.out⟩
theorem nameHalf_any (r:Int) (w:World) :
  Calls Tryz.prog 182 #[.int .i64 r] w fun e w'=>e=.returned (.tuple #[.string (nmS 2 r),.bool (neB (nmS 2 r))])∧Below w.heap.size w w':=by
 go_enter Tryz.func182,Tryz.ntmps182
 go_wp2_with fail
 refine (at_any r _ _ _ (nmL 2) rfl (by decide) _ (strs_new w (nmL 2) 9)).mono ?_
 rintro e w' ⟨rfl,hb⟩
 have N:=Lib.hid (((Below.refl _ _).alloc (Nat.le_refl _) _).trans (hb.mono (by simp)))
 clear hb
 go_wp2
 go_ret2
 exact ⟨rfl,N.out⟩
theorem name16_any (r:Int) (w:World) :
  Calls Tryz.prog 183 #[.int .i64 r] w fun e w'=>e=.returned (.tuple #[.string (nmS 3 r),.bool (neB (nmS 3 r))])∧Below w.heap.size w w':=by
 go_enter Tryz.func183,Tryz.ntmps183
 go_wp2_with fail
 refine (at_any r _ _ _ (nmL 3) rfl (by decide) _ (strs_new w (nmL 3) 9)).mono ?_
 rintro e w' ⟨rfl,hb⟩
 have N:=Lib.hid (((Below.refl _ _).alloc (Nat.le_refl _) _).trans (hb.mono (by simp)))
 clear hb
 go_wp2
 go_ret2
 exact ⟨rfl,N.out⟩
theorem namePointer_any (r:Int) (w:World) :
  Calls Tryz.prog 184 #[.int .i64 r] w fun e w'=>e=.returned (.tuple #[.string (nmS 4 r),.bool (neB (nmS 4 r))])∧Below w.heap.size w w':=by
 go_enter Tryz.func184,Tryz.ntmps184
 go_wp2_with fail
 refine (at_any r _ _ _ (nmL 4) rfl (by decide) _ (strs_new w (nmL 4) 9)).mono ?_
 rintro e w' ⟨rfl,hb⟩
 have N:=Lib.hid (((Below.refl _ _).alloc (Nat.le_refl _) _).trans (hb.mono (by simp)))
 clear hb
 go_wp2
 go_ret2
 exact ⟨rfl,N.out⟩
theorem nameIndex_any (r:Int) (w:World) :
  Calls Tryz.prog 186 #[.int .i64 r] w fun e w'=>e=.returned (.tuple #[.string (nmS 5 r),.bool (neB (nmS 5 r))])∧Below w.heap.size w w':=by
 go_enter Tryz.func186,Tryz.ntmps186
 go_wp2_with fail
 refine (at_any r _ _ _ (nmL 5) rfl (by decide) _ (strs_new w (nmL 5) 9)).mono ?_
 rintro e w' ⟨rfl,hb⟩
 have N:=Lib.hid (((Below.refl _ _).alloc (Nat.le_refl _) _).trans (hb.mono (by simp)))
 clear hb
 go_wp2
 go_ret2
 exact ⟨rfl,N.out⟩
theorem nameCondition_any (r:Int) (w:World) :
  Calls Tryz.prog 191 #[.int .i64 r] w fun e w'=>e=.returned (.tuple #[.string (nmS 8 r),.bool (neB (nmS 8 r))])∧Below w.heap.size w w':=by
 go_enter Tryz.func191,Tryz.ntmps191
 go_wp2_with fail
 refine (at_any r _ _ _ (nmL 8) rfl (by decide) _ (strs_new w (nmL 8) 9)).mono ?_
 rintro e w' ⟨rfl,hb⟩
 have N:=Lib.hid (((Below.refl _ _).alloc (Nat.le_refl _) _).trans (hb.mono (by simp)))
 clear hb
 go_wp2
 go_ret2
 exact ⟨rfl,N.out⟩
theorem nameControl_any (r:Int) (w:World) :
  Calls Tryz.prog 192 #[.int .i64 r] w fun e w'=>e=.returned (.tuple #[.string (nmS 9 r),.bool (neB (nmS 9 r))])∧Below w.heap.size w w':=by
 go_enter Tryz.func192,Tryz.ntmps192
 go_wp2_with fail
 refine (at_any r _ _ _ (nmL 9) rfl (by decide) _ (strs_new w (nmL 9) 9)).mono ?_
 rintro e w' ⟨rfl,hb⟩
 have N:=Lib.hid (((Below.refl _ _).alloc (Nat.le_refl _) _).trans (hb.mono (by simp)))
 clear hb
 go_wp2
 go_ret2
 exact ⟨rfl,N.out⟩
theorem noName_any (r:Int) (w:World) :
  Calls Tryz.prog 188 #[.int .i64 r] w fun e w'=>e=.returned (.tuple #[.string ⟨#[]⟩,.bool (r == 0)])∧w=w':=by
 go_enter Tryz.func188,Tryz.ntmps188
 go_wp2
 go_ret2
 exact ⟨rfl,rfl⟩
end Go.Proofs.YtoilebmbljpieaaGreatDoor
namespace Go.Proofs.YtoilebmbljpieaaGreatDoor
open Go.RowKit
def BytesB (w:World) (A:Option Addr) (xs:List UInt8):Prop:=
 xs=[]∨∃ b off,A=some ⟨b,off,none⟩∧∀ j (h:j<xs.length),w.cell? ⟨b,off+j,none⟩=some (.int .u8 (xs[j].toNat:Int))
theorem BytesB.at_ {w:World} {A:Option Addr} {xs:List UInt8} (h:BytesB w A xs) {k:Nat} (hk:k<xs.length):∃ b off,A=some ⟨b,off,none⟩∧w.cell? ⟨b,off+k,none⟩=some (.int .u8 (xs[k].toNat:Int)):=by
 rcases h with rfl | ⟨b,off,rfl,hc⟩
 ·simp at hk
 ·exact ⟨b,off,rfl,hc k hk⟩
theorem BytesB.below {w w':World} {A:Option Addr} {xs:List UInt8} (h:BytesB w A xs) (hb:Below w.heap.size w w'):BytesB w' A xs:=by
 rcases h with rfl | ⟨b,off,rfl,hc⟩
 ·exact .inl rfl
 ·exact .inr ⟨b,off,rfl,fun j hj=>(hb.cell (p:=⟨b,off+j,none⟩) (World.block_lt_of_cell? w _ (hc j hj))).trans (hc j hj)⟩
theorem BytesB.drewN {w:World} {A:Option Addr} {xs:List UInt8} (h:BytesB w A xs) (n:Nat):BytesB (w.drewN n) A xs:=by
 rcases h with rfl | ⟨b,off,rfl,hc⟩
 ·exact .inl rfl
 ·exact .inr ⟨b,off,rfl,fun j hj=>by simpa using hc j hj⟩
end Go.Proofs.YtoilebmbljpieaaGreatDoor
namespace Go.Proofs.YtoilebmbljpieaaGreatDoor
open Go.RowKit
theorem IntsAt.below {w w':World} {A:Option Addr} {xs:List Int} (h:IntsAt w A xs) (hb:Below w.heap.size w w'):IntsAt w' A xs:=by
 rcases h with rfl | ⟨b,off,rfl,hc⟩
 ·exact .inl rfl
 ·exact .inr ⟨b,off,rfl,fun j hj=>(hb.cell (p:=⟨b,off+j,none⟩) (World.block_lt_of_cell? w _ (hc j hj))).trans (hc j hj)⟩
def RetBytes (w:World) (xs:List UInt8) (e:Ending) (w':World):Prop:=∃ A cap,e=.returned (.slice A xs.length cap)∧BytesB w' A xs∧Below w.heap.size w w'
def NewA (w:World) (A:Option Addr):Prop:=∀ a,A=some a→w.heap.size≤a.block
def RetBytesN (w:World) (xs:List UInt8) (e:Ending) (w':World):Prop:=∃ A cap,e=.returned (.slice A xs.length cap)∧BytesB w' A xs∧xs.length≤cap∧NewA w A∧Below w.heap.size w w'
theorem RetBytesN.ret {w:World} {xs:List UInt8} {e:Ending} {w':World} (h:RetBytesN w xs e w'):RetBytes w xs e w':=by
 obtain ⟨A,cap,h1,h2,_,_,h3⟩:=h
 exact ⟨A,cap,h1,h2,h3⟩
def lowU (n:Int):UInt8:=(n % 256).toNat.toUInt8
theorem lowU_nat (n:Int):((lowU n).toNat:Int)=n % 256:=by
 unfold lowU
 rw [UInt8.toNat_ofNat_of_lt' (show (n % 256).toNat<256 by omega)]
 omega
def LowRel (w:World) (zs:List Int) (k:Nat) (wr:World):Prop:=
 (∀ j (h:j<zs.length),wr.cell? ⟨w.heap.size,j,none⟩=some (.int .u8 (if j<k then zs[j] % 256 else 0)))∧(∀ j,j<zs.length→wr.frozen? ⟨w.heap.size,j,none⟩=false)∧Below w.heap.size w wr
theorem lowRel_start (w:World) (zs:List Int) (e:TypeId):LowRel w zs 0 (w.alloc (.cells (madeCells #[.int .u8 0] zs.length) e)):=by
 refine ⟨fun j h=>?_,fun j h=>?_,(Below.refl _ _).alloc (Nat.le_refl _) _⟩
 ·rw [if_neg (by omega)]
  simp [go_sem,madeCells,h,Nat.mod_one]
 ·simp [go_sem]
theorem lowRel_next (w wr:World) (zs:List Int) (k:Nat) (hk:k<zs.length) (hr:LowRel w zs k wr):LowRel w zs (k+1) (wr.setCell ⟨w.heap.size,k,none⟩ (.int .u8 (zs[k] % 256))):=by
 obtain ⟨r1,r2,r3⟩:=hr
 refine ⟨fun j hj=>?_,fun j hj=>?_,r3.setCell (by simp) _⟩
 ·by_cases e:j=k
  ·subst e
   have:=r1 _ hj
   rw [if_pos (by omega)]
   simp [go_sem,this]
  ·rw [World.cell?_setCell_other _ _ _ _ (by simp),r1 j hj]
   by_cases h1:j<k
   ·rw [if_pos h1,if_pos (by omega)]
   ·rw [if_neg h1,if_neg (by omega)]
 ·simp [go_sem,r2 j hj]
theorem lowRel_end (w wr:World) (zs:List Int) (hr:LowRel w zs zs.length wr):RetBytesN w (zs.map lowU) (.returned (.slice (some ⟨w.heap.size,0,none⟩) zs.length zs.length)) wr:=by
 refine ⟨some ⟨w.heap.size,0,none⟩,zs.length,by rw [List.length_map],.inr ⟨_,0,rfl,fun j hj=>?_⟩,by rw [List.length_map];exact Nat.le_refl _,fun a h=>(by cases h;exact Nat.le_refl _),hr.2.2⟩
 have hj':j<zs.length:=by simpa using hj
 rw [Nat.zero_add,hr.1 j hj',if_pos hj']
 simp [lowU_nat]
theorem lowN_any (A:Option Addr) (cap:Nat) (zs:List Int) (hl:zs.length≤281474976710656) (w:World) (hz:IntsAt w A zs) :
  Calls Tryz.prog 144 #[.slice A zs.length cap] w (RetBytesN w (zs.map lowU)):=by
 have Z:=Lib.hid hz
 clear hz
 have hmk:=fun w=>run_make_row' (P:=Tryz.prog) 28 5 (.int .u8 0) 1 Tryz.underlying28 info_u8 rfl .i64 .i64 zs.length (by omega) (by omega) w
 have S:=Lib.hid (lowRel_start w zs 5)
 go_enter Tryz.func144,Tryz.ntmps144
 go_wp2
 clear hmk
 go_loopw [11] (fun i wr=>∃ k:Nat,k≤zs.length∧i=.int .i64 k∧LowRel w zs k wr) (fun i _=>zs.length - (intOf i).toNat)
 case atStart=>exact ⟨0,Nat.zero_le _,rfl,S.out⟩
 case round=>
  obtain ⟨k,hk,rfl,hr⟩:=hrel
  have R:=Lib.hid hr
  clear hr
  by_cases hlt:k<zs.length
  ·obtain ⟨b,off,hA,g0⟩:=(Z.out.below R.out.2.2).at_ hlt
   subst hA
   have g1:=R.out.1 k hlt
   rw [if_neg (by omega)] at g1
   have g2:=R.out.2.1 k hlt
   have N:=Lib.hid (lowRel_next w wr zs k hlt R.out)
   have hw:=IntKind.wrap_u8 zs[k]
   go_wp2
   go_roundw
   case rel=>exact ⟨k+1,by omega,by go_num,N.out⟩
   case measure=>simp [intOf];omega
  ·obtain rfl:k=zs.length:=by omega
   have N:=Lib.hid (lowRel_end w wr zs R.out)
   go_wp2
   go_ret
   exact N.out
theorem low_any (A:Option Addr) (cap:Nat) (zs:List Int) (hl:zs.length≤281474976710656) (w:World) (hz:IntsAt w A zs) :
  Calls Tryz.prog 144 #[.slice A zs.length cap] w (RetBytes w (zs.map lowU)):=(lowN_any A cap zs hl w hz).mono fun _ _ h=>h.ret
end Go.Proofs.YtoilebmbljpieaaGreatDoor
namespace Go.Proofs.YtoilebmbljpieaaGreatDoor
open Go.RowKit
abbrev Str:=List UInt8
def ixL (sub:Str):Str→Option Nat
 | []=>if sub.isEmpty then some 0 else none
 | b :: l=>if sub.isPrefixOf (b :: l) then some 0 else (ixL sub l).map (· + 1)
theorem index_ixL (sub:Str):∀ l:Str,Lib.index l sub=match ixL sub l with | none=>-1 | some n=>(n:Int)
 | []=>by
  unfold Lib.index ixL
  cases sub.isEmpty <;> simp
 | b :: l=>by
  have ih:=index_ixL sub l
  unfold Lib.index ixL
  rw [ih]
  cases sub.isPrefixOf (b :: l)
  ·cases ixL sub l <;> simp <;> omega
  ·simp
def cutL (sub l:Str):Str×Str×Bool:=match ixL sub l with
 | none=>(l,[],false)
 | some n=>(l.take n,l.drop (n+sub.length),true)
theorem cut_cutL (l sub:Str):Lib.cut l sub=cutL sub l:=by
 unfold Lib.cut cutL
 rw [index_ixL]
 cases h:ixL sub l <;> simp
theorem ixL_le (sub:Str):∀ (l:Str) (n:Nat),ixL sub l=some n→n+sub.length≤l.length
 | [],n,h=>by
  unfold ixL at h
  cases sub with
  | nil=>simp at h;subst h;simp
  | cons=>simp at h
 | b :: l,n,h=>by
  unfold ixL at h
  split at h
  ·next hp=>
   have:=List.IsPrefix.length_le (List.isPrefixOf_iff_prefix.1 hp)
   simp at h
   subst h
   simpa using this
  ·cases hx:ixL sub l with
   | none=>rw [hx] at h;simp at h
   | some m=>
    rw [hx] at h
    have ih:=ixL_le sub l m hx
    simp at h
    simp
    omega
theorem cutL_lt (sub l:Str) (hs:0<sub.length) (hl:0<l.length):(cutL sub l).2.1.length<l.length∧(cutL sub l).1.length≤l.length:=by
 unfold cutL
 cases h:ixL sub l with
 | none=>simpa using hl
 | some n=>
  have:=ixL_le sub l n h
  simp
  omega
abbrev Pat:=Str×Str
def rowP (row:Str):Pat:=((cutL [32] row).1,(cutL [32] row).2.1)
def patsF:Nat→Str→List Pat
 | 0,_=>[]
 | n+1,l=>if l.isEmpty then [] else rowP (cutL [59,32] l).1 :: patsF n (cutL [59,32] l).2.1
def mainS:Str:=[48,48,48,48,48,48,48,48,32,78,79,80,59,32,48,48,48,48,49,48,48,48,32,69,88,32,65,70,44,65,70,39,59,32,48,48,48,49,48,48,
 48,48,32,68,74,78,90,32,101,59,32,48,48,48,49,49,48,48,48,32,74,82,32,101,59,32,48,48,49,107,107,48,48,48,32,74,82,32,107,44,
 101,59,32,48,48,112,112,48,48,48,49,32,76,68,32,112,44,119,59,32,48,48,112,112,49,48,48,49,32,65,68,68,32,72,76,44,112,59,32,48,
 48,48,48,48,48,49,48,32,76,68,32,40,66,67,41,44,65,59,32,48,48,48,49,48,48,49,48,32,76,68,32,40,68,69,41,44,65,59,32,48,
 48,49,48,48,48,49,48,32,76,68,32,40,119,41,44,72,76,59,32,48,48,49,49,48,48,49,48,32,76,68,32,40,119,41,44,65,59,32,48,48,
 48,48,49,48,49,48,32,76,68,32,65,44,40,66,67,41,59,32,48,48,48,49,49,48,49,48,32,76,68,32,65,44,40,68,69,41,59,32,48,48,
 49,48,49,48,49,48,32,76,68,32,72,76,44,40,119,41,59,32,48,48,49,49,49,48,49,48,32,76,68,32,65,44,40,119,41,59,32,48,48,112,
 112,48,48,49,49,32,73,78,67,32,112,59,32,48,48,112,112,49,48,49,49,32,68,69,67,32,112,59,32,48,48,114,114,114,49,48,48,32,73,78,
 67,32,114,59,32,48,48,114,114,114,49,48,49,32,68,69,67,32,114,59,32,48,48,114,114,114,49,49,48,32,76,68,32,114,44,110,59,32,48,48,
 48,48,48,49,49,49,32,82,76,67,65,59,32,48,48,48,48,49,49,49,49,32,82,82,67,65,59,32,48,48,48,49,48,49,49,49,32,82,76,65,
 59,32,48,48,48,49,49,49,49,49,32,82,82,65,59,32,48,48,49,48,48,49,49,49,32,68,65,65,59,32,48,48,49,48,49,49,49,49,32,67,
 80,76,59,32,48,48,49,49,48,49,49,49,32,83,67,70,59,32,48,48,49,49,49,49,49,49,32,67,67,70,59,32,48,49,49,49,48,49,49,48,
 32,72,65,76,84,59,32,48,49,114,114,114,115,115,115,32,76,68,32,114,44,115,59,32,49,48,97,97,97,115,115,115,32,97,32,115,59,32,49,49,
 99,99,99,48,48,48,32,82,69,84,32,99,59,32,49,49,113,113,48,48,48,49,32,80,79,80,32,113,59,32,49,49,48,48,49,48,48,49,32,82,
 69,84,59,32,49,49,48,49,49,48,48,49,32,69,88,88,59,32,49,49,49,48,49,48,48,49,32,74,80,32,40,72,76,41,59,32,49,49,49,49,
 49,48,48,49,32,76,68,32,83,80,44,72,76,59,32,49,49,99,99,99,48,49,48,32,74,80,32,99,44,119,59,32,49,49,48,48,48,48,49,49,
 32,74,80,32,119,59,32,49,49,48,49,48,48,49,49,32,79,85,84,32,40,110,41,44,65,59,32,49,49,48,49,49,48,49,49,32,73,78,32,65,
 44,40,110,41,59,32,49,49,49,48,48,48,49,49,32,69,88,32,40,83,80,41,44,72,76,59,32,49,49,49,48,49,48,49,49,32,69,88,32,68,
 69,44,72,76,59,32,49,49,49,49,48,48,49,49,32,68,73,59,32,49,49,49,49,49,48,49,49,32,69,73,59,32,49,49,99,99,99,49,48,48,
 32,67,65,76,76,32,99,44,119,59,32,49,49,113,113,48,49,48,49,32,80,85,83,72,32,113,59,32,49,49,48,48,49,49,48,49,32,67,65,76,
 76,32,119,59,32,49,49,97,97,97,49,49,48,32,97,32,110,59,32,49,49,116,116,116,49,49,49,32,82,83,84,32,116]
def cbS:Str:=[48,48,111,111,111,115,115,115,32,111,32,115,59,32,48,49,98,98,98,115,115,115,32,66,73,84,32,98,44,115,59,32,49,48,98,98,98,115,115,115,
 32,82,69,83,32,98,44,115,59,32,49,49,98,98,98,115,115,115,32,83,69,84,32,98,44,115]
def edS:Str:=[48,49,49,49,48,48,48,48,32,73,78,32,40,67,41,59,32,48,49,114,114,114,48,48,48,32,73,78,32,114,44,40,67,41,59,32,48,49,49,49,
 48,48,48,49,32,79,85,84,32,40,67,41,44,48,59,32,48,49,114,114,114,48,48,49,32,79,85,84,32,40,67,41,44,114,59,32,48,49,112,112,
 48,48,49,48,32,83,66,67,32,72,76,44,112,59,32,48,49,112,112,49,48,49,48,32,65,68,67,32,72,76,44,112,59,32,48,49,112,112,48,48,
 49,49,32,76,68,32,40,119,41,44,112,59,32,48,49,112,112,49,48,49,49,32,76,68,32,112,44,40,119,41,59,32,48,49,120,120,120,49,48,48,
 32,78,69,71,59,32,48,49,48,48,49,49,48,49,32,82,69,84,73,59,32,48,49,120,120,120,49,48,49,32,82,69,84,78,59,32,48,49,120,48,
 120,49,49,48,32,73,77,32,48,59,32,48,49,120,49,48,49,49,48,32,73,77,32,49,59,32,48,49,120,49,49,49,49,48,32,73,77,32,50,59,
 32,48,49,48,48,48,49,49,49,32,76,68,32,73,44,65,59,32,48,49,48,48,49,49,49,49,32,76,68,32,82,44,65,59,32,48,49,48,49,48,
 49,49,49,32,76,68,32,65,44,73,59,32,48,49,48,49,49,49,49,49,32,76,68,32,65,44,82,59,32,48,49,49,48,48,49,49,49,32,82,82,
 68,59,32,48,49,49,48,49,49,49,49,32,82,76,68,59,32,49,48,49,48,48,48,48,48,32,76,68,73,59,32,49,48,49,48,48,48,48,49,32,
 67,80,73,59,32,49,48,49,48,48,48,49,48,32,73,78,73,59,32,49,48,49,48,48,48,49,49,32,79,85,84,73,59,32,49,48,49,48,49,48,
 48,48,32,76,68,68,59,32,49,48,49,48,49,48,48,49,32,67,80,68,59,32,49,48,49,48,49,48,49,48,32,73,78,68,59,32,49,48,49,48,
 49,48,49,49,32,79,85,84,68,59,32,49,48,49,49,48,48,48,48,32,76,68,73,82,59,32,49,48,49,49,48,48,48,49,32,67,80,73,82,59,
 32,49,48,49,49,48,48,49,48,32,73,78,73,82,59,32,49,48,49,49,48,48,49,49,32,79,84,73,82,59,32,49,48,49,49,49,48,48,48,32,
 76,68,68,82,59,32,49,48,49,49,49,48,48,49,32,67,80,68,82,59,32,49,48,49,49,49,48,49,48,32,73,78,68,82,59,32,49,48,49,49,
 49,48,49,49,32,79,84,68,82]
def listS (page:Int):Str:=if page=0∨page=3∨page=4 then mainS else if page=1∨page=5∨page=6 then cbS else if page=2 then edS else []
def mainP:List Pat:=patsF 60 mainS
def cbP:List Pat:=patsF 60 cbS
def edP:List Pat:=patsF 60 edS
end Go.Proofs.YtoilebmbljpieaaGreatDoor
namespace Go.Mixed
open Go
def QF:Exit→Act→World→Prop:=fun _ _ _=>False
theorem not_letsOut:¬LetsOut QF:=fun ⟨_,_,h⟩=>h
section
variable {P:Program} {ops:Array Oper} {md:Region.Mode}
theorem upon_QF {o:Oper} {a:Act} {K K':Act→World→Prop} {Q:Exit→Act→World→Prop} {r:Result Next} (hK:∀ a w,K a w→K' a w) (h:o.upon P a K QF r):o.upon P a K' Q r:=by
 cases r with
 | ok n w'=>
  cases n <;> simp only [Oper.upon] at h ⊢
  case value v=>exact hK _ _ h
  case skip=>exact hK _ _ h
  case defer d=>exact hK _ _ h
  case enter f args=>
   refine h.mono fun e w'' he=>?_
   cases e with
   | returned v=>exact hK _ _ he
   | panicked c=>exact (he:False).elim
   | outgrown=>exact absurd he not_letsOut
  case row row args=>exact h.mono fun v w'' hv=>hK _ _ hv
 | halt x w'=>
  cases x <;> simp only [Oper.upon] at h
  case panic v=>exact (h:False).elim
theorem wpOp_QF {i:Nat} {a:Act} {w:World} {K K':Act→World→Prop} {Q:Exit→Act→World→Prop} (hK:∀ a w,K a w→K' a w) (h:wpOp P ops QF i K a w):wpOp P ops Q i K' a w:=by
 unfold wpOp at *
 split
 ·rename_i ho;simp only [ho] at h;exact hK _ _ h
 ·rename_i o ho
  simp only [ho] at h
  split
  ·rename_i hw
   simp only [hw,if_true] at h
   rcases h with h | h
   ·exact .inl (upon_QF hK h)
   ·exact absurd h.2 not_letsOut
  ·rename_i hw;simp only [hw] at h;exact hK _ _ h
def wpAnyC (P:Program) (md:Region.Mode) (ops:Array Oper) (n:Nat) (C:World→Prop) (L:Array Bool→Act→World→Prop):Nat→Array Bool→Act→World→Prop
 | 0,listed,a,w=>C w∧L listed a w
 | f+1,listed,a,w=>C w∧Region.ready md ops listed≠[]∧∀ i∈Region.ready md ops listed,i<n∧wpOp P ops QF i (wpAnyC P md ops n C L f (listed.setIfInBounds i true)) a w
theorem wpAnyC_C {n:Nat} {C:World→Prop} {L:Array Bool→Act→World→Prop} {f:Nat} {listed:Array Bool} {a:Act} {w:World} (h:wpAnyC P md ops n C L f listed a w):C w:=by
 cases f <;> exact h.1
theorem wpAny_of_headC {n g:Nat} {C:World→Prop} {L:Array Bool→Act→World→Prop} {Q':Exit→Act→World→Prop} (hL:∀ listed a w,L listed a w→wpAny P md ops Q' g listed a w) :
  ∀ (f:Nat) (listed:Array Bool) (a:Act) (w:World),wpAnyC P md ops n C L f listed a w→wpAny P md ops Q' (f+g) listed a w
 | 0,listed,a,w,h=>by rw [Nat.zero_add];exact hL _ _ _ h.2
 | f+1,listed,a,w,h=>by
  rw [show f+1+g=(f+g)+1 by omega]
  exact ⟨fun h0=>absurd h0 h.2.1,fun i hi=>wpOp_QF (fun a' w' h'=>wpAny_of_headC hL f _ a' w' h') (h.2.2 i hi).2⟩
def Pure (P:Program) (ops:Array Oper) (C:World→Prop) (o:Oper) (v:Value) (a:Act):Prop:=
 (Region.wanted o (yielded ops a.tmps)=true∧∀ w,C w→(execOp a.eval o).run P w=.ok (.value v) w)∨
 (Region.wanted o (yielded ops a.tmps)=false∧v=undef)
theorem Pure.of_same {C:World→Prop} {o:Oper} {v:Value} {a a':Act} (hy:Pure P ops C o v a) (he:execOp a'.eval o=execOp a.eval o)
  (hw:Region.wanted o (yielded ops a'.tmps)=Region.wanted o (yielded ops a.tmps)):Pure P ops C o v a':=by
 unfold Pure at *
 rw [he,hw]
 exact hy
theorem Pure.wpOp {C:World→Prop} {i:Nat} {o:Oper} {v:Value} {a:Act} {w:World} {K:Act→World→Prop} {Q:Exit→Act→World→Prop} (hi:ops[i]?=some o) (hy:Pure P ops C o v a) (hC:C w) (h:K (a.put o.dst v) w):wpOp P ops Q i K a w:=by
 unfold Go.wpOp
 simp only [hi]
 rcases hy with ⟨hw,hv⟩ | ⟨hw,rfl⟩
 ·simp only [hw,if_true]
  left
  unfold Oper.wp
  rw [hv w hC]
  exact h
 ·simp only [hw,Bool.false_eq_true,if_false];exact h
theorem put_defers (a:Act) (ds:List Deferred) (x:Option Tmp) (v:Value):({a with defers:=ds}.put x v)={(a.put x v) with defers:=ds}:=by
 cases x <;> rfl
theorem defers_put (a:Act) (x:Option Tmp) (v:Value):(a.put x v).defers=a.defers:=by
 cases x <;> rfl
theorem wpOp_put {C:World→Prop} {j:Nat} {oi oj:Oper} {v:Value} (hj:ops[j]?=some oj) (hap:oi.apart ops oj=true)
  (hsi:∀ cs b,oi.op≠.select cs b) (hsj:∀ cs b,oj.op≠.select cs b) {K:Act→World→Prop} {a:Act} {w:World}
  (hy:Pure P ops C oi v a) (h:wpOp P ops QF j K (a.put oi.dst v) w) :
  wpOp P ops QF j (fun a' w'=>Pure P ops C oi v a'∧K (a'.put oi.dst v) w') a w:=by
 obtain ⟨h1,h2,h3⟩:=Oper.apart_spec hap
 have keep:∀ (a:Act),Pure P ops C oi v a→∀ u,Pure P ops C oi v (a.put oj.dst u):=fun a hy u=>
  hy.of_same (execOp_put oi hsi a oj.dst u h3) (wanted_put oi a oj.dst u h3)
 unfold wpOp at *
 simp only [hj] at *
 rw [wanted_put oj a oi.dst v h1] at h
 split
 ·rename_i hw
  simp only [hw,if_true] at h
  rcases h with h | h
  ·left
   unfold Oper.wp at *
   rw [execOp_put oj hsj a oi.dst v h1] at h
   generalize (execOp a.eval oj).run P w=r at *
   cases r with
   | ok n w'=>
    cases n <;> simp only [Oper.upon] at h ⊢
    case value u=>exact ⟨keep a hy u,by rw [← Act.put_comm a v u h2];exact h⟩
    case skip=>exact ⟨keep a hy _,by rw [← Act.put_comm a v undef h2];exact h⟩
    case defer d=>
     refine ⟨?_,?_⟩
     ·have hy':Pure P ops C oi v {a with defers:=d :: a.defers}:=hy
      exact keep _ hy' _
     ·rw [← Act.put_comm _ v undef h2]
      have e:({a with defers:=d :: a.defers}.put oi.dst v)={(a.put oi.dst v) with defers:=d :: (a.put oi.dst v).defers}:=by rw [defers_put];exact put_defers a _ _ _
      rw [e]
      exact h
    case enter f args=>
     refine h.mono fun e w'' he=>?_
     cases e with
     | returned u=>exact ⟨keep a hy u,by rw [← Act.put_comm a v u h2];exact he⟩
     | panicked c=>exact (he:False).elim
     | outgrown=>exact he
    case row row args=>exact h.mono fun u w'' hv=>⟨keep a hy u,by rw [← Act.put_comm a v u h2];exact hv⟩
   | halt x w'=>
    cases x <;> simp only [Oper.upon] at h
    case panic v=>exact (h:False).elim
  ·exact absurd h.2 not_letsOut
 ·rename_i hw
  simp only [hw] at h
  exact ⟨keep a hy _,by rw [← Act.put_comm a v undef h2];exact h⟩
theorem wpAnyC_first {C:World→Prop} {n i:Nat} {oi:Oper} {v:Value} {L:Array Bool→Act→World→Prop} (hi:ops[i]?=some oi) (hsel:∀ (j:Nat) (o:Oper) cs b,ops[j]?=some o→o.op≠.select cs b)
  (hs:Region.sinkB md ops n=true) (hc:Region.chainB md ops n=true) (hn:n<ops.size) (hin:i<n)
  (hdone:∀ listed a w,L listed a w→∀ j∈Region.ready md ops listed,n≤j) :
  ∀ (f:Nat) (listed:Array Bool) (a:Act) (w:World),HeadInv md ops n listed→
   (∀ j oj,ops[j]?=some oj→j≠i→listed.getD j true=false→(∀ e∈oj.after,Region.binds md e=true→e.on≠i)→oi.apart ops oj=true)→
   i∈Region.ready md ops listed→Pure P ops C oi v a→C w→
   wpAnyC P md ops n C L f (listed.setIfInBounds i true) (a.put oi.dst v) w→wpAnyC P md ops n C L (f+1) listed a w:=by
 intro f
 induction f with
 | zero=>
  intro listed a w inv _ hr hy hCw H
  have hun:=(mem_ready.1 hr).1
  refine ⟨hCw,fun h=>(by rw [h] at hr;cases hr),fun j hj=>?_⟩
  have hjn:j<n:=by
   rcases Nat.lt_or_ge j n with h | h
   ·exact h
   ·exact absurd hj (tail_waits hs hc hn inv _ i rfl hin hun j h)
  refine ⟨hjn,?_⟩
  by_cases hji:j=i
  ·subst hji;exact hy.wpOp hi hCw H
  ·have:=hdone _ _ _ H.2 j (ready_mono hj hji)
   omega
 | succ f ih=>
  intro listed a w inv hfree hr hy hCw H
  have hun:=(mem_ready.1 hr).1
  refine ⟨hCw,fun h=>(by rw [h] at hr;cases hr),fun j hj=>?_⟩
  have hjn:j<n:=by
   rcases Nat.lt_or_ge j n with h | h
   ·exact h
   ·exact absurd hj (tail_waits hs hc hn inv _ i rfl hin hun j h)
  refine ⟨hjn,?_⟩
  by_cases hji:j=i
  ·subst hji;exact hy.wpOp hi hCw H
  ·have h1:=(H.2.2 j (ready_mono hj hji)).2
   obtain ⟨hjun,oj,hoj,hall⟩:=mem_ready.1 hj
   have hnot:∀ e∈oj.after,Region.binds md e=true→e.on≠i:=fun e he hb heq=>by
    have h1:=hall e he hb
    rw [heq,getD_both hun] at h1
    cases h1
   have h2:=wpOp_put hoj (hfree j oj hoj hji hjun hnot) (fun cs b=>hsel i oi cs b hi) (fun cs b=>hsel j oj cs b hoj) hy h1
   have hfree':∀ k ok,ops[k]?=some ok→k≠i→(listed.setIfInBounds j true).getD k true=false→
     (∀ e∈ok.after,Region.binds md e=true→e.on≠i)→oi.apart ops ok=true:=fun k ok hk hki hun hno=>by
    refine hfree k ok hk hki ?_ hno
    by_cases hjk:j=k
    ·subst hjk;exact hjun
    ·rw [getD_set_ne true hjk] at hun;exact hun
   refine wpOp_QF (fun a' w' h3=>?_) h2
   obtain ⟨h3,h4⟩:=h3
   rw [Array.setIfInBounds_comm _ _ (fun e=>hji e.symm)] at h4
   have hi':=ready_mono hr (Ne.symm hji)
   exact ih (listed.setIfInBounds j true) a' w' (inv.set hj hjn) hfree' hi' h3 (wpAnyC_C h4) h4
def ordB (md:Region.Mode) (ops:Array Oper) (n g:Nat):List (Nat×Bool)→Array Bool→Bool
 | [],listed=>Region.seqB md ops g n listed
 | (k,true) :: r,listed=>(Region.ready md ops listed).contains k&&decide (k<n)&&Region.free md ops listed k&&ordB md ops n g r (listed.setIfInBounds k true)
 | (k,false) :: r,listed=>decide (Region.ready md ops listed=[k])&&decide (k<n)&&ordB md ops n g r (listed.setIfInBounds k true)
def mixedB (md:Region.Mode) (ops:Array Oper) (n:Nat) (ord:List (Nat×Bool)):Bool:=
 Region.noSelect ops&&decide (n<ops.size)&&decide (ord.length+(ops.size - n)=ops.size)&&Region.sinkB md ops n&&Region.chainB md ops n&&ordB md ops n (ops.size - n) ord (Array.replicate ops.size false)
def wpMix (P:Program) (ops:Array Oper) (C:World→Prop) (T:Act→World→Prop):List (Nat×Bool)→Act→World→Prop
 | [],a,w=>T a w
 | (k,true) :: r,a,w=>match ops[k]? with
  | none=>False
  | some o=>∃ v,Pure P ops C o v a∧wpMix P ops C T r (a.put o.dst v) w
 | (k,false) :: r,a,w=>wpOp P ops QF k (fun a' w'=>C w'∧wpMix P ops C T r a' w') a w
theorem wpAnyC_ord {C:World→Prop} {n g:Nat} {T:Act→World→Prop} (hsel:Region.noSelect ops=true) (hs:Region.sinkB md ops n=true) (hc:Region.chainB md ops n=true) (hn:n<ops.size) :
  ∀ (ord:List (Nat×Bool)) (listed:Array Bool) (a:Act) (w:World),HeadInv md ops n listed→ordB md ops n g ord listed=true→C w→wpMix P ops C T ord a w→
  wpAnyC P md ops n C (fun listed' a' w'=>Region.seqB md ops g n listed'=true∧T a' w') ord.length listed a w
 | [],listed,a,w,_,hB,hC,h=>⟨hC,hB,h⟩
 | (k,true) :: r,listed,a,w,inv,hB,hC,h=>by
  simp only [ordB,Bool.and_eq_true,decide_eq_true_eq] at hB
  obtain ⟨⟨⟨hr,hk⟩,hf⟩,hB'⟩:=hB
  have hr':k∈Region.ready md ops listed:=by simpa using hr
  simp only [wpMix] at h
  cases ho:ops[k]? with
  | none=>rw [ho] at h;exact h.elim
  | some o=>
   rw [ho] at h
   obtain ⟨v,hv,hK⟩:=h
   exact wpAnyC_first ho (Region.noSelect_spec hsel) hs hc hn hk (fun listed' a' w' hL=>seqB_ready hL.1) r.length listed a w inv (Region.free_spec ho hf) hr' hv hC
    (wpAnyC_ord hsel hs hc hn r _ _ w (inv.set hr' hk) hB' hC hK)
 | (k,false) :: r,listed,a,w,inv,hB,hC,h=>by
  simp only [ordB,Bool.and_eq_true,decide_eq_true_eq] at hB
  obtain ⟨⟨hr,hk⟩,hB'⟩:=hB
  simp only [wpMix] at h
  have hne:Region.ready md ops listed≠[]:=by rw [hr];exact List.cons_ne_nil _ _
  refine ⟨hC,hne,fun i hi=>?_⟩
  rw [hr] at hi
  have hik:i=k:=by simpa using hi
  subst hik
  refine ⟨hk,wpOp_QF (fun a' w' h'=>?_) h⟩
  exact wpAnyC_ord hsel hs hc hn r _ a' w' (inv.set (by rw [hr];exact List.mem_singleton.2 rfl) hk) hB' h'.1 h'.2
theorem wp_region_mixed {id:Nat} {Q:Exit→Act→World→Prop} {a:Act} {w:World} {l:List Oper} (C:World→Prop) (n:Nat) (ord:List (Nat×Bool)) (hm:P.follows .mixedOrders=true) (hB:mixedB .any l.toArray n ord=true)
  (hC:C w.drew) (h:wpMix P l.toArray C (fun a' w'=>wpList P l.toArray Q (l.drop n) a' w') ord a w.drew):(Code.region id l.toArray true).wp P Q a w:=by
 simp only [mixedB,Bool.and_eq_true,decide_eq_true_eq] at hB
 obtain ⟨⟨⟨⟨⟨hsel,hn⟩,hlen⟩,hs⟩,hc⟩,hord⟩:=hB
 have hdl:(l.drop n).length=l.toArray.size - n:=by simp
 have inv0:HeadInv .any l.toArray n (Array.replicate l.toArray.size false):=
  ⟨by simp,fun j oj _ hl=>(by rw [getD_replicate_false] at hl;cases hl),fun t _ ht=>getD_in (by simpa using ht) (getD_replicate_false _ _)⟩
 have H:=wpAnyC_ord hsel hs hc hn ord _ a w.drew inv0 hord hC h
 refine wp_region_any hm ?_
 have:=wpAny_of_headC (Q':=Q) (g:=l.toArray.size - n) (fun listed a' w' hL=>by
  have:=wpAny_of_seq (md:=.any) (Q':=Q) (l.drop n) n listed a' w' (fun j=>by simp [List.getElem?_drop]) (by rw [hdl];exact hL.1) hL.2
  rwa [hdl] at this) _ _ _ _ H
 rw [hlen] at this
 exact this
theorem wpMix_pure {C:World→Prop} {T:Act→World→Prop} {k:Nat} {r:List (Nat×Bool)} {a:Act} {w:World} {o:Oper} (ho:ops[k]?=some o) (hw:Region.wanted o (yielded ops a.tmps)=true) (v:Value)
  (hv:∀ w,C w→(execOp a.eval o).run P w=.ok (.value v) w) (h:wpMix P ops C T r (a.put o.dst v) w):wpMix P ops C T ((k,true) :: r) a w:=by
 simp only [wpMix,ho]
 exact ⟨v,.inl ⟨hw,hv⟩,h⟩
theorem wpMix_move {C:World→Prop} {T:Act→World→Prop} {k:Nat} {r:List (Nat×Bool)} {a:Act} {w:World} {o:Oper} (ho:ops[k]?=some o) (hw:Region.wanted o (yielded ops a.tmps)=true) (x:Operand) (hx:o.op=.move x) (v:Value)
  (hv:a.eval x=v) (h:wpMix P ops C T r (a.put o.dst v) w):wpMix P ops C T ((k,true) :: r) a w:=by
 subst hv
 exact wpMix_pure ho hw _ (fun w _=>by unfold execOp;simp [hx]) h
theorem wpMix_assign {C:World→Prop} {T:Act→World→Prop} {k:Nat} {r:List (Nat×Bool)} {a:Act} {w:World} {o:Oper} (ho:ops[k]?=some o) (hw:Region.wanted o (yielded ops a.tmps)=true) (x:Operand) (hx:o.op=.assign x) (v:Value)
  (hv:a.eval x=v) (h:wpMix P ops C T r (a.put o.dst v) w):wpMix P ops C T ((k,true) :: r) a w:=by
 subst hv
 exact wpMix_pure ho hw _ (fun w _=>by unfold execOp;simp [hx]) h
def QK (K:Act→World→Prop):Exit→Act→World→Prop
 | .normal,a,w=>K a w
 | _,_,_=>False
theorem not_letsOut_QK (K:Act→World→Prop):¬LetsOut (QK K):=fun ⟨_,_,h⟩=>h
theorem upon_QK {o:Oper} {a:Act} {K:Act→World→Prop} {K':Act→World→Prop} {r:Result Next} (h:o.upon P a K (QK K') r):o.upon P a K QF r:=by
 cases r with
 | ok n w'=>
  cases n <;> simp only [Oper.upon] at h ⊢
  case value v=>exact h
  case skip=>exact h
  case defer d=>exact h
  case enter f args=>
   refine h.mono fun e w'' he=>?_
   cases e with
   | returned v=>exact he
   | panicked c=>exact (he:False).elim
   | outgrown=>exact absurd he (not_letsOut_QK _)
  case row row args=>exact h
 | halt x w'=>
  cases x <;> simp only [Oper.upon] at h
  case panic v=>exact (h:False).elim
theorem wpMix_loud {C:World→Prop} {T:Act→World→Prop} {k:Nat} {r:List (Nat×Bool)} {a:Act} {w:World} {o:Oper} (ho:ops[k]?=some o) (h:wpList P ops (QK fun a' w'=>C w'∧wpMix P ops C T r a' w') [o] a w) :
  wpMix P ops C T ((k,false) :: r) a w:=by
 simp only [wpMix]
 unfold wpOp
 simp only [ho]
 simp only [wpList] at h
 split
 ·rename_i hw
  simp only [hw,if_true] at h
  rcases h with h | h
  ·exact .inl (upon_QK h)
  ·exact absurd h.2 (not_letsOut_QK _)
 ·rename_i hw
  simp only [hw] at h
  exact h
end
end Go.Mixed
namespace Go.Proofs.YtoilebmbljpieaaGreatDoor
open Go.RowKit
attribute [local go_sem] Oper.semAt_some
def sB (l:Str):ByteArray:=⟨l.toArray⟩
theorem sB_size (l:Str):(sB l).size=l.length:=by show l.toArray.size=l.length;simp
theorem sB_at (l:Str) (j:Nat) (h:j<(sB l).size) (h':j<l.length):(sB l)[j]=l[j]:=by
 have h1:(sB l).data[j]'h=l[j]:=by simp [sB]
 exact h1
def RowB (w:World) (s:ByteArray) (b:Nat):Prop:=∀ j (h:j<s.size),w.cell? ⟨b,j,none⟩=some (.int .u8 (s[j].toNat:Int))
theorem rowB_start (w:World) (s:ByteArray) (cap:Nat) (e:TypeId):RowB (w.alloc (.cells (bytesRow s cap) e ((bytesRow s cap).size,(bytesRow s cap).size+1))).drew s w.heap.size:=fun j h=>by
 have h1:=World.cell?_alloc_mark w (bytesRow s cap) e ((bytesRow s cap).size,(bytesRow s cap).size+1) j
 rw [bytesRow_at s cap j h] at h1
 exact h1
def mskF (l:Str):Nat→Int×Int
 | 0=>(0,0)
 | k+1=>if l[k]?.getD 0=48 then mskF l k else if l[k]?.getD 0=49 then (bits .or .u8 (mskF l k).1 (128 / 2 ^ k),(mskF l k).2) else ((mskF l k).1,bits .or .u8 (mskF l k).2 (128 / 2 ^ k))
theorem u8_is (c:UInt8) (n:Nat) (hn:n<256) (b:Bool) (h:((c.toNat:Int) == (n:Int))=b):decide (c=UInt8.ofNat n)=b:=by
 have e:(UInt8.ofNat n).toNat=n:=UInt8.toNat_ofNat_of_lt' hn
 cases b
 ·simp at h ⊢
  intro h2
  subst h2
  exact h (by rw [e])
 ·simp at h ⊢
  exact UInt8.toNat_inj.1 (by rw [e];omega)
def opnF (l:Str):Int×Int:=mskF l 8
theorem masks_any (l f:Str) (hl:l.length=8) (w:World) :
  Calls Tryz.prog 98 #[.agg #[.string (sB l),.string (sB f)]] w fun e w'=>e=.returned (.tuple #[.int .u8 (opnF l).1,.int .u8 (opnF l).2])∧Below w.heap.size w w':=by
 obtain ⟨s,hs⟩:∃ s,sB l=s:=⟨_,rfl⟩
 have hz:s.size=8:=by rw [← hs,sB_size,hl]
 have hat:∀ k (h:k<s.size) (h':k<l.length),s[k]=l[k]:=fun k h h'=>by subst hs;exact sB_at l k h h'
 have HAT:=Lib.hid hat
 have HL:=Lib.hid hl
 have hcv:=fun (w:World)=>run_bytes_of_string (P:=Tryz.prog) w 9 28 5 s Tryz.underlying9 Tryz.underlying28 Tryz.underlying5
 have S:=Lib.hid (rowB_start (w.alloc (.cells #[.string s,.string (sB f)] 67)) s (grownCap (w.alloc (.cells #[.string s,.string (sB f)] 67)) s.size 0 5) 5)
 have HB:Hid (Below w.heap.size w ((w.alloc (.cells #[.string s,.string (sB f)] 67)).alloc (.cells (bytesRow s (grownCap (w.alloc (.cells #[.string s,.string (sB f)] 67)) s.size 0 5)) 5 ((bytesRow s (grownCap (w.alloc (.cells #[.string s,.string (sB f)] 67)) s.size 0 5)).size,(bytesRow s (grownCap (w.alloc (.cells #[.string s,.string (sB f)] 67)) s.size 0 5)).size+1))).drew):=
  (((Below.refl _ w).alloc (Nat.le_refl _) _).alloc (by simp) _).drew
 rw [hz] at S HB
 rw [hs]
 clear hs hat hl
 go_enter Tryz.func98,Tryz.ntmps98
 go_wp2
 clear hcv
 go_loopw [10,2,3] (fun i o u wr=>∃ k:Nat,k≤8∧i=.int .i64 k∧o=.int .u8 (mskF l k).1∧u=.int .u8 (mskF l k).2∧Hid (RowB wr s (w.heap.size+1))∧Hid (Below w.heap.size w wr)) (fun i _ _ _=>8 - (intOf i).toNat)
 case atStart=>exact ⟨0,Nat.zero_le _,rfl,rfl,rfl,(by have h:=S.out;rw [World.size_alloc] at h;exact h),HB.out⟩
 case round=>
  clear S HB
  obtain ⟨k,hk,rfl,rfl,rfl,R,B⟩:=hrel
  by_cases hlt:k<8
  ·have hlt':k<s.size:=by omega
   have g1:wr.cell? ⟨w.heap.size+1,k,none⟩=some (.int .u8 (s[k].toNat:Int)):=R.out k hlt'
   obtain ⟨c,hc⟩:∃ c,s[k]=c:=⟨_,rfl⟩
   rw [hc] at g1
   have HC:=Lib.hid hc
   clear hc
   obtain ⟨o,ho⟩:∃ o,(mskF l k).1=o:=⟨_,rfl⟩
   obtain ⟨u,hu⟩:∃ u,(mskF l k).2=u:=⟨_,rfl⟩
   rw [ho,hu]
   have HO:=Lib.hid ho
   have HU:=Lib.hid hu
   clear ho hu
   go_wp2
   all_goals (have hl8:=HL.out)
   all_goals (have hck:l[k]?.getD 0=c:=by rw [List.getElem?_eq_getElem (by omega),Option.getD_some,← HAT.out k hlt' (by omega)];exact HC.out)
   ·have e1:c=48:=of_decide_eq_true (u8_is c 48 (by decide) true (by assumption))
    go_roundw
    case rel=>exact ⟨k+1,by omega,by go_num,by rw [mskF,if_pos (hck.trans e1),HO.out],by rw [mskF,if_pos (hck.trans e1),HU.out],R,B⟩
    case measure=>simp [intOf];omega
   ·have e0:¬c=48:=of_decide_eq_false (u8_is c 48 (by decide) false (by assumption))
    have e1:c=49:=of_decide_eq_true (u8_is c 49 (by decide) true (by assumption))
    go_roundw
    case rel=>exact ⟨k+1,by omega,by go_num,by rw [mskF,if_neg (by rw [hck];exact e0),if_pos (hck.trans e1),HO.out],by rw [mskF,if_neg (by rw [hck];exact e0),if_pos (hck.trans e1),HU.out],R,B⟩
    case measure=>simp [intOf];omega
   ·have e0:¬c=48:=of_decide_eq_false (u8_is c 48 (by decide) false (by assumption))
    have e1:¬c=49:=of_decide_eq_false (u8_is c 49 (by decide) false (by assumption))
    go_roundw
    case rel=>exact ⟨k+1,by omega,by go_num,by rw [mskF,if_neg (by rw [hck];exact e0),if_neg (by rw [hck];exact e1),HO.out],by rw [mskF,if_neg (by rw [hck];exact e0),if_neg (by rw [hck];exact e1),HU.out],R,B⟩
    case measure=>simp [intOf];omega
  ·obtain rfl:k=8:=by omega
   go_wp2
   go_ret2
   exact ⟨rfl,B.out⟩
def fitsP (l:Str) (op:Int):Bool:=bits .andNot .u8 op (opnF l).2 == (opnF l).1
theorem tfits_any (l f:Str) (hl:l.length=8) (op:Int) (w:World) :
  Calls Tryz.prog 61 #[.agg #[.string (sB l),.string (sB f)],.int .u8 op] w fun e w'=>e=.returned (.bool (fitsP l op))∧Below w.heap.size w w':=by
 have hm:=masks_any l f hl (w.alloc (.cells #[.string (sB l),.string (sB f)] 67))
 go_enter Tryz.func61,Tryz.ntmps61
 go_wp2_with fail
 refine hm.mono ?_
 rintro e w' ⟨rfl,hb⟩
 have HB:Hid (Below w.heap.size w w'):=((Below.refl _ w).alloc (Nat.le_refl _) _).trans (hb.mono (by simp))
 clear hm hb
 go_wp2
 go_ret
 exact ⟨rfl,HB.out⟩
def numF (l:Str) (op:Int) (c:UInt8):Nat→Int
 | 0=>0
 | k+1=>if l[k]?.getD 0=c then bits .or .i64 (wrap64 (numF l op c k*2)) (wrap64 (bits .and .u8 (op / 2 ^ (7 - k)) 1)) else numF l op c k
def numP (l:Str) (op:Int) (c:UInt8):Int:=numF l op c 8
theorem number_any (l f:Str) (hl:l.length=8) (op:Int) (h0:0≤op) (h1:op≤255) (c:UInt8) (w:World) :
  Calls Tryz.prog 104 #[.agg #[.string (sB l),.string (sB f),.int .u8 op],.int .u8 (c.toNat:Int)] w fun e w'=>e=.returned (.int .i64 (numP l op c))∧Below w.heap.size w w':=by
 obtain ⟨s,hs⟩:∃ s,sB l=s:=⟨_,rfl⟩
 have hz:s.size=8:=by rw [← hs,sB_size,hl]
 have hat:∀ k (h:k<s.size) (h':k<l.length),s[k]=l[k]:=fun k h h'=>by subst hs;exact sB_at l k h h'
 have HAT:=Lib.hid hat
 have HL:=Lib.hid hl
 have hcv:=fun (w:World)=>run_bytes_of_string (P:=Tryz.prog) w 9 28 5 s Tryz.underlying9 Tryz.underlying28 Tryz.underlying5
 obtain ⟨w1,hw1⟩:∃ w1,w.alloc (.cells #[.string s,.string (sB f),.int .u8 op] 69)=w1:=⟨_,rfl⟩
 have S:=Lib.hid (rowB_start w1 s (grownCap w1 s.size 0 5) 5)
 have HB:Hid (Below w.heap.size w (w1.alloc (.cells (bytesRow s (grownCap w1 s.size 0 5)) 5 ((bytesRow s (grownCap w1 s.size 0 5)).size,(bytesRow s (grownCap w1 s.size 0 5)).size+1))).drew):=by
  subst hw1
  exact (((Below.refl _ w).alloc (Nat.le_refl _) _).alloc (by simp) _).drew
 have HB1:Hid (Below w1.heap.size w1 (w1.alloc (.cells (bytesRow s (grownCap w1 s.size 0 5)) 5 ((bytesRow s (grownCap w1 s.size 0 5)).size,(bytesRow s (grownCap w1 s.size 0 5)).size+1))).drew):=
  ((Below.refl _ w1).alloc (Nat.le_refl _) _).drew
 have c0:w1.cell? ⟨w.heap.size,0,none⟩=some (.string s):=by subst hw1;simp [go_sem]
 have c2:w1.cell? ⟨w.heap.size,2,none⟩=some (.int .u8 op):=by subst hw1;simp [go_sem]
 have C2:=Lib.hid c2
 have hsz:w1.heap.size=w.heap.size+1:=by subst hw1;simp
 rw [hz] at S HB HB1
 rw [hs]
 clear hs hat hl c2
 go_enter Tryz.func104,Tryz.ntmps104
 go_wp2
 clear hcv
 go_loopw [13,5] (fun i o wr=>∃ k:Nat,k≤8∧i=.int .i64 k∧o=.int .i64 (numF l op c k)∧Hid (RowB wr s w1.heap.size)∧Hid (Below w.heap.size w wr)∧Hid (Below w1.heap.size w1 wr)) (fun i _ _=>8 - (intOf i).toNat)
 case atStart=>exact ⟨0,Nat.zero_le _,rfl,rfl,S.out,HB.out,HB1.out⟩
 case round=>
  clear S HB HB1
  obtain ⟨k,hk,rfl,rfl,R,B,B1⟩:=hrel
  by_cases hlt:k<8
  ·have hlt':k<s.size:=by omega
   have g1:wr.cell? ⟨w1.heap.size,k,none⟩=some (.int .u8 (s[k].toNat:Int)):=R.out k hlt'
   have g2:wr.cell? ⟨w.heap.size,2,none⟩=some (.int .u8 op):=(B1.out.cell (show w.heap.size<w1.heap.size by omega)).trans C2.out
   rw [hsz] at g1
   obtain ⟨d,hd⟩:∃ d,s[k]=d:=⟨_,rfl⟩
   rw [hd] at g1
   have HD:=Lib.hid hd
   clear hd
   obtain ⟨o,ho⟩:∃ o,numF l op c k=o:=⟨_,rfl⟩
   rw [ho]
   have HO:=Lib.hid ho
   clear ho
   have hk7:(k:Int)≤7:=by omega
   go_wp2
   all_goals (have hl8:=HL.out)
   all_goals (have hck:l[k]?.getD 0=d:=by rw [List.getElem?_eq_getElem (by omega),Option.getD_some,← HAT.out k hlt' (by omega)];exact HD.out)
   ·have e1:d=c:=UInt8.toNat_inj.1 (by
     have h:((d.toNat:Int) == (c.toNat:Int))=true:=by assumption
     have h2:(d.toNat:Int)=(c.toNat:Int):=by simpa using h
     omega)
    go_roundw
    case rel=>exact ⟨k+1,by omega,by go_num,by rw [numF,if_pos (hck.trans e1),HO.out],R,B,B1⟩
    case measure=>simp [intOf];omega
   ·have e1:¬d=c:=fun e=>by
     subst e
     have h:((d.toNat:Int) == (d.toNat:Int))=false:=by assumption
     simp at h
    go_roundw
    case rel=>exact ⟨k+1,by omega,by go_num,by rw [numF,if_neg (by rw [hck];exact e1),HO.out],R,B,B1⟩
    case measure=>simp [intOf];omega
  ·obtain rfl:k=8:=by omega
   go_wp2
   go_ret
   exact ⟨rfl,B.out⟩
end Go.Proofs.YtoilebmbljpieaaGreatDoor
namespace Go.Mixed
open Go
theorem rowsIn_wide {n:Nat} {P:Program} {row:String} {args:Array Value} {w:World} {R:Value→World→Prop} (h:Rows P row args w R):RowsIn Fence.wide n P row args w R:=fun c cs _=>
 let ⟨v,w',r,s⟩:=h c cs;⟨v,w',r,stepsIn_wide.2 s⟩
theorem opsIn_of_ops {P:Program} {r n:Nat} {ops:Array Oper} {Q:Exit→Act→World→Prop} (hnd:∀ (i:Nat) (o:Oper),ops[i]?=some o→∀ c,o.op≠.defer c) (hQ:¬LetsOut Q) :
  ∀ (l:List Nat) (a:Act) (w:World),wpOps P ops Q l a w→wpOpsIn (Fence.wide.inRound r) n P ops Q l a w
 | [],a,w,h=>h
 | i :: rest,a,w,h=>by
  have ih:=opsIn_of_ops (P:=P) (r:=r) (n:=n) hnd hQ rest
  simp only [wpOps] at h
  simp only [wpOpsIn]
  cases ho:ops[i]? with
  | none=>simp only [ho] at h;exact ih _ _ h
  | some o=>
   simp only [ho] at h ⊢
   by_cases hw:Region.wanted o (yielded ops a.tmps)=true
   ·simp only [hw,if_true] at h ⊢
    rcases h with h | h
    ·refine ⟨fun _ _=>trivial,?_⟩
     rw [Oper.semAt_eq _ _ _ (hnd i o ho)]
     unfold Oper.wp at h
     generalize (execOp a.eval o).run P w=rs at *
     cases rs with
     | ok x w'=>
      cases x <;> simp only [Oper.upon] at h
      case value v=>exact ih _ _ h
      case skip=>exact ih _ _ h
      case defer d=>exact ih _ _ h
      case enter f args=>
       refine ⟨fun h=>(by cases h),CallsIn.inRound r (callsIn_wide.2 (h.mono fun e w'' he=>?_))⟩
       cases e with
       | returned v=>exact ih _ _ he
       | panicked c=>exact he
       | outgrown=>exact he
      case row row args=>
       refine ⟨fun h=>(by cases h),?_⟩
       have h2:=rowsIn_wide (n:=n - 1) (h.mono fun v w'' hv=>ih _ _ hv)
       exact h2
     | halt x w'=>
      cases x <;> simp only [Oper.upon] at h
      case panic v=>exact h
    ·exact absurd h.2 hQ
   ·have hw':Region.wanted o (yielded ops a.tmps)=false:=by simpa using hw
    simp only [hw',Bool.false_eq_true,if_false] at h ⊢
    exact ⟨fun _ _=>trivial,ih _ _ h⟩
def noDefer (l:List Oper):Bool:=l.all fun o=>match o.op with | .defer _=>false | _=>true
theorem noDefer_spec {l:List Oper} (h:noDefer l=true):∀ (i:Nat) (o:Oper),l.toArray[i]?=some o→∀ c,o.op≠.defer c:=fun i o ho c e=>by
 have hm:o∈l:=by
  have:=Array.mem_of_getElem? ho
  simpa using this
 have:=List.all_eq_true.1 h o hm
 rw [e] at this
 cases this
theorem wpIn_region_mixed {id r m:Nat} {P:Program} {Q:Exit→Act→World→Prop} {a:Act} {w:World} {l:List Oper} (C:World→Prop) (n:Nat) (ord:List (Nat×Bool)) (hm:P.follows .mixedOrders=true) (hQ:¬LetsOut Q) (hd:noDefer l=true) (hB:mixedB .any l.toArray n ord=true)
  (hC:C w.drew) (h:wpMix P l.toArray C (fun a' w'=>wpList P l.toArray Q (l.drop n) a' w') ord a w.drew):(Code.region id l.toArray true).wpIn (Fence.wide.inRound r) m P Q a w:=by
 simp only [mixedB,Bool.and_eq_true,decide_eq_true_eq] at hB
 obtain ⟨⟨⟨⟨⟨hsel,hn⟩,hlen⟩,hs⟩,hc⟩,hord⟩:=hB
 have hdl:(l.drop n).length=l.toArray.size - n:=by simp
 have inv0:HeadInv .any l.toArray n (Array.replicate l.toArray.size false):=
  ⟨by simp,fun j oj _ hl=>(by rw [getD_replicate_false] at hl;cases hl),fun t _ ht=>getD_in (by simpa using ht) (getD_replicate_false _ _)⟩
 have H:=wpAnyC_ord hsel hs hc hn ord _ a w.drew inv0 hord hC h
 have h3:=wpAny_of_headC (Q':=Q) (g:=l.toArray.size - n) (fun listed a' w' hL=>by
  have:=wpAny_of_seq (md:=.any) (Q':=Q) (l.drop n) n listed a' w' (fun j=>by simp [List.getElem?_drop]) (by rw [hdl];exact hL.1) hL.2
  rwa [hdl] at this) _ _ _ _ H
 rw [hlen] at h3
 refine wpIn_region_draw fun t=>opsIn_of_ops (noDefer_spec hd) hQ _ _ _ ?_
 simp only [Region.schedule,hm,Bool.true_or,if_true]
 exact wpAny_sound _ t _ a _ h3
end Go.Mixed
namespace Go.Each
open Go Go.RowKit
def Gives {α:Type} (F:Fence) (n:Nat) (P:Program) (g:Nat) (lb:Array Value) (encs:α→Array Value) (E:α→World→Prop) (Kp:World→World→Prop) (S:List α→Prop) (N:Nat) (w:World):Prop:=
 ∀ (l:Nat) (J:List α→World→Prop) (W:World),Below w.heap.size w W→AbidesFrom W.heap.size J→
  (∀ pre x W1,J pre W1→E x W1→pre.length<N→YieldAt F (n - 1) P l (encs x) W1 fun e W'=>e=.returned (.bool true)∧J (pre++[x]) W'∧Kp W1 W')→
  J [] W→CallsIn F n P g (#[.func (.yield l) #[] #[]]++lb) W fun e W'=>(∃ v,e=.returned v)∧∃ xs,S xs∧J xs W'
def goesOn (K:World→Prop):Exit→Act→World→Prop
 | .normal,_,W'=>K W'
 | .ret,_,_=>False
 | .exit _,_,_=>False
 | .goto _,_,_=>False
 | .panic _,_,_=>False
 | .outgrown,_,_=>False
variable {F:Fence} {n:Nat} {P:Program}
end Go.Each
