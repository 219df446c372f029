/-
  SeA, SeVa, NumF, NumG, NumE, NumH, NumI, NumJ, NumL, OpA, Sa, OpB, SeB, Round, Each, Stops, StW, TbC.
-/
import Derived.Test.YtmnleknehjkmgaaGreatDoorGAA
import Derived.Laws.IdiomStrings
import Derived.Lib.SlBytesRow
import Derived.Deep.OwnRows
import Derived.Laws.EntriesVeiled
import Derived.Deep.QuietTactic
import Derived.BigQuiet
import Derived.RangeFuncBox
import Derived.Deep.DeepCutAuto
import Derived.RangeFuncNested
import Derived.RangeFuncBound
import Derived.RangeFuncCalls
import Derived.RangeFuncLeaves
import Derived.OwnWalkIn
import Derived.TacticsInMore
import Derived.Test.YtmnleknehjkmgaaGreatDoorCut
import Derived.Shelf.Abstract
import Derived.Shelf.RegionOpen
import Derived.WalkKit
import Derived.TacticsIn
import Derived.Deep.Cut
import Derived.LoopNIn
import Derived.LoopIn
set_option linter.all false
set_option maxRecDepth 100000
set_option maxHeartbeats 4000000
namespace Go.Proofs.YtmnleknehjkmgaaGreatDoor
open Go.RowKit
abbrev Vr:=List Int×Int×Int
def vr0:Vr:=([],0,0)
def stepV (p:Vr×Vr) (c:UInt8):Vr×Vr:=
 if c=100 then (([5],-128,127),p.2) else if c=101 then (p.1,([10],-128,127)) else if c=110 then (p.1,([6,7],0,255)) else if c=119 then (p.1,([6,7],0,65535)) else p
def varsV (ex:Str):Vr×Vr:=ex.foldl stepV (vr0,vr0)
def atV (ks:List Int):List Tr→Option Nat
 | []=>none
 | t :: r=>match atV ks r with
  | some k=>some (k+1)
  | none=>if t.1∈ks then some 0 else none
def tr0:Tr:=(0,0,0)
def numV (ks:List Int) (L:List Tr):Int:=match atV ks L with
 | some k=>(L.getD k tr0).2.2
 | none=>0
def setN (L:List Tr) (k:Nat) (n:Int):List Tr:=L.set k ((L.getD k tr0).1,(L.getD k tr0).2.1,n)
def putL (ks:List Int) (L:List Tr) (n:Int):List Tr:=match atV ks L with
 | some k=>setN L k n
 | none=>L
def inV (v:Vr) (n:Int):Bool:=decide (v.2.1≤n)&&decide (n≤v.2.2)
def putB (v:Vr) (L:List Tr) (n:Int):Bool:=match atV v.1 L with
 | some _=>inV v n
 | none=>decide (n=0)
def fillV (ex:Str) (L:List Tr) (d n:Int):Option (List Tr):=
 if putB (varsV ex).1 L d=true∧putB (varsV ex).2 (putL (varsV ex).1.1 L d) n=true then some (putL (varsV ex).2.1 (putL (varsV ex).1.1 L d) n) else none
def hasV (m:Str) (L:List Tr) (ex:Str) (s:ByteArray) (C:List Tr):Bool:=
 match fillV ex L (numV (varsV ex).1.1 C) (numV (varsV ex).2.1 C) with
 | some L2=>decide (sB m=s)&&decide (L2=C)
 | none=>false
def valV (m:Str) (L:List Tr) (ex:Str) (s:ByteArray) (C:List Tr):Int×Int:=
 if hasV m L ex s C=true then (numV (varsV ex).1.1 C,numV (varsV ex).2.1 C) else (0,0)
def ks2 (t:Tr):Int×Int:=(t.1,t.2.1)
def varKB (t:Tr):Bool:=t.1 == 6||t.1 == 7
def letR (ex:Str) (L:List Tr) (k:Nat):UInt8:=
 if (L.getD k tr0).1=5∧ex.contains 100=true then 100 else
 if (L.getD k tr0).1=10∧ex.contains 101=true then 101 else
 if varKB (L.getD k tr0)=false then 0 else
 if (L.drop (k+1)).any varKB=true then 0 else
 if ex.contains 110=true then 110 else if ex.contains 119=true then 119 else 0
def shpR (m:Str) (L:List Tr) (s:ByteArray) (C:List Tr):Bool:=decide (sB m=s)&&decide (L.map ks2=C.map ks2)
def rangeR (c:UInt8):Int×Int:=if c=100∨c=101 then (-128,127) else if c=110 then (0,255) else (0,65535)
def placeB (ex:Str) (L:List Tr) (k:Nat):Bool:=
 if atV (varsV ex).1.1 L=some k then letR ex L k == 100&&decide ((varsV ex).1.2=rangeR 100)&&decide (atV (varsV ex).2.1 L≠some k) else
 if atV (varsV ex).2.1 L=some k then letR ex L k != 100&&letR ex L k != 0&&decide ((varsV ex).2.2=rangeR (letR ex L k)) else letR ex L k == 0
def placesB (ex:Str) (L:List Tr):Bool:=(List.range L.length).all fun k=>placeB ex L k
theorem atV_lt {ks:List Int}:∀ {L:List Tr} {k:Nat},atV ks L=some k→k<L.length
 | [],k,h=>by cases h
 | t :: r,k,h=>by
  unfold atV at h
  cases hr:atV ks r with
  | some j=>
   rw [hr] at h
   obtain rfl:=Option.some.inj h
   have:=atV_lt hr
   simp;omega
  | none=>
   rw [hr] at h
   simp only at h
   split at h
   ·obtain rfl:=Option.some.inj h
    simp
   ·cases h
theorem atV_congr (ks:List Int):∀ {L C:List Tr},L.map ks2=C.map ks2→atV ks L=atV ks C
 | [],[],_=>rfl
 | [],c :: C,h=>by simp at h
 | t :: L,[],h=>by simp at h
 | t :: L,c :: C,h=>by
  simp only [List.map_cons,List.cons.injEq] at h
  unfold atV
  rw [atV_congr ks h.2]
  have h1:t.1=c.1:=congrArg (fun z:Int×Int=>z.1) h.1
  rw [h1]
theorem setN_shape (L:List Tr) (k:Nat) (n:Int):(setN L k n).map ks2=L.map ks2:=by
 unfold setN
 refine List.ext_getElem (by simp) fun i h1 h2=>?_
 rw [List.getElem_map,List.getElem_map,List.getElem_set]
 have hi:i<L.length:=by simpa using h2
 split
 ·rename_i e
  subst e
  rw [List.getD_eq_getElem?_getD,List.getElem?_eq_getElem hi]
  rfl
 ·rfl
theorem putL_shape (ks:List Int) (L:List Tr) (n:Int):(putL ks L n).map ks2=L.map ks2:=by
 unfold putL
 split
 ·exact setN_shape L _ n
 ·rfl
theorem len_of_shape {L C:List Tr} (h:L.map ks2=C.map ks2):L.length=C.length:=by simpa using congrArg List.length h
theorem get_of_shape {L C:List Tr} (h:L.map ks2=C.map ks2) (i:Nat) (hi:i<L.length):(L.getD i tr0).1=(C.getD i tr0).1∧(L.getD i tr0).2.1=(C.getD i tr0).2.1:=by
 have hc:i<C.length:=by rw [← len_of_shape h];exact hi
 have h1:=congrArg (fun z=>z[i]?) h
 simp only [List.getElem?_map,List.getElem?_eq_getElem hi,List.getElem?_eq_getElem hc,Option.map_some,Option.some.injEq] at h1
 rw [List.getD_eq_getElem?_getD,List.getD_eq_getElem?_getD,List.getElem?_eq_getElem hi,List.getElem?_eq_getElem hc]
 exact ⟨congrArg (fun z:Int×Int=>z.1) h1,congrArg (fun z:Int×Int=>z.2) h1⟩
theorem fill_shape {ex:Str} {L L2:List Tr} {d n:Int} (h:fillV ex L d n=some L2):L2.map ks2=L.map ks2∧putB (varsV ex).1 L d=true∧putB (varsV ex).2 L n=true∧L2=putL (varsV ex).2.1 (putL (varsV ex).1.1 L d) n:=by
 unfold fillV at h
 split at h
 ·rename_i hc
  obtain rfl:=Option.some.inj h
  refine ⟨(putL_shape _ _ _).trans (putL_shape _ _ _),hc.1,?_,rfl⟩
  have h2:=hc.2
  unfold putB at h2 ⊢
  rw [← atV_congr (varsV ex).2.1 (putL_shape (varsV ex).1.1 L d)]
  exact h2
 ·cases h
end Go.Proofs.YtmnleknehjkmgaaGreatDoor
namespace Go.Proofs.YtmnleknehjkmgaaGreatDoor
open Go.RowKit
theorem putB_shape (v:Vr) {L C:List Tr} (h:L.map ks2=C.map ks2) (n:Int):putB v L n=putB v C n:=by
 unfold putB
 rw [atV_congr v.1 h]
end Go.Proofs.YtmnleknehjkmgaaGreatDoor
namespace Go.Proofs.YtmnleknehjkmgaaGreatDoor
open Go.RowKit
def IntsAt (w:World) (A:Option Addr) (zs:List Int):Prop:=
 zs=[]∨∃ b off,A=some ⟨b,off,none⟩∧∀ j (h:j<zs.length),w.cell? ⟨b,off+j,none⟩=some (.int .i64 zs[j])
theorem IntsAt.at_ {w:World} {A:Option Addr} {zs:List Int} (h:IntsAt w A zs) {k:Nat} (hk:k<zs.length):∃ b off,A=some ⟨b,off,none⟩∧w.cell? ⟨b,off+k,none⟩=some (.int .i64 zs[k]):=by
 rcases h with rfl | ⟨b,off,rfl,hc⟩
 ·simp at hk
 ·exact ⟨b,off,rfl,hc k hk⟩
def fitsB (lo hi:Int) (zs:List Int):Bool:=zs.all fun n=>decide (lo≤n)&&decide (n≤hi)
theorem fits_bad (lo hi:Int) (zs:List Int) (k:Nat) (h:k<zs.length) (hb:zs[k]<lo∨hi<zs[k]):fitsB lo hi zs=false:=by
 unfold fitsB
 rw [List.all_eq_false]
 refine ⟨zs[k],List.getElem_mem h,?_⟩
 simp
 omega
theorem fits_all (lo hi:Int) (zs:List Int) (h:∀ j (h:j<zs.length),lo≤zs[j]∧zs[j]≤hi):fitsB lo hi zs=true:=by
 unfold fitsB
 rw [List.all_eq_true]
 intro x hx
 obtain ⟨j,hj,rfl⟩:=List.getElem_of_mem hx
 have:=h j hj
 simp
 omega
theorem fits_any (lo hi:Int) (A:Option Addr) (cap:Nat) (zs:List Int) (hl:zs.length≤maxLen) (w:World) (hz:IntsAt w A zs) :
  Calls Tryz.prog 80 #[.int .i64 lo,.int .i64 hi,.slice A zs.length cap] w fun e w'=>e=.returned (.bool (fitsB lo hi zs))∧w=w':=by
 unfold maxLen at hl
 have Z:=Lib.hid hz
 clear hz
 go_enter Tryz.func80,Tryz.ntmps80
 go_wp2
 go_loop [11] (fun i=>∃ k:Nat,k≤zs.length∧i=.int .i64 k∧Hid (∀ j (h:j<zs.length),j<k→lo≤zs[j]∧zs[j]≤hi)) (fun i=>zs.length - (intOf i).toNat)
 case atStart=>exact ⟨0,Nat.zero_le _,rfl,fun j h h'=>by omega⟩
 case round=>
  obtain ⟨k,hk,rfl,R⟩:=hrel
  by_cases hlt:k<zs.length
  ·obtain ⟨b,off,hA,hc⟩:=Z.out.at_ hlt
   subst hA
   by_cases h1:zs[k]<lo
   ·have F:=Lib.hid (fits_bad lo hi zs k hlt (.inl h1))
    go_wp2
    go_ret
    exact ⟨ret_bool F.out.symm,rfl⟩
   ·by_cases h2:hi<zs[k]
    ·have F:=Lib.hid (fits_bad lo hi zs k hlt (.inr h2))
     go_wp2
     go_ret
     exact ⟨ret_bool F.out.symm,rfl⟩
    ·have N:Hid (∀ j (h:j<zs.length),j<k+1→lo≤zs[j]∧zs[j]≤hi):=fun j h h'=>by
      by_cases e:j=k
      ·subst e;omega
      ·exact R.out j h (by omega)
     go_wp2
     go_round
     case rel=>exact ⟨k+1,by omega,by go_num,N⟩
     case measure=>simp [intOf];omega
  ·have F:=Lib.hid (fits_all lo hi zs fun j h=>R.out j h (by omega))
   go_wp2
   go_ret
   exact ⟨ret_bool F.out.symm,rfl⟩
theorem ints_one (w:World) (x:Int) (t:TypeId):IntsAt (w.alloc (.cells #[.int .i64 x] t)) (some ⟨w.heap.size,0,none⟩) [x]:=by
 refine .inr ⟨_,_,rfl,fun j h=>?_⟩
 obtain rfl:j=0:=by simp at h;omega
 simp [go_sem]
theorem info_u8:(Tryz.prog.info? 5).map (fun i=>(i.zero,i.size,i.bytes))=some (some (.int .u8 0),1,1):=by kernel_rfl
def hexU (x:Int):UInt8:=(if x<10 then 48+x else 55+x).toNat.toUInt8
def hexTab:ByteArray:=⟨#[48,49,50,51,52,53,54,55,56,57,65,66,67,68,69,70]⟩
theorem hexTab_at (x:Int) (h0:0≤x) (h1:x<16) (h:x.toNat<hexTab.size):hexTab[x.toNat]=hexU x:=by
 have t:∀ i:Fin 16,∀ h:i.val<hexTab.size,hexTab[i.val]=hexU (i.val:Int):=by decide +kernel
 have:=t ⟨x.toNat,by omega⟩ h
 simpa [Int.toNat_of_nonneg h0] using this
theorem and15 (x:Int):bits .and .i64 x 15=x % 16:=by
 show IntKind.i64.wrap ((BitVec.ofInt 64 x &&& BitVec.ofInt 64 15).toNat:Int)=_
 rw [BitVec.toNat_and,show (BitVec.ofInt 64 15).toNat=2 ^ 4 - 1 from rfl,Nat.and_two_pow_sub_one_eq_mod,BitVec.toNat_ofInt,IntKind.wrap_i64]
 omega
def digI (n:Int) (i:Nat):Int:=(n / 2 ^ (4*i)) % 16
theorem digI_bd (n:Int) (i:Nat):0≤digI n i∧digI n i<16:=by unfold digI;omega
def hexS (n:Int) (d:Nat):ByteArray:=⟨((List.range d).map fun j=>hexU (digI n (d - 1 - j))).toArray⟩
theorem hexS_size (n:Int) (d:Nat):(hexS n d).size=d:=by show (((List.range d).map fun j=>hexU (digI n (d - 1 - j))).toArray).size=d;simp
theorem hexS_at (n:Int) (d j:Nat) (h:j<(hexS n d).size):(hexS n d)[j]=hexU (digI n (d - 1 - j)):=by
 have h1:(hexS n d).data[j]'h=hexU (digI n (d - 1 - j)):=by simp [hexS]
 exact h1
def HexRel (w:World) (n:Int) (d k:Nat) (wr:World):Prop:=
 (∀ j,j<d→wr.cell? ⟨w.heap.size+1,j,none⟩=some (.int .u8 (if d - 1 - j<k then ((hexU (digI n (d - 1 - j))).toNat:Int) else 0)))∧(∀ j,j<d→wr.frozen? ⟨w.heap.size+1,j,none⟩=false)∧Below w.heap.size w wr
theorem hexRel_start (w:World) (n:Int) (d:Nat) (O:Obj) (e:TypeId):HexRel w n d 0 ((w.alloc O).alloc (.cells (madeCells #[.int .u8 0] d) e)):=by
 refine ⟨fun j h=>?_,fun j h=>?_,((Below.refl _ _).alloc (Nat.le_refl _) _).alloc (by simp) _⟩
 ·rw [if_neg (by omega)]
  simp [go_sem,madeCells,h,Nat.mod_one]
 ·simp [go_sem]
theorem hexRel_next (w wr:World) (n:Int) (d k:Nat) (hk:k<d) (hr:HexRel w n d k wr) :
  HexRel w n d (k+1) (wr.setCell ⟨w.heap.size+1,d - 1 - k,none⟩ (.int .u8 ((hexU (digI n k)).toNat:Int))):=by
 obtain ⟨r1,r2,r3⟩:=hr
 refine ⟨fun j hj=>?_,fun j hj=>?_,r3.setCell (by simp) _⟩
 ·by_cases e:j=d - 1 - k
  ·subst e
   have:=r1 _ hj
   have e2:d - 1 - (d - 1 - k)=k:=by omega
   rw [if_pos (by omega),e2]
   simp [go_sem,this]
  ·rw [World.cell?_setCell_other _ _ _ _ (by simp),r1 j hj]
   by_cases h1:d - 1 - j<k
   ·rw [if_pos h1,if_pos (by omega)]
   ·rw [if_neg h1,if_neg (by omega)]
 ·simp [go_sem,r2 j hj]
theorem hexRel_end (w wr:World) (n:Int) (d cap:Nat) (hr:HexRel w n d d wr) :
  (convert 27 9 (.slice (some ⟨w.heap.size+1,0,none⟩) d cap)).run Tryz.prog wr=.ok (.string (hexS n d)) wr:=by
 have h:=Lib.run_convert_whole (P:=Tryz.prog) wr 27 5 9 Tryz.underlying27 Tryz.underlying5 Tryz.underlying9 (w.heap.size+1) 0 (hexS n d) (fun i hi=>by
  have hi':i<d:=by rw [hexS_size] at hi;exact hi
  rw [Nat.zero_add,hr.1 i hi',if_pos (by omega),hexS_at n d i hi]) cap
 rw [hexS_size] at h
 exact h
theorem hex_any (n:Int) (d:Nat) (hd:d≤8) (w:World) :
  Calls Tryz.prog 158 #[.int .i64 n,.int .i64 d] w fun e w'=>e=.returned (.string (hexS n d))∧Below w.heap.size w w':=by
 have hF:fitsB 0 8 [(d:Int)]=true:=by simp [fitsB];omega
 have hmk:=fun w=>run_make_row' (P:=Tryz.prog) 27 5 (.int .u8 0) 1 Tryz.underlying27 info_u8 rfl .i64 .i64 d (by omega) (by omega) w
 have S:=fun O=>Lib.hid (hexRel_start w n d O 5)
 go_enter Tryz.func158,Tryz.ntmps158
 go_wp2_with (go_at_call 80;refine (fits_any 0 8 _ _ [(d:Int)] (by simp [maxLen]) _ (ints_one _ _ _)).mono ?_;rintro e w' ⟨rfl,rfl⟩)
 clear hmk
 go_loopw [14] (fun i wr=>∃ k:Nat,k≤d∧i=.int .i64 k∧HexRel w n d k wr) (fun i _=>d - (intOf i).toNat)
 case atStart=>exact ⟨0,Nat.zero_le _,rfl,(S _).out⟩
 case round=>
  obtain ⟨k,hk,rfl,hr⟩:=hrel
  have R:=Lib.hid hr
  clear hr
  by_cases hlt:k<d
  ·have hbit:=and15 (n / 2 ^ (4*k))
   obtain ⟨x0,x1⟩:=digI_bd n k
   have hd0:digI n k=n / 2 ^ (4*k) % 16:=rfl
   rw [← hd0] at hbit
   clear hd0
   obtain ⟨x,hx⟩:∃ x,digI n k=x:=⟨_,rfl⟩
   rw [hx] at hbit x0 x1
   have X:=Lib.hid hx
   clear hx
   have g1:=R.out.1 (d - 1 - k) (by omega)
   have g2:=R.out.2.1 (d - 1 - k) (by omega)
   have N:=Lib.hid (hexRel_next w wr n d k hlt R.out)
   go_wp2
   go_roundw
   case rel=>exact ⟨k+1,by omega,by go_num,by have h:=N.out;rw [X.out,← hexTab_at x x0 x1 (by show x.toNat<16;omega)] at h;exact h⟩
   case measure=>simp [intOf];omega
  ·obtain rfl:k=d:=by omega
   have hback:=hexRel_end w wr n k k R.out
   go_wp2
   go_ret
   exact ⟨rfl,R.out.2.2⟩
end Go.Proofs.YtmnleknehjkmgaaGreatDoor
namespace Go.Proofs.YtmnleknehjkmgaaGreatDoor
open Go.RowKit
theorem extract_le (s:ByteArray) (a b:Nat):(s.extract a b).size≤s.size:=by simp;omega
theorem bytes_ext {a b:ByteArray} (h:a.data.toList=b.data.toList):a=b:=by
 apply ByteArray.ext
 exact Array.toList_inj.1 h
def strLen:Value→Nat
 | .string s=>s.size
 | _=>0
def trimL (c:UInt8) (s:ByteArray):ByteArray:=⟨(s.data.toList.dropWhile (· == c)).toArray⟩
theorem list_cons (t:ByteArray) (h:0<t.size):t.data.toList=t[0] :: (t.extract 1 t.size).data.toList:=by
 rw [Lib.extract_data]
 have hl:0<t.data.toList.length:=by simpa using h
 have h1:=List.drop_eq_getElem_cons hl
 rw [List.drop_zero] at h1
 rw [List.take_of_length_le (by simp),← show t.data.toList[0]=t[0] from rfl]
 exact h1
theorem trimL_same (c:UInt8) (t:ByteArray) (h:0<t.size) (e:t[0]=c):trimL c (t.extract 1 t.size)=trimL c t:=by
 apply bytes_ext
 unfold trimL
 simp only [list_cons t h,List.dropWhile_cons,e,beq_self_eq_true,if_true]
theorem trimL_stop (c:UInt8) (t:ByteArray) (h:0<t.size) (e:¬t[0]=c):trimL c t=t:=by
 apply bytes_ext
 unfold trimL
 show List.dropWhile (· == c) t.data.toList=_
 rw [list_cons t h,List.dropWhile_cons]
 simp [e]
theorem trimL_nil (c:UInt8) (t:ByteArray) (h:¬0<t.size):trimL c t=t:=by
 apply bytes_ext
 have h3:t.data.toList.length=t.size:=by simp
 have h1:t.data.toList=[]:=List.eq_nil_of_length_eq_zero (by omega)
 unfold trimL
 simp [h1]
theorem trimLeftByte_any (s:ByteArray) (c:UInt8) (hs:s.size≤maxLen) (w:World) :
  Calls Tryz.prog 168 #[.string s,.int .u8 (c.toNat:Int)] w fun e w'=>e=.returned (.string (trimL c s))∧w=w':=by
 unfold maxLen at hs
 go_enter Tryz.func168,Tryz.ntmps168
 go_wp2
 go_loop [0] (fun v=>∃ t:ByteArray,v=.string t∧t.size≤2 ^ 63 - 1∧Hid (trimL c t=trimL c s)) (fun v=>strLen v)
 case atStart=>exact ⟨s,rfl,hs,rfl⟩
 case round=>
  obtain ⟨t,rfl,ht,T⟩:=hrel
  by_cases h:0<t.size
  ·have hne:((t.size:Int) == 0)=false:=by rw [beq_eq_false_iff_ne];omega
   by_cases e:t[0]=c
   ·have e1:((t[0].toNat:Int) == (c.toNat:Int))=true:=by rw [e];simp
    have N:Hid (trimL c (t.extract 1 t.size)=trimL c s):=(trimL_same c t h e).trans T.out
    clear e
    go_wp2
    go_round
    case rel=>exact ⟨_,rfl,Nat.le_trans (extract_le t 1 t.size) ht,N⟩
    case measure=>simp [strLen];omega
   ·have e1:((t[0].toNat:Int) == (c.toNat:Int))=false:=by
     rw [beq_eq_false_iff_ne]
     intro h2
     exact e (UInt8.toNat_inj.1 (by omega))
    have N:Hid (t=trimL c s):=(trimL_stop c t h e).symm.trans T.out
    clear e
    go_wp2
    go_ret
    exact ⟨ret_str N.out,rfl⟩
  ·have N:Hid (t=trimL c s):=(trimL_nil c t h).symm.trans T.out
   go_wp2
   go_ret
   exact ⟨ret_str N.out,rfl⟩
theorem trimLeft0_any (s:ByteArray) (hs:s.size≤maxLen) (w:World) :
  Calls Tryz.prog 157 #[.string s,.string ⟨#[48]⟩] w fun e w'=>e=.returned (.string (trimL 48 s))∧w=w':=by
 have hs0:=hs
 unfold maxLen at hs
 by_cases h:s.toList.isEmpty=true
 ·have h1:¬0<s.size:=by
   rw [ByteArray.toList_eq] at h
   have h2:s.data.toList=[]:=by simpa using h
   have h3:s.data.toList.length=s.size:=by simp
   rw [h2] at h3
   simp at h3
   omega
  have N:=Lib.hid (trimL_nil 48 s h1).symm
  go_enter Tryz.func157,Tryz.ntmps157
  go_wp2
  go_ret
  exact ⟨ret_str N.out,rfl⟩
 ·have h':s.toList.isEmpty=false:=by simpa using h
  clear h
  go_enter Tryz.func157,Tryz.ntmps157
  go_wp2_with (go_at_call 168;refine (trimLeftByte_any _ 48 hs0 _).mono ?_;rintro e w' ⟨rfl,rfl⟩)
  go_ret
  exact ⟨rfl,rfl⟩
end Go.Proofs.YtmnleknehjkmgaaGreatDoor
namespace Go.Proofs.YtmnleknehjkmgaaGreatDoor
open Go.RowKit
end Go.Proofs.YtmnleknehjkmgaaGreatDoor
namespace Go.Proofs.YtmnleknehjkmgaaGreatDoor
open Go.RowKit
def digS (n:Int):ByteArray:=trimL 48 (hexS n 4)
theorem hexU_48:∀ x:Fin 16,(hexU (x.val:Int)=48↔x.val=0):=by decide +kernel
theorem hexU_zero (x:Int) (h0:0≤x) (h1:x<16):hexU x=48↔x=0:=by
 have h:=hexU_48 ⟨x.toNat,by omega⟩
 have e:((x.toNat:Nat):Int)=x:=by omega
 simp only [e] at h
 rw [h]
 omega
theorem hexS4 (n:Int):(hexS n 4).data.toList=[hexU (digI n 3),hexU (digI n 2),hexU (digI n 1),hexU (digI n 0)]:=by
 unfold hexS;simp [List.range_succ]
theorem digS_cases (n:Int) (h0:10≤n) (h1:n≤65535) :
  (4096≤n∧(digS n).data.toList=[hexU (digI n 3),hexU (digI n 2),hexU (digI n 1),hexU (digI n 0)]∧1≤digI n 3)∨
  (n<4096∧256≤n∧(digS n).data.toList=[hexU (digI n 2),hexU (digI n 1),hexU (digI n 0)]∧1≤digI n 2)∨
  (n<256∧16≤n∧(digS n).data.toList=[hexU (digI n 1),hexU (digI n 0)]∧1≤digI n 1)∨
  (n<16∧(digS n).data.toList=[hexU (digI n 0)]∧1≤digI n 0):=by
 have z3:=hexU_zero (digI n 3) (digI_bd n 3).1 (digI_bd n 3).2
 have z2:=hexU_zero (digI n 2) (digI_bd n 2).1 (digI_bd n 2).2
 have z1:=hexU_zero (digI n 1) (digI_bd n 1).1 (digI_bd n 1).2
 have z0:=hexU_zero (digI n 0) (digI_bd n 0).1 (digI_bd n 0).2
 have d3:digI n 3=n / 4096 % 16:=by unfold digI;simp
 have d2:digI n 2=n / 256 % 16:=by unfold digI;simp
 have d1:digI n 1=n / 16 % 16:=by unfold digI;simp
 have d0:digI n 0=n % 16:=by unfold digI;simp
 have hl:(digS n).data.toList=List.dropWhile (· == 48) [hexU (digI n 3),hexU (digI n 2),hexU (digI n 1),hexU (digI n 0)]:=by
  unfold digS trimL;rw [hexS4]
 rw [hl]
 simp only [List.dropWhile_cons,beq_iff_eq,z3,z2,z1,z0]
 by_cases c3:4096≤n
 ·left
  rw [if_neg (by omega)]
  exact ⟨c3,rfl,by omega⟩
 ·right
  rw [if_pos (by omega)]
  by_cases c2:256≤n
  ·left
   rw [if_neg (by omega)]
   exact ⟨by omega,c2,rfl,by omega⟩
  ·right
   rw [if_pos (by omega)]
   by_cases c1:16≤n
   ·left
    rw [if_neg (by omega)]
    exact ⟨by omega,c1,rfl,by omega⟩
   ·right
    rw [if_pos (by omega),if_neg (by omega)]
    exact ⟨by omega,rfl,by omega⟩
theorem digS_pos (n:Int) (h0:10≤n) (h1:n≤65535):0<(digS n).size:=by
 have hl:(digS n).data.toList.length=(digS n).size:=by simp
 rcases digS_cases n h0 h1 with ⟨_,h,_⟩ | ⟨_,_,h,_⟩ | ⟨_,_,h,_⟩ | ⟨_,h,_⟩ <;> rw [h] at hl <;> simp at hl <;> omega
theorem trimL_le (c:UInt8) (s:ByteArray):(trimL c s).size≤s.size:=by
 show (List.dropWhile (· == c) s.data.toList).toArray.size≤s.data.size
 have h:=(List.dropWhile_sublist (p:=(· == c)) (l:=s.data.toList)).length_le
 simpa using h
theorem digS_le (n:Int):(digS n).size≤4:=by
 have h:=trimL_le 48 (hexS n 4)
 rw [hexS_size] at h
 exact h
theorem hexS4_max (n:Int):(hexS n 4).size≤maxLen:=by rw [hexS_size];simp [maxLen]
theorem hex4_any (n:Int) (w:World) :
  Calls Tryz.prog 158 #[.int .i64 n,.int .i64 4] w fun e w'=>e=.returned (.string (hexS n 4))∧Below w.heap.size w w':=hex_any n 4 (by omega) w
theorem trimDig_any (n:Int) (w:World) :
  Calls Tryz.prog 157 #[.string (hexS n 4),.string ⟨#[48]⟩] w fun e w'=>e=.returned (.string (digS n))∧w=w':=trimLeft0_any _ (hexS4_max n) w
def textS (n:Int):ByteArray:=
 if n<0∨65535<n then ⟨#[]⟩
 else if n<10 then ⟨#[hexU n]⟩
 else if decB (((digS n).data.toList.getD 0 0).toNat:Int) then ⟨((digS n).data.toList++[72]).toArray⟩ else ⟨(48 :: (digS n).data.toList++[72]).toArray⟩
theorem fits16_yes (n:Int) (h0:0≤n) (h1:n≤65535):fitsB 0 65535 [n]=true:=by simp [fitsB];omega
theorem fits16_no (n:Int) (h:n<0∨65535<n):fitsB 0 65535 [n]=false:=by simp [fitsB];omega
theorem text_small (n:Int) (h0:0≤n) (h2:n<10):hexTab.extract n.toNat (n+1).toNat=textS n:=by
 have t:∀ i:Fin 10,hexTab.extract i.val (i.val+1)=⟨#[hexU (i.val:Int)]⟩:=by decide +kernel
 have h:=t ⟨n.toNat,by omega⟩
 have e:((n.toNat:Nat):Int)=n:=by omega
 have e2:(n+1).toNat=n.toNat+1:=by omega
 simp only [e] at h
 unfold textS
 rw [if_neg (by omega),if_pos h2,e2]
 exact h
theorem getD0 (t:ByteArray) (h:0<t.size):t.data.toList.getD 0 0=t[0]:=by
 rw [List.getD_eq_getElem?_getD,List.getElem?_eq_getElem (by simpa using h)];rfl
theorem append_data (a b:ByteArray):(a++b).data.toList=a.data.toList++b.data.toList:=by simp
theorem text_dec (n:Int) (h0:10≤n) (h1:n≤65535) (hp:0<(digS n).size) (h3:decB ((digS n)[0].toNat:Int)=true):digS n++⟨#[72]⟩=textS n:=by
 apply bytes_ext
 unfold textS
 rw [if_neg (by omega),if_neg (by omega),getD0 _ hp,h3,append_data]
 simp
theorem text_let (n:Int) (h0:10≤n) (h1:n≤65535) (hp:0<(digS n).size) (h3:decB ((digS n)[0].toNat:Int)=false):(⟨#[48]⟩++digS n)++⟨#[72]⟩=textS n:=by
 apply bytes_ext
 unfold textS
 rw [if_neg (by omega),if_neg (by omega),getD0 _ hp,h3,append_data,append_data]
 simp
theorem text_any (n:Int) (w:World) :
  Calls Tryz.prog 144 #[.int .i64 n] w fun e w'=>e=.returned (.string (textS n))∧Below w.heap.size w w':=by
 by_cases h0:n<0∨65535<n
 ·have hF:=fits16_no n h0
  have T:=Lib.hid (show (⟨#[]⟩:ByteArray)=textS n by unfold textS;rw [if_pos h0])
  clear h0
  go_enter Tryz.func144,Tryz.ntmps144
  go_wp2_with (go_at_call 80;refine (fits_any 0 65535 _ _ [n] (by simp [maxLen]) _ (ints_one _ _ _)).mono ?_;rintro e w' ⟨rfl,rfl⟩)
  go_ret
  exact ⟨ret_str T.out,(Below.refl _ _).alloc (Nat.le_refl _) _⟩
 ·have h1:n≤65535:=by omega
  have h0':0≤n:=by omega
  have hF:=fits16_yes n h0' h1
  clear h0
  by_cases h2:n<10
  ·have T:=Lib.hid (text_small n h0' h2)
   go_enter Tryz.func144,Tryz.ntmps144
   go_wp2_with (go_at_call 80;refine (fits_any 0 65535 _ _ [n] (by simp [maxLen]) _ (ints_one _ _ _)).mono ?_;rintro e w' ⟨rfl,rfl⟩)
   go_ret
   exact ⟨ret_str T.out,(Below.refl _ _).alloc (Nat.le_refl _) _⟩
  ·have hp:=digS_pos n (by omega) h1
   have hq:=digS_le n
   have c0:(0:Int)≤((digS n)[0].toNat:Int):=by omega
   have c1:((digS n)[0].toNat:Int)≤255:=by have:=(digS n)[0].toNat_lt;omega
   by_cases h3:decB ((digS n)[0].toNat:Int)=true
   ·have T:=Lib.hid (text_dec n (by omega) h1 hp h3)
    go_enter Tryz.func144,Tryz.ntmps144
    go_wp2_with (first | (go_at_call 80;refine (fits_any 0 65535 _ _ [n] (by simp [maxLen]) _ (ints_one _ _ _)).mono ?_;rintro e w' ⟨rfl,rfl⟩) | (go_at_call 158;refine (hex4_any n _).mono ?_;rintro e w1 ⟨rfl,hb1⟩) | (go_at_call 157;refine (trimDig_any n _).mono ?_;rintro e w' ⟨rfl,rfl⟩) | (go_at_call 159;refine (isDecimal_any _ c0 c1 _).mono ?_;rintro e w' ⟨rfl,rfl⟩))
    go_ret
    exact ⟨ret_str T.out,((Below.refl _ _).alloc (Nat.le_refl _) _).trans (hb1.mono (by simp))⟩
   ·have h3':decB ((digS n)[0].toNat:Int)=false:=by simpa using h3
    clear h3
    have T:=Lib.hid (text_let n (by omega) h1 hp h3')
    go_enter Tryz.func144,Tryz.ntmps144
    go_wp2_with (first | (go_at_call 80;refine (fits_any 0 65535 _ _ [n] (by simp [maxLen]) _ (ints_one _ _ _)).mono ?_;rintro e w' ⟨rfl,rfl⟩) | (go_at_call 158;refine (hex4_any n _).mono ?_;rintro e w1 ⟨rfl,hb1⟩) | (go_at_call 157;refine (trimDig_any n _).mono ?_;rintro e w' ⟨rfl,rfl⟩) | (go_at_call 159;refine (isDecimal_any _ c0 c1 _).mono ?_;rintro e w' ⟨rfl,rfl⟩))
    go_ret
    exact ⟨ret_str T.out,((Below.refl _ _).alloc (Nat.le_refl _) _).trans (hb1.mono (by simp))⟩
end Go.Proofs.YtmnleknehjkmgaaGreatDoor
namespace Go.Proofs.YtmnleknehjkmgaaGreatDoor
open Go.RowKit
end Go.Proofs.YtmnleknehjkmgaaGreatDoor
namespace Go.Proofs.YtmnleknehjkmgaaGreatDoor
open Go.RowKit
end Go.Proofs.YtmnleknehjkmgaaGreatDoor
namespace Go.Proofs.YtmnleknehjkmgaaGreatDoor
end Go.Proofs.YtmnleknehjkmgaaGreatDoor
namespace Go.Proofs.YtmnleknehjkmgaaGreatDoor
open Go.RowKit
def nmL:Nat→List ByteArray
 | 1=>[⟨#[66]⟩,⟨#[67]⟩,⟨#[68]⟩,⟨#[69]⟩,⟨#[72]⟩,⟨#[76]⟩,⟨#[]⟩,⟨#[65]⟩]
 | 2=>[⟨#[73,88,72]⟩,⟨#[73,88,76]⟩,⟨#[73,89,72]⟩,⟨#[73,89,76]⟩]
 | 3=>[⟨#[66,67]⟩,⟨#[68,69]⟩,⟨#[72,76]⟩,⟨#[83,80]⟩,⟨#[65,70]⟩,⟨#[73,88]⟩,⟨#[73,89]⟩,⟨#[65,70,39]⟩]
 | 4=>[⟨#[66,67]⟩,⟨#[68,69]⟩,⟨#[72,76]⟩,⟨#[83,80]⟩,⟨#[]⟩,⟨#[73,88]⟩,⟨#[73,89]⟩,⟨#[]⟩,⟨#[67]⟩]
 | 5=>[⟨#[]⟩,⟨#[]⟩,⟨#[]⟩,⟨#[]⟩,⟨#[]⟩,⟨#[73,88]⟩,⟨#[73,89]⟩]
 | 8=>[⟨#[78,90]⟩,⟨#[90]⟩,⟨#[78,67]⟩,⟨#[67]⟩,⟨#[80,79]⟩,⟨#[80,69]⟩,⟨#[80]⟩,⟨#[77]⟩]
 | 9=>[⟨#[73]⟩,⟨#[82]⟩]
 | _=>[]
def atS (L:List ByteArray) (r:Int):ByteArray:=if 0≤r then L.getD r.toNat ⟨#[]⟩ else ⟨#[]⟩
def neB (s:ByteArray):Bool:=!s.toList.isEmpty
theorem atS_in (L:List ByteArray) (k:Nat) (h:k<L.length):atS L (k:Int)=L[k]:=by
 unfold atS
 rw [if_pos (by omega),List.getD_eq_getElem?_getD,Int.toNat_natCast,List.getElem?_eq_getElem h]
 rfl
theorem atS_out (L:List ByteArray) (r:Int) (h:r<0∨(L.length:Int)≤r):atS L r=⟨#[]⟩:=by
 unfold atS
 split
 ·rw [List.getD_eq_getElem?_getD,List.getElem?_eq_none (by omega)];rfl
 ·rfl
def nmS (k:Nat) (r:Int):ByteArray:=atS (nmL k) r
theorem atS_mem (L:List ByteArray) (r:Int):atS L r=⟨#[]⟩∨atS L r∈L:=by
 by_cases h:0≤r∧r<(L.length:Int)
 ·right
  obtain ⟨k,rfl⟩:∃ k:Nat,r=k:=⟨r.toNat,by omega⟩
  rw [atS_in L k (by omega)]
  exact List.getElem_mem _
 ·left;exact atS_out L r (by omega)
end Go.Proofs.YtmnleknehjkmgaaGreatDoor
namespace Go.Proofs.YtmnleknehjkmgaaGreatDoor
open Go.RowKit
theorem strs_new (w:World) (L:List ByteArray) (t:TypeId):∀ j (h:j<L.length),(w.alloc (.cells (L.map Value.string).toArray t)).cell? ⟨w.heap.size,j,none⟩=some (.string L[j]):=by
 intro j h
 simp [go_sem,h]
def StrsA (w:World) (A:Option Addr) (L:List ByteArray):Prop:=L=[]∨∃ b off,A=some ⟨b,off,none⟩∧∀ j (h:j<L.length),w.cell? ⟨b,off+j,none⟩=some (.string L[j])
theorem StrsA.at_ {w:World} {A:Option Addr} {L:List ByteArray} (h:StrsA w A L) {k:Nat} (hk:k<L.length):∃ b off,A=some ⟨b,off,none⟩∧w.cell? ⟨b,off+k,none⟩=some (.string L[k]):=by
 rcases h with rfl | ⟨b,off,rfl,hc⟩
 ·simp at hk
 ·exact ⟨b,off,rfl,hc k hk⟩
theorem StrsA.below {w w':World} {A:Option Addr} {L:List ByteArray} (h:StrsA w A L) (hb:Below w.heap.size w w'):StrsA w' A L:=by
 rcases h with rfl | ⟨b,off,rfl,hc⟩
 ·exact .inl rfl
 ·exact .inr ⟨b,off,rfl,fun j hj=>(hb.cell (World.block_lt_of_cell? w _ (hc j hj))).trans (hc j hj)⟩
theorem strs_of_new (w:World) (L:List ByteArray) (t:TypeId):StrsA (w.alloc (.cells (L.map Value.string).toArray t)) (some ⟨w.heap.size,0,none⟩) L:=
 .inr ⟨_,0,rfl,fun j hj=>by rw [Nat.zero_add];exact strs_new w L t j hj⟩
end Go.Proofs.YtmnleknehjkmgaaGreatDoor
namespace Go.Proofs.YtmnleknehjkmgaaGreatDoor
open Go.RowKit
theorem fits1_yes (lo hi n:Int) (h0:lo≤n) (h1:n≤hi):fitsB lo hi [n]=true:=by simp [fitsB];omega
theorem fits1_no (lo hi n:Int) (h:n<lo∨hi<n):fitsB lo hi [n]=false:=by simp [fitsB];omega
theorem fit1_any (lo hi x:Int) (b:Nat) (q:Bool) (hq:fitsB lo hi [x]=q) (w:World) (hc:w.cell? ⟨b,0,none⟩=some (.int .i64 x)) :
  Calls Tryz.prog 80 #[.int .i64 lo,.int .i64 hi,.slice (some ⟨b,0,none⟩) 1 1] w fun e w'=>e=.returned (.bool q)∧w=w':=by
 subst hq
 refine fits_any lo hi _ 1 [x] (by simp [maxLen]) w (.inr ⟨b,0,rfl,fun j h=>?_⟩)
 obtain rfl:j=0:=by simp at h;omega
 exact hc
theorem neB_nil:neB ⟨#[]⟩=false:=by decide +kernel
theorem at_any (r:Int) (b cap n:Nat) (L:List ByteArray) (hn:n=L.length) (hl:L.length≤100) (w:World) (hc:∀ j (h:j<L.length),w.cell? ⟨b,j,none⟩=some (.string L[j])) :
  Calls Tryz.prog 141 #[.int .i64 r,.slice (some ⟨b,0,none⟩) n cap] w fun e w'=>e=.returned (.tuple #[.string (atS L r),.bool (neB (atS L r))])∧Below w.heap.size w w':=by
 by_cases h:0≤r∧r<(L.length:Int)
 ·obtain ⟨k,rfl⟩:∃ k:Nat,r=k:=⟨r.toNat,by omega⟩
  have hk:k<L.length:=by omega
  have hck:=hc k hk
  have e1:=atS_in L k hk
  have HF:=fits1_yes 0 ((n:Int) - 1) (k:Int) (by omega) (by omega)
  obtain ⟨s,hs⟩:∃ s,L[k]=s:=⟨_,rfl⟩
  rw [hs] at hck e1
  rw [e1]
  have hkn:k<n:=by omega
  have hnb:n≤100:=by omega
  have hb:=World.block_lt_of_cell? w _ hck
  have hck2:∀ o,(w.alloc o).cell? ⟨b,k,none⟩=some (.string s):=fun o=>(World.cell?_alloc_lt w o _ hb).trans hck
  clear hc h hk e1 hs hn hl hck hb
  go_enter Tryz.func141,Tryz.ntmps141
  go_wp2_with fail
  refine (fits_any 0 ((n:Int) - 1) _ _ [(k:Int)] (by simp [maxLen]) _ (ints_one _ _ _)).mono ?_
  rintro e w' ⟨rfl,rfl⟩
  rw [HF]
  clear HF
  go_wp2
  go_quiet (fail)
  go_wp2
  go_ret2
  exact ⟨rfl,((Below.refl _ _).alloc (Nat.le_refl _) _).trans (below_drewN _ _ _)⟩
 ·have e1:=atS_out L r (by omega)
  have HF:=fits1_no 0 ((n:Int) - 1) r (by omega)
  rw [e1,neB_nil]
  have hnb:n≤100:=by omega
  clear hc h e1 hn hl
  go_enter Tryz.func141,Tryz.ntmps141
  go_wp2_with fail
  refine (fits_any 0 ((n:Int) - 1) _ _ [r] (by simp [maxLen]) _ (ints_one _ _ _)).mono ?_
  rintro e w' ⟨rfl,rfl⟩
  rw [HF]
  clear HF
  go_wp2
  go_ret2
  exact ⟨rfl,((Below.refl _ _).alloc (Nat.le_refl _) _)⟩
theorem name8_any (r:Int) (w:World) :
  Calls Tryz.prog 106 #[.int .i64 r] w fun e w'=>e=.returned (.tuple #[.string (nmS 1 r),.bool (neB (nmS 1 r))])∧Below w.heap.size w w':=by
 go_enter Tryz.func106,Tryz.ntmps106
 go_wp2_with fail
 refine (at_any r _ _ _ (nmL 1) rfl (by decide) _ (strs_new w (nmL 1) 9)).mono ?_
 rintro e w' ⟨rfl,hb⟩
 have N:=Lib.hid (((Below.refl _ _).alloc (Nat.le_refl _) _).trans (hb.mono (by simp)))
 clear hb
 go_wp2
 go_ret2
 exact ⟨rfl,N.out⟩
theorem nameHalf_any (r:Int) (w:World) :
  Calls Tryz.prog 108 #[.int .i64 r] w fun e w'=>e=.returned (.tuple #[.string (nmS 2 r),.bool (neB (nmS 2 r))])∧Below w.heap.size w w':=by
 go_enter Tryz.func108,Tryz.ntmps108
 go_wp2_with fail
 refine (at_any r _ _ _ (nmL 2) rfl (by decide) _ (strs_new w (nmL 2) 9)).mono ?_
 rintro e w' ⟨rfl,hb⟩
 have N:=Lib.hid (((Below.refl _ _).alloc (Nat.le_refl _) _).trans (hb.mono (by simp)))
 clear hb
 go_wp2
 go_ret2
 exact ⟨rfl,N.out⟩
theorem name16_any (r:Int) (w:World) :
  Calls Tryz.prog 109 #[.int .i64 r] w fun e w'=>e=.returned (.tuple #[.string (nmS 3 r),.bool (neB (nmS 3 r))])∧Below w.heap.size w w':=by
 go_enter Tryz.func109,Tryz.ntmps109
 go_wp2_with fail
 refine (at_any r _ _ _ (nmL 3) rfl (by decide) _ (strs_new w (nmL 3) 9)).mono ?_
 rintro e w' ⟨rfl,hb⟩
 have N:=Lib.hid (((Below.refl _ _).alloc (Nat.le_refl _) _).trans (hb.mono (by simp)))
 clear hb
 go_wp2
 go_ret2
 exact ⟨rfl,N.out⟩
theorem namePointer_any (r:Int) (w:World) :
  Calls Tryz.prog 110 #[.int .i64 r] w fun e w'=>e=.returned (.tuple #[.string (nmS 4 r),.bool (neB (nmS 4 r))])∧Below w.heap.size w w':=by
 go_enter Tryz.func110,Tryz.ntmps110
 go_wp2_with fail
 refine (at_any r _ _ _ (nmL 4) rfl (by decide) _ (strs_new w (nmL 4) 9)).mono ?_
 rintro e w' ⟨rfl,hb⟩
 have N:=Lib.hid (((Below.refl _ _).alloc (Nat.le_refl _) _).trans (hb.mono (by simp)))
 clear hb
 go_wp2
 go_ret2
 exact ⟨rfl,N.out⟩
theorem nameIndex_any (r:Int) (w:World) :
  Calls Tryz.prog 112 #[.int .i64 r] w fun e w'=>e=.returned (.tuple #[.string (nmS 5 r),.bool (neB (nmS 5 r))])∧Below w.heap.size w w':=by
 go_enter Tryz.func112,Tryz.ntmps112
 go_wp2_with fail
 refine (at_any r _ _ _ (nmL 5) rfl (by decide) _ (strs_new w (nmL 5) 9)).mono ?_
 rintro e w' ⟨rfl,hb⟩
 have N:=Lib.hid (((Below.refl _ _).alloc (Nat.le_refl _) _).trans (hb.mono (by simp)))
 clear hb
 go_wp2
 go_ret2
 exact ⟨rfl,N.out⟩
theorem nameCondition_any (r:Int) (w:World) :
  Calls Tryz.prog 117 #[.int .i64 r] w fun e w'=>e=.returned (.tuple #[.string (nmS 8 r),.bool (neB (nmS 8 r))])∧Below w.heap.size w w':=by
 go_enter Tryz.func117,Tryz.ntmps117
 go_wp2_with fail
 refine (at_any r _ _ _ (nmL 8) rfl (by decide) _ (strs_new w (nmL 8) 9)).mono ?_
 rintro e w' ⟨rfl,hb⟩
 have N:=Lib.hid (((Below.refl _ _).alloc (Nat.le_refl _) _).trans (hb.mono (by simp)))
 clear hb
 go_wp2
 go_ret2
 exact ⟨rfl,N.out⟩
theorem nameControl_any (r:Int) (w:World) :
  Calls Tryz.prog 118 #[.int .i64 r] w fun e w'=>e=.returned (.tuple #[.string (nmS 9 r),.bool (neB (nmS 9 r))])∧Below w.heap.size w w':=by
 go_enter Tryz.func118,Tryz.ntmps118
 go_wp2_with fail
 refine (at_any r _ _ _ (nmL 9) rfl (by decide) _ (strs_new w (nmL 9) 9)).mono ?_
 rintro e w' ⟨rfl,hb⟩
 have N:=Lib.hid (((Below.refl _ _).alloc (Nat.le_refl _) _).trans (hb.mono (by simp)))
 clear hb
 go_wp2
 go_ret2
 exact ⟨rfl,N.out⟩
theorem noName_any (r:Int) (w:World) :
  Calls Tryz.prog 114 #[.int .i64 r] w fun e w'=>e=.returned (.tuple #[.string ⟨#[]⟩,.bool (r == 0)])∧w=w':=by
 go_enter Tryz.func114,Tryz.ntmps114
 go_wp2
 go_ret2
 exact ⟨rfl,rfl⟩
end Go.Proofs.YtmnleknehjkmgaaGreatDoor
namespace Go.Proofs.YtmnleknehjkmgaaGreatDoor
open Go.RowKit
def KsP (w:World) (A:Option Addr) (L:List Int):Prop:=L=[]∨∃ b off,A=some ⟨b,off,none⟩∧∀ k (h:k<L.length),w.cell? ⟨b,off+k,none⟩=some (.int .i64 L[k])
theorem KsP.below {w w':World} {A:Option Addr} {L:List Int} (h:KsP w A L) (hb:Below w.heap.size w w'):KsP w' A L:=by
 rcases h with rfl | ⟨b,off,rfl,hc⟩
 ·exact .inl rfl
 ·exact .inr ⟨b,off,rfl,fun k hk=>(hb.cell (World.block_lt_of_cell? w _ (hc k hk))).trans (hc k hk)⟩
theorem KsP.at_ {w:World} {A:Option Addr} {L:List Int} (h:KsP w A L) {k:Nat} (hk:k<L.length):∃ b off,A=some ⟨b,off,none⟩∧w.cell? ⟨b,off+k,none⟩=some (.int .i64 L[k]):=by
 rcases h with rfl | ⟨b,off,rfl,hc⟩
 ·simp at hk
 ·exact ⟨b,off,rfl,hc k hk⟩
theorem indexI_any (A:Option Addr) (c n:Nat) (L:List Int) (hn:L.length=n) (hL:n≤1000) (x:Int) (w:World) (H:KsP w A L) :
  Calls Tryz.prog 103 #[.slice A n c,.int .i64 x] w fun e w'=>(∃ i:Int,e=.returned (.int .i64 i)∧decide (0≤i)=decide (x∈L))∧w'=w:=by
 have X:=Lib.hid H
 have HN:=Lib.hid hn
 clear H hn
 go_enter Tryz.func103,Tryz.ntmps103
 go_wp2
 go_loopw [8] (fun i wr=>∃ j:Nat,j≤n∧i=.int .i64 j∧Hid (∀ k,k<j→∀ (a:k<L.length),L[k]≠x)∧Hid (wr=w)) (fun i _=>n - (intOf i).toNat)
 case atStart=>exact ⟨0,Nat.zero_le _,rfl,fun k h=>by omega,rfl⟩
 case round=>
  obtain ⟨j,hj,rfl,R,B⟩:=hrel
  by_cases hlt:j<n
  ·have hj1:j<L.length:=by have:=HN.out;omega
   obtain ⟨b1,o1,hA1,p0⟩:=X.out.at_ hj1
   rw [← B.out] at p0
   subst hA1
   by_cases he:L[j]=x
   ·have T:Hid (x∈L):=he ▸ List.getElem_mem hj1
    have he':=he.symm
    rw [he] at p0
    clear he he' hj1 R
    go_wp2
    go_ret
    exact ⟨⟨_,rfl,by rw [decide_eq_true T.out];exact decide_eq_true (by omega)⟩,B.out⟩
   ·have R2:Hid (∀ k,k<j+1→∀ (a:k<L.length),L[k]≠x):=fun k hk a=>by
     by_cases e:k=j
     ·subst e;exact he
     ·exact R.out k (by omega) a
    obtain ⟨y,hy⟩:∃ y,L[j]=y:=⟨_,rfl⟩
    rw [hy] at p0 he
    have hne:(x == y)=false:=beq_eq_false_iff_ne.2 fun e=>he e.symm
    clear hy he hj1 R
    go_wp2
    go_roundw
    case rel=>exact ⟨j+1,by omega,by go_num,R2.out,B.out⟩
    case measure=>simp [intOf];omega
  ·have T:Hid (x∉L):=fun hm=>by
    obtain ⟨k,hk,he⟩:=List.getElem_of_mem hm
    exact R.out k (by have:=HN.out;omega) hk he
   clear R
   go_wp2
   go_ret
   exact ⟨⟨_,rfl,by rw [decide_eq_false T.out];rfl⟩,B.out⟩
theorem containsI_any (A:Option Addr) (c n:Nat) (L:List Int) (hn:L.length=n) (hL:n≤1000) (x:Int) (w:World) (H:KsP w A L) :
  Calls Tryz.prog 78 #[.slice A n c,.int .i64 x] w fun e w'=>e=.returned (.bool (decide (x∈L)))∧w'=w:=by
 have IX:=Lib.hid (indexI_any A c n L hn hL x w H)
 obtain ⟨q,hq⟩:∃ q,decide (x∈L)=q:=⟨_,rfl⟩
 rw [hq] at IX ⊢
 clear H hq hn
 go_enter Tryz.func78,Tryz.ntmps78
 go_wp2_with fail
 refine IX.out.mono ?_
 rintro e w1 ⟨⟨i,rfl,hi⟩,rfl⟩
 have Q:=Lib.hid hi
 clear IX
 clear hi
 go_wp2
 go_ret
 exact ⟨ret_bool Q.out,rfl⟩
def VarA (w:World) (v:Value) (x:Vr):Prop:=∃ b1 b2 b3 A cap,v=.agg #[.func (.func 77) #[] #[.pointer (some ⟨b1,0,none⟩)],.func (.func 79) #[] #[.pointer (some ⟨b2,0,none⟩),.pointer (some ⟨b3,0,none⟩)]]∧
 Boxed w b1 80 (.slice A x.1.length cap)∧KsP w A x.1∧Boxed w b2 3 (.int .i64 x.2.1)∧Boxed w b3 3 (.int .i64 x.2.2)∧x.1.length≤1000
theorem Boxed.under {w w':World} {b:Nat} {t:TypeId} {v:Value} (h:Boxed w b t v) (hb:Below w.heap.size w w'):Boxed w' b t v:=(hb.block b h.lt).trans h
theorem VarA.below {w w':World} {v:Value} {x:Vr} (h:VarA w v x) (hb:Below w.heap.size w w'):VarA w' v x:=by
 obtain ⟨b1,b2,b3,A,cap,rfl,h1,h2,h3,h4,h5⟩:=h
 exact ⟨b1,b2,b3,A,cap,rfl,Boxed.under h1 hb,h2.below hb,Boxed.under h3 hb,Boxed.under h4 hb,h5⟩
theorem ofKinds_any (A:Option Addr) (n cap:Nat) (w:World):Calls Tryz.prog 53 #[.slice A n cap] w fun e w'=>e=.returned (.func (.func 77) #[] #[.pointer (some ⟨w.heap.size,0,none⟩)])∧w.alloc (.cells #[.slice A n cap] 80)=w':=by
 go_enter Tryz.func53,Tryz.ntmps53
 go_wp2
 go_ret
 exact ⟨rfl,rfl⟩
theorem within_any (lo hi:Int) (w:World):Calls Tryz.prog 54 #[.int .i64 lo,.int .i64 hi] w fun e w'=>e=.returned (.func (.func 79) #[] #[.pointer (some ⟨w.heap.size,0,none⟩),.pointer (some ⟨w.heap.size+1,0,none⟩)])∧(w.alloc (.cells #[.int .i64 lo] 3)).alloc (.cells #[.int .i64 hi] 3)=w':=by
 go_enter Tryz.func54,Tryz.ntmps54
 go_wp2
 go_ret
 exact ⟨rfl,rfl⟩
theorem isIn_any (b1:Nat) (A:Option Addr) (cap n:Nat) (L:List Int) (hn:L.length=n) (hL:n≤1000) (t:Tr) (w:World) (h1:Boxed w b1 80 (.slice A n cap)) (h2:KsP w A L) :
  Calls Tryz.prog 77 #[.agg #[.int .i64 t.1,.int .i64 t.2.1,.int .i64 t.2.2],.pointer (some ⟨b1,0,none⟩)] w fun e w'=>e=.returned (.bool (decide (t.1∈L)))∧Below w.heap.size w w':=by
 obtain ⟨t0,t1,t2⟩:=t
 simp only
 have hal:Below w.heap.size w (w.alloc (.cells #[.int .i64 t0,.int .i64 t1,.int .i64 t2] 50)):=(Below.refl _ _).alloc (Nat.le_refl _) _
 have C:=Lib.hid (containsI_any A cap n L hn hL t0 _ (h2.below hal))
 have c1:=(Boxed.under h1 hal).cell
 have hne:b1≠w.heap.size:=by have:=h1.lt;omega
 have B:=Lib.hid hal
 obtain ⟨q,hq⟩:∃ q,decide (t0∈L)=q:=⟨_,rfl⟩
 rw [hq] at C ⊢
 obtain ⟨wa,hwa⟩:∃ wa,w.alloc (.cells #[.int .i64 t0,.int .i64 t1,.int .i64 t2] 50)=wa:=⟨_,rfl⟩
 have n0:(w.alloc (.cells #[.int .i64 t0,.int .i64 t1,.int .i64 t2] 50)).heap[w.heap.size]?=some (.cells #[.int .i64 t0,.int .i64 t1,.int .i64 t2] 50 (0,0)):=World.alloc_heap_new w _
 rw [hwa] at c1 n0 C B
 have k0:=Lib.cell_of_heap n0 0
 have HW:=Lib.hid hwa
 clear hal h1 h2 hq hn n0 hwa
 go_enter Tryz.func77,Tryz.ntmps77
 go_upto_region 1 with fail
 rw [HW.out]
 go_wp2_with fail
 refine C.out.mono ?_
 rintro e w1 ⟨rfl,rfl⟩
 go_wp2
 go_ret
 exact ⟨rfl,B.out⟩
theorem fits_in (v:Vr) (n:Int):fitsB v.2.1 v.2.2 [n]=inV v n:=by
 unfold inV
 by_cases h:v.2.1≤n∧n≤v.2.2
 ·rw [fits1_yes _ _ _ h.1 h.2,decide_eq_true h.1,decide_eq_true h.2];rfl
 ·rw [fits1_no _ _ _ (by omega)]
  by_cases h1:v.2.1≤n
  ·rw [decide_eq_true h1,decide_eq_false (fun h2=>h ⟨h1,h2⟩)];rfl
  ·rw [decide_eq_false h1];rfl
theorem allows_any (b2 b3:Nat) (v:Vr) (n:Int) (w:World) (h1:Boxed w b2 3 (.int .i64 v.2.1)) (h2:Boxed w b3 3 (.int .i64 v.2.2)) :
  Calls Tryz.prog 79 #[.int .i64 n,.pointer (some ⟨b2,0,none⟩),.pointer (some ⟨b3,0,none⟩)] w fun e w'=>e=.returned (.bool (inV v n))∧Below w.heap.size w w':=by
 have hal:Below w.heap.size w (w.alloc (.cells #[.int .i64 n] 3)):=(Below.refl _ _).alloc (Nat.le_refl _) _
 have C:=Lib.hid (fit1_any v.2.1 v.2.2 n w.heap.size (inV v n) (fits_in v n) (w.alloc (.cells #[.int .i64 n] 3)) (by simp [go_sem]))
 have B:=Lib.hid hal
 have c1:=h1.cell
 have c2:=h2.cell
 obtain ⟨q,hq⟩:∃ q,inV v n=q:=⟨_,rfl⟩
 rw [hq] at C ⊢
 clear hal h1 h2 hq
 go_enter Tryz.func79,Tryz.ntmps79
 go_wp2_with fail
 refine C.out.mono ?_
 rintro e w1 ⟨rfl,rfl⟩
 go_wp2
 go_ret
 exact ⟨rfl,B.out⟩
end Go.Proofs.YtmnleknehjkmgaaGreatDoor
namespace Go.Mixed
open Go
theorem rowsIn_wide {n:Nat} {P:Program} {row:String} {args:Array Value} {w:World} {R:Value→World→Prop} (h:Rows P row args w R):RowsIn Fence.wide n P row args w R:=fun c cs _=>
 let ⟨v,w',r,s⟩:=h c cs;⟨v,w',r,stepsIn_wide.2 s⟩
theorem opsIn_of_ops {P:Program} {r n:Nat} {ops:Array Oper} {Q:Exit→Act→World→Prop} (hnd:∀ (i:Nat) (o:Oper),ops[i]?=some o→∀ c,o.op≠.defer c) (hQ:¬LetsOut Q) :
  ∀ (l:List Nat) (a:Act) (w:World),wpOps P ops Q l a w→wpOpsIn (Fence.wide.inRound r) n P ops Q l a w
 | [],a,w,h=>h
 | i :: rest,a,w,h=>by
  have ih:=opsIn_of_ops (P:=P) (r:=r) (n:=n) hnd hQ rest
  simp only [wpOps] at h
  simp only [wpOpsIn]
  cases ho:ops[i]? with
  | none=>simp only [ho] at h;exact ih _ _ h
  | some o=>
   simp only [ho] at h ⊢
   by_cases hw:Region.wanted o (yielded ops a.tmps)=true
   ·simp only [hw,if_true] at h ⊢
    rcases h with h | h
    ·refine ⟨fun _ _=>trivial,?_⟩
     rw [Oper.semAt_eq _ _ _ (hnd i o ho)]
     unfold Oper.wp at h
     generalize (execOp a.eval o).run P w=rs at *
     cases rs with
     | ok x w'=>
      cases x <;> simp only [Oper.upon] at h
      case value v=>exact ih _ _ h
      case skip=>exact ih _ _ h
      case defer d=>exact ih _ _ h
      case enter f args=>
       refine ⟨fun h=>(by cases h),CallsIn.inRound r (callsIn_wide.2 (h.mono fun e w'' he=>?_))⟩
       cases e with
       | returned v=>exact ih _ _ he
       | panicked c=>exact he
       | outgrown=>exact he
      case row row args=>
       refine ⟨fun h=>(by cases h),?_⟩
       have h2:=rowsIn_wide (n:=n - 1) (h.mono fun v w'' hv=>ih _ _ hv)
       exact h2
     | halt x w'=>
      cases x <;> simp only [Oper.upon] at h
      case panic v=>exact h
    ·exact absurd h.2 hQ
   ·have hw':Region.wanted o (yielded ops a.tmps)=false:=by simpa using hw
    simp only [hw',Bool.false_eq_true,if_false] at h ⊢
    exact ⟨fun _ _=>trivial,ih _ _ h⟩
def noDefer (l:List Oper):Bool:=l.all fun o=>match o.op with | .defer _=>false | _=>true
theorem noDefer_spec {l:List Oper} (h:noDefer l=true):∀ (i:Nat) (o:Oper),l.toArray[i]?=some o→∀ c,o.op≠.defer c:=fun i o ho c e=>by
 have hm:o∈l:=by
  have:=Array.mem_of_getElem? ho
  simpa using this
 have:=List.all_eq_true.1 h o hm
 rw [e] at this
 cases this
theorem wpIn_region_mixed {id r m:Nat} {P:Program} {Q:Exit→Act→World→Prop} {a:Act} {w:World} {l:List Oper} (C:World→Prop) (n:Nat) (ord:List (Nat×Bool)) (hm:P.follows .mixedOrders=true) (hQ:¬LetsOut Q) (hd:noDefer l=true) (hB:mixedB .any l.toArray n ord=true)
  (hC:C w.drew) (h:wpMix P l.toArray C (fun a' w'=>wpList P l.toArray Q (l.drop n) a' w') ord a w.drew):(Code.region id l.toArray true).wpIn (Fence.wide.inRound r) m P Q a w:=by
 simp only [mixedB,Bool.and_eq_true,decide_eq_true_eq] at hB
 obtain ⟨⟨⟨⟨⟨hsel,hn⟩,hlen⟩,hs⟩,hc⟩,hord⟩:=hB
 have hdl:(l.drop n).length=l.toArray.size - n:=by simp
 have inv0:HeadInv .any l.toArray n (Array.replicate l.toArray.size false):=
  ⟨by simp,fun j oj _ hl=>(by rw [getD_replicate_false] at hl;cases hl),fun t _ ht=>getD_in (by simpa using ht) (getD_replicate_false _ _)⟩
 have H:=wpAnyC_ord hsel hs hc hn ord _ a w.drew inv0 hord hC h
 have h3:=wpAny_of_headC (Q':=Q) (g:=l.toArray.size - n) (fun listed a' w' hL=>by
  have:=wpAny_of_seq (md:=.any) (Q':=Q) (l.drop n) n listed a' w' (fun j=>by simp [List.getElem?_drop]) (by rw [hdl];exact hL.1) hL.2
  rwa [hdl] at this) _ _ _ _ H
 rw [hlen] at h3
 refine wpIn_region_draw fun t=>opsIn_of_ops (noDefer_spec hd) hQ _ _ _ ?_
 simp only [Region.schedule,hm,Bool.true_or,if_true]
 exact wpAny_sound _ t _ a _ h3
end Go.Mixed
namespace Go.Each
open Go Go.RowKit
def Gives {α:Type} (F:Fence) (n:Nat) (P:Program) (g:Nat) (lb:Array Value) (encs:α→Array Value) (E:α→World→Prop) (Kp:World→World→Prop) (S:List α→Prop) (N:Nat) (w:World):Prop:=
 ∀ (l:Nat) (J:List α→World→Prop) (W:World),Below w.heap.size w W→AbidesFrom W.heap.size J→
  (∀ pre x W1,J pre W1→E x W1→pre.length<N→YieldAt F (n - 1) P l (encs x) W1 fun e W'=>e=.returned (.bool true)∧J (pre++[x]) W'∧Kp W1 W')→
  J [] W→CallsIn F n P g (#[.func (.yield l) #[] #[]]++lb) W fun e W'=>(∃ v,e=.returned v)∧∃ xs,S xs∧J xs W'
def goesOn (K:World→Prop):Exit→Act→World→Prop
 | .normal,_,W'=>K W'
 | .ret,_,_=>False
 | .exit _,_,_=>False
 | .goto _,_,_=>False
 | .panic _,_,_=>False
 | .outgrown,_,_=>False
variable {F:Fence} {n:Nat} {P:Program}
end Go.Each
namespace Go.Stops
open Go Go.RowKit
def Apart {β:Type} (Bs:Nat) (J:β→World→Prop):Prop:=∀ s X Y,J s X→X.grownBy Y (some Bs)→J s Y
def Tells {α:Type} (F:Fence) (n:Nat) (P:Program) (g:Nat) (lb:Array Value) (encs:α→Array Value) (E:List α→α→Prop) (Bs:Nat) (Kp:World→World→Prop) (S:List α→Prop) (w:World):Prop:=
 ∀ (l:Nat) (J Jx:List α→World→Prop) (W:World),Below w.heap.size w W→AbidesFrom W.heap.size J→Apart Bs J→
  (∀ pre x W1,J pre W1→E pre x→YieldAt F (n - 1) P l (encs x) W1 fun e W'=>(e=.returned (.bool true)∧J (pre++[x]) W'∧Kp W1 W')∨(e=.returned (.bool false)∧Jx (pre++[x]) W'))→
  AbidesFrom W.heap.size Jx→J [] W→CallsIn F n P g (#[.func (.yield l) #[] #[]]++lb) W fun e W'=>(∃ v,e=.returned v)∧((∃ xs,S xs∧J xs W')∨∃ pre,Jx pre W')
def endsSo {α:Type} (B:Nat) (Kp:World→World→Prop) (I Ix:List α→World→Prop) (xs:List α) (W:World):Exit→Act→World→Prop
 | .normal,_,W'=>KeepsFrom B W W'∧Kp W W'∧I xs W'
 | .ret,_,W'=>KeepsFrom B W W'∧Ix xs W'
 | .exit _,_,_=>False
 | .goto _,_,_=>False
 | .panic _,_,_=>False
 | .outgrown,_,_=>False
variable {F:Fence} {n:Nat} {P:Program}
theorem wpIn_tellsA {α:Type} {g:Operand} {ps:Array Tmp} {assign body:Code} {Q:Exit→Act→World→Prop} {a:Act} {w:World} (hro:F.round=none) (h1:1≤n)
  {gf:Nat} {lb:Array Value} (hg:a.eval g=.func (.func gf) #[] lb) (hFg:F.fn gf) (eg:∀ args w,(callFunc gf args).run P w=.ok (.enter gf args) w)
  {encs:α→Array Value} {E:List α→α→Prop} {Bs:Nat} {Kp:World→World→Prop} {S:List α→Prop} (hseq:Tells F (n - 1) P gf lb encs E Bs Kp S w) (hBs:Bs<w.heap.size)
  (hKt:∀ {A B C:World},Kp A B→Kp B C→Kp A C) (hKb:∀ (W:World) (l:Nat) (o o':Obj),w.heap.size≤l→W.heap[l]?=some o→o.isCells=false→Kp W (W.putObj l o')) (hps:∀ x,(encs x).size=ps.size)
  (I Ix:List α→World→Prop) (hI:OwnFrom w.heap.size I) (hIB:Apart Bs I) (hIx:OwnFrom w.heap.size Ix) (h0:I [] w) (Ax:α→Act→World→Prop) (hAx:∀ x,OwnFrom w.heap.size (Ax x))
  (hassign:∀ (l:Nat) (pre:List α) (x:α) (W:World) (K:Act→World→Prop),I pre W→E pre x→(∀ a' W',KeepsFrom w.heap.size W W'→Kp W W'→I pre W'→Ax x a' W'→K a' W')→
   assign.wpIn (F.inRound l) (n - 1 - 1) P (Exit.then K (fun _ _ _=>False)) {tmps:=(ps.zip (encs x)).foldl (fun t (p,v)=>t.setIfInBounds p v) a.tmps,defers:=[]} W)
  (hbody:∀ (l:Nat) (pre:List α) (x:α) (a':Act) (W:World),I pre W→Ax x a' W→E pre x→body.wpIn (F.inRound l) (n - 1 - 1) P (endsSo w.heap.size Kp I Ix (pre++[x]) W) a' W)
  (hdone:∀ (D:Nat) (xs:List α) (W:World),w.heap.size≤D→S xs→I xs W→W.heap[D]?=some (.deferred (some []))→Q .normal {a with defers:={target:=.collected D,args:=#[]} :: a.defers} W)
  (hstop:∀ (D:Nat) (pre:List α) (W:World),w.heap.size≤D→Ix pre W→W.heap[D]?=some (.deferred (some []))→Code.ret.wpIn F n P Q {a with defers:={target:=.collected D,args:=#[]} :: a.defers} W) :
  (Code.rangeFunc g ps assign body).wpIn F n P Q a w:=by
 refine wpIn_rangeFunc fun fn hfn=>?_
 rw [hro]
 let R:LoopState→Option Code→Loop:=fun st j=>{state:=st,pending:=j,fn:=fn,tmps:=a.tmps,params:=ps,assign:=assign,body:=body,defers:=w.heap.size}
 let B:World:=(w.alloc (.deferred (some []))).alloc (.loop (R .ready none))
 have bD:B.heap[w.heap.size]?=some (.deferred (some [])):=(Below.heap_alloc _ _ _ (by simp)).trans (World.alloc_heap_new w _)
 have bL:B.heap[w.heap.size+1]?=some (.loop (R .ready none)):=by
  have h:=World.alloc_heap_new (w.alloc (.deferred (some []))) (.loop (R .ready none))
  rwa [World.size_alloc] at h
 have bI:I [] B:=hI.alloc _ (hI.alloc _ h0)
 have bB:Below w.heap.size w B:=((Below.refl _ w).alloc (Nat.le_refl _) _).alloc (by simp) _
 have bz:B.heap.size=w.heap.size+1+1:=by simp [B]
 -- what a turn of a walk of the iterator's own leaves of the two blocks
 have walk:∀ {X Y:World} {row:Option Nat} {k:Nat} {o:Obj},X.grownBy Y row→(∀ r,row=some r→B.heap.size≤r∧∃ o:Obj,X.heap[r]?=some o∧o.isWalk=true)→X.heap[k]?=some o→k<w.heap.size+2→Y.heap[k]?=some o:=fun hg' hr hk hlt=>
  (hg'.block _ (Array.getElem?_eq_some_iff.1 hk).1 fun e=>by have:=(hr _ e.symm).1;omega).trans hk
 have cells:∀ {X Y:World} {row:Option Nat},(∀ r,row=some r→B.heap.size≤r∧∃ o:Obj,X.heap[r]?=some o∧o.isWalk=true)→(∀ r,row=some r→w.heap.size≤r∧∃ o:Obj,X.heap[r]?=some o∧o.isCells=false):=fun hr r e=>by
  obtain ⟨k1,o,k2,k3⟩:=hr r e
  exact ⟨by omega,o,k2,Obj.not_cells_of_walk k3⟩
 refine ⟨w.heap.size+1,[{target:=.collected w.heap.size,args:=#[]}],B,{target:=.fn (.func gf) lb,args:=#[.func (.yield (w.heap.size+1)) #[] #[]]},B,gf,#[.func (.yield (w.heap.size+1)) #[] #[]]++lb,B,
  run_enterLoop_outer _ _ _ _ _,by simp only [resolve,hg];simp [go_sem],fun f' hf'=>by simp [Target.leads] at hf';subst hf';exact hFg,by simp [invoke,go_sem,eg],fun _=>h1,?_⟩
 refine (hseq (w.heap.size+1) (fun pre W=>I pre W∧W.heap[w.heap.size+1]?=some (.loop (R .ready none))∧W.heap[w.heap.size]?=some (.deferred (some [])))
  (fun pre W=>Ix pre W∧W.heap[w.heap.size+1]?=some (.loop (R .done (some .ret)))∧W.heap[w.heap.size]?=some (.deferred (some []))) B bB ?_ ?_ ?_ ?_ ⟨bI,bL,bD⟩).mono ?_
 ·rintro s X Y row ⟨s1,s2,s3⟩ hg' hr
  exact ⟨hI s X Y row s1 hg' (cells (Y:=Y) hr),walk hg' hr s2 (by omega),walk hg' hr s3 (by omega)⟩
 ·rintro s X Y ⟨s1,s2,s3⟩ hg'
  have q:∀ {k:Nat} {o:Obj},w.heap.size≤k→X.heap[k]?=some o→Y.heap[k]?=some o:=fun hk ho=>(hg'.block _ (Array.getElem?_eq_some_iff.1 ho).1 fun e=>by have:=Option.some.inj e;omega).trans ho
  exact ⟨hIB s X Y s1 hg',q (by omega) s2,q (Nat.le_refl _) s3⟩
 ·rintro pre x W ⟨s1,s2,s3⟩ hx
  refine ⟨fn,_,assign,body,run_yield (P:=P) (args:=encs x) s2 (hps x),roundIn_of_wpIn hfn (hassign _ pre x W _ s1 hx fun a' U u1 uK uI uA=>?_)⟩
  have u2:=u1.same _ _ (by omega) s2 rfl
  have u3:=u1.same _ _ (Nat.le_refl _) s3 rfl
  have hlu:w.heap.size+1<U.heap.size:=(Array.getElem?_eq_some_iff.1 u2).1
  refine ⟨_,run_beginRound u2 rfl,?_⟩
  obtain ⟨V,hV⟩:∃ V,U.putObj (w.heap.size+1) (.loop {R .ready none with state:=.busy})=V:=⟨_,rfl⟩
  have v2:V.heap[w.heap.size+1]?=some (.loop {R .ready none with state:=.busy}):=hV ▸ World.putObj_heap_same hlu
  have v3:V.heap[w.heap.size]?=some (.deferred (some [])):=hV ▸ (World.putObj_heap_other (by omega)).trans u3
  have vI:I pre V:=hV ▸ hI.putObj _ uI (by omega) u2 rfl
  have vE:Ax x a' V:=hV ▸ (hAx x).putObj _ uA (by omega) u2 rfl
  have vK:Kp W V:=hKt uK (hV ▸ hKb _ _ _ _ (by omega) u2 rfl)
  show body.wpIn _ _ _ _ _ (U.putObj (w.heap.size+1) (.loop {R .ready none with state:=.busy}))
  rw [hV]
  refine wpIn_mono (hbody _ pre x a' V vI vE hx) ?_
  rintro (_ | _ | _ | _ | _ | _) a3 Z hz
  case normal=>
   obtain ⟨z1,z2,z3⟩:=hz
   have l3:=z1.same _ _ (by omega) v2 rfl
   exact ⟨_,_,run_endRound (P:=P) none l3,.inl ⟨rfl,⟨hI.putObj _ z3 (by omega) l3 rfl,World.putObj_heap_same (Array.getElem?_eq_some_iff.1 l3).1,(World.putObj_heap_other (by omega)).trans (z1.same _ _ (Nat.le_refl _) v3 rfl)⟩,hKt (hKt vK z2) (hKb _ _ _ _ (by omega) l3 rfl)⟩⟩
  case ret=>
   obtain ⟨z1,z3⟩:=hz
   have l3:=z1.same _ _ (by omega) v2 rfl
   exact ⟨_,_,run_endRound (P:=P) (some .ret) l3,.inr ⟨rfl,hIx.putObj _ z3 (by omega) l3 rfl,World.putObj_heap_same (Array.getElem?_eq_some_iff.1 l3).1,(World.putObj_heap_other (by omega)).trans (z1.same _ _ (Nat.le_refl _) v3 rfl)⟩⟩
  all_goals exact hz.elim
 ·rintro s X Y row ⟨s1,s2,s3⟩ hg' hr
  exact ⟨hIx s X Y row s1 hg' (cells (Y:=Y) hr),walk hg' hr s2 (by omega),walk hg' hr s3 (by omega)⟩
 ·rintro e Z ⟨⟨v,rfl⟩,(⟨xs,hS,z1,z2,z3⟩ | ⟨pre,z1,z2,z3⟩)⟩
  ·exact ⟨none,_,run_endLoop (P:=P) z2 (by simp [R]),hdone _ xs _ (Nat.le_refl _) hS (hI.putObj _ z1 (by omega) z2 rfl) ((World.putObj_heap_other (by omega)).trans z3)⟩
  ·exact ⟨some .ret,_,run_endLoop (P:=P) z2 (by simp [R]),hstop _ pre _ (Nat.le_refl _) (hIx.putObj _ z1 (by omega) z2 rfl) ((World.putObj_heap_other (by omega)).trans z3)⟩
end Go.Stops
namespace Go.Stops
open Go Go.RowKit
def TellsW {α:Type} (F:Fence) (n:Nat) (P:Program) (g:Nat) (lb:Array Value) (encs:α→Array Value) (E:List α→α→World→Prop) (Kp:World→World→Prop) (S:List α→Prop) (w:World):Prop:=
 ∀ (l:Nat) (J Jx:List α→World→Prop) (W:World),Below w.heap.size w W→AbidesFrom W.heap.size J→
  (∀ pre x W1,J pre W1→E pre x W1→YieldAt F (n - 1) P l (encs x) W1 fun e W'=>(e=.returned (.bool true)∧J (pre++[x]) W'∧Kp W1 W')∨(e=.returned (.bool false)∧Jx (pre++[x]) W'))→
  AbidesFrom W.heap.size Jx→J [] W→CallsIn F n P g (#[.func (.yield l) #[] #[]]++lb) W fun e W'=>(∃ v,e=.returned v)∧((∃ xs,S xs∧J xs W')∨∃ pre,Jx pre W')
variable {F:Fence} {n:Nat} {P:Program}
theorem wpIn_tellsW {α:Type} {g:Operand} {ps:Array Tmp} {assign body:Code} {Q:Exit→Act→World→Prop} {a:Act} {w:World} (hro:F.round=none) (h1:1≤n)
  {gf:Nat} {lb:Array Value} (hg:a.eval g=.func (.func gf) #[] lb) (hFg:F.fn gf) (eg:∀ args w,(callFunc gf args).run P w=.ok (.enter gf args) w)
  {encs:α→Array Value} {E:List α→α→World→Prop} {Kp:World→World→Prop} {S:List α→Prop} (hseq:TellsW F (n - 1) P gf lb encs E Kp S w)
  (hKt:∀ {A B C:World},Kp A B→Kp B C→Kp A C) (hKb:∀ (W:World) (l:Nat) (o o':Obj),w.heap.size≤l→W.heap[l]?=some o→o.isCells=false→Kp W (W.putObj l o')) (hps:∀ x,(encs x).size=ps.size)
  (I Ix:List α→World→Prop) (hI:OwnFrom w.heap.size I) (hIx:OwnFrom w.heap.size Ix) (h0:I [] w) (Ax:List α→α→Act→World→Prop) (hAx:∀ p x,OwnFrom w.heap.size (Ax p x))
  (hassign:∀ (l:Nat) (pre:List α) (x:α) (W:World) (K:Act→World→Prop),I pre W→E pre x W→(∀ a' W',KeepsFrom w.heap.size W W'→Kp W W'→I pre W'→Ax pre x a' W'→K a' W')→
   assign.wpIn (F.inRound l) (n - 1 - 1) P (Exit.then K (fun _ _ _=>False)) {tmps:=(ps.zip (encs x)).foldl (fun t (p,v)=>t.setIfInBounds p v) a.tmps,defers:=[]} W)
  (hbody:∀ (l:Nat) (pre:List α) (x:α) (a':Act) (W:World),I pre W→Ax pre x a' W→body.wpIn (F.inRound l) (n - 1 - 1) P (endsSo w.heap.size Kp I Ix (pre++[x]) W) a' W)
  (hdone:∀ (D:Nat) (xs:List α) (W:World),w.heap.size≤D→S xs→I xs W→W.heap[D]?=some (.deferred (some []))→Q .normal {a with defers:={target:=.collected D,args:=#[]} :: a.defers} W)
  (hstop:∀ (D:Nat) (pre:List α) (W:World),w.heap.size≤D→Ix pre W→W.heap[D]?=some (.deferred (some []))→Code.ret.wpIn F n P Q {a with defers:={target:=.collected D,args:=#[]} :: a.defers} W) :
  (Code.rangeFunc g ps assign body).wpIn F n P Q a w:=by
 refine wpIn_rangeFunc fun fn hfn=>?_
 rw [hro]
 let R:LoopState→Option Code→Loop:=fun st j=>{state:=st,pending:=j,fn:=fn,tmps:=a.tmps,params:=ps,assign:=assign,body:=body,defers:=w.heap.size}
 let B:World:=(w.alloc (.deferred (some []))).alloc (.loop (R .ready none))
 have bD:B.heap[w.heap.size]?=some (.deferred (some [])):=(Below.heap_alloc _ _ _ (by simp)).trans (World.alloc_heap_new w _)
 have bL:B.heap[w.heap.size+1]?=some (.loop (R .ready none)):=by
  have h:=World.alloc_heap_new (w.alloc (.deferred (some []))) (.loop (R .ready none))
  rwa [World.size_alloc] at h
 have bI:I [] B:=hI.alloc _ (hI.alloc _ h0)
 have bB:Below w.heap.size w B:=((Below.refl _ w).alloc (Nat.le_refl _) _).alloc (by simp) _
 have bz:B.heap.size=w.heap.size+1+1:=by simp [B]
 -- what a turn of a walk of the iterator's own leaves of the two blocks
 have walk:∀ {X Y:World} {row:Option Nat} {k:Nat} {o:Obj},X.grownBy Y row→(∀ r,row=some r→B.heap.size≤r∧∃ o:Obj,X.heap[r]?=some o∧o.isWalk=true)→X.heap[k]?=some o→k<w.heap.size+2→Y.heap[k]?=some o:=fun hg' hr hk hlt=>
  (hg'.block _ (Array.getElem?_eq_some_iff.1 hk).1 fun e=>by have:=(hr _ e.symm).1;omega).trans hk
 have cells:∀ {X Y:World} {row:Option Nat},(∀ r,row=some r→B.heap.size≤r∧∃ o:Obj,X.heap[r]?=some o∧o.isWalk=true)→(∀ r,row=some r→w.heap.size≤r∧∃ o:Obj,X.heap[r]?=some o∧o.isCells=false):=fun hr r e=>by
  obtain ⟨k1,o,k2,k3⟩:=hr r e
  exact ⟨by omega,o,k2,Obj.not_cells_of_walk k3⟩
 refine ⟨w.heap.size+1,[{target:=.collected w.heap.size,args:=#[]}],B,{target:=.fn (.func gf) lb,args:=#[.func (.yield (w.heap.size+1)) #[] #[]]},B,gf,#[.func (.yield (w.heap.size+1)) #[] #[]]++lb,B,
  run_enterLoop_outer _ _ _ _ _,by simp only [resolve,hg];simp [go_sem],fun f' hf'=>by simp [Target.leads] at hf';subst hf';exact hFg,by simp [invoke,go_sem,eg],fun _=>h1,?_⟩
 refine (hseq (w.heap.size+1) (fun pre W=>I pre W∧W.heap[w.heap.size+1]?=some (.loop (R .ready none))∧W.heap[w.heap.size]?=some (.deferred (some [])))
  (fun pre W=>Ix pre W∧W.heap[w.heap.size+1]?=some (.loop (R .done (some .ret)))∧W.heap[w.heap.size]?=some (.deferred (some []))) B bB ?_ ?_ ?_ ⟨bI,bL,bD⟩).mono ?_
 ·rintro s X Y row ⟨s1,s2,s3⟩ hg' hr
  exact ⟨hI s X Y row s1 hg' (cells (Y:=Y) hr),walk hg' hr s2 (by omega),walk hg' hr s3 (by omega)⟩
 ·rintro pre x W ⟨s1,s2,s3⟩ hx
  refine ⟨fn,_,assign,body,run_yield (P:=P) (args:=encs x) s2 (hps x),roundIn_of_wpIn hfn (hassign _ pre x W _ s1 hx fun a' U u1 uK uI uA=>?_)⟩
  have u2:=u1.same _ _ (by omega) s2 rfl
  have u3:=u1.same _ _ (Nat.le_refl _) s3 rfl
  have hlu:w.heap.size+1<U.heap.size:=(Array.getElem?_eq_some_iff.1 u2).1
  refine ⟨_,run_beginRound u2 rfl,?_⟩
  obtain ⟨V,hV⟩:∃ V,U.putObj (w.heap.size+1) (.loop {R .ready none with state:=.busy})=V:=⟨_,rfl⟩
  have v2:V.heap[w.heap.size+1]?=some (.loop {R .ready none with state:=.busy}):=hV ▸ World.putObj_heap_same hlu
  have v3:V.heap[w.heap.size]?=some (.deferred (some [])):=hV ▸ (World.putObj_heap_other (by omega)).trans u3
  have vI:I pre V:=hV ▸ hI.putObj _ uI (by omega) u2 rfl
  have vE:Ax pre x a' V:=hV ▸ (hAx pre x).putObj _ uA (by omega) u2 rfl
  have vK:Kp W V:=hKt uK (hV ▸ hKb _ _ _ _ (by omega) u2 rfl)
  show body.wpIn _ _ _ _ _ (U.putObj (w.heap.size+1) (.loop {R .ready none with state:=.busy}))
  rw [hV]
  refine wpIn_mono (hbody _ pre x a' V vI vE) ?_
  rintro (_ | _ | _ | _ | _ | _) a3 Z hz
  case normal=>
   obtain ⟨z1,z2,z3⟩:=hz
   have l3:=z1.same _ _ (by omega) v2 rfl
   exact ⟨_,_,run_endRound (P:=P) none l3,.inl ⟨rfl,⟨hI.putObj _ z3 (by omega) l3 rfl,World.putObj_heap_same (Array.getElem?_eq_some_iff.1 l3).1,(World.putObj_heap_other (by omega)).trans (z1.same _ _ (Nat.le_refl _) v3 rfl)⟩,hKt (hKt vK z2) (hKb _ _ _ _ (by omega) l3 rfl)⟩⟩
  case ret=>
   obtain ⟨z1,z3⟩:=hz
   have l3:=z1.same _ _ (by omega) v2 rfl
   exact ⟨_,_,run_endRound (P:=P) (some .ret) l3,.inr ⟨rfl,hIx.putObj _ z3 (by omega) l3 rfl,World.putObj_heap_same (Array.getElem?_eq_some_iff.1 l3).1,(World.putObj_heap_other (by omega)).trans (z1.same _ _ (Nat.le_refl _) v3 rfl)⟩⟩
  all_goals exact hz.elim
 ·rintro s X Y row ⟨s1,s2,s3⟩ hg' hr
  exact ⟨hIx s X Y row s1 hg' (cells (Y:=Y) hr),walk hg' hr s2 (by omega),walk hg' hr s3 (by omega)⟩
 ·rintro e Z ⟨⟨v,rfl⟩,(⟨xs,hS,z1,z2,z3⟩ | ⟨pre,z1,z2,z3⟩)⟩
  ·exact ⟨none,_,run_endLoop (P:=P) z2 (by simp [R]),hdone _ xs _ (Nat.le_refl _) hS (hI.putObj _ z1 (by omega) z2 rfl) ((World.putObj_heap_other (by omega)).trans z3)⟩
  ·exact ⟨some .ret,_,run_endLoop (P:=P) z2 (by simp [R]),hstop _ pre _ (Nat.le_refl _) (hIx.putObj _ z1 (by omega) z2 rfl) ((World.putObj_heap_other (by omega)).trans z3)⟩
end Go.Stops
namespace Go.Proofs.YtmnleknehjkmgaaGreatDoor
open Go.RowKit Go.Shelf
attribute [local go_sem] Oper.semAt_some
def MaxAt (w:World):Prop:=∃ m,w.cell? ⟨0,0,none⟩=some (.int .i64 m)
theorem MaxAt.lt {w:World} (h:MaxAt w):0 < w.heap.size:=by
 obtain ⟨m,h⟩:=h
 exact World.block_lt_of_cell? w _ h
theorem MaxAt.below {w w':World} (h:MaxAt w) (hb:Below w.heap.size w w'):MaxAt w':=by
 have hl:=h.lt
 obtain ⟨m,h⟩:=h
 exact ⟨m,(hb.cell hl).trans h⟩
theorem MaxAt.belowN {w w':World} {n:Nat} (h:MaxAt w) (hb:Below n w w') (hn:0 < n):MaxAt w':=by
 obtain ⟨m,h⟩:=h
 exact ⟨m,(hb.cell hn).trans h⟩
theorem cut_any (l sep:Str) (hl:l.length≤100000) (w:World) (hM:MaxAt w) :
  Calls Tryz.prog 132 #[.string (sB l),.string (sB sep)] w fun e w'=>e=.returned (.tuple #[.string (sB (cutL sep l).1),.string (sB (cutL sep l).2.1),.bool (cutL sep l).2.2])∧∃ n,w'=w.drewN n:=by
 obtain ⟨m,hm⟩:=hM
 have h:=Tryz.strings_Cut (sB l) (sB sep) m w (by rw [sB_size];omega) hm
 rw [cut_cutL] at h
 exact h
theorem sB_nil (l:Str):((sB l).toList == ([]:List UInt8))=l.isEmpty:=by
 rw [ByteArray.toList_eq]
 cases l <;> rfl
def patsOf (l:Str):List Pat:=patsF l.length l
theorem patsF_nil (n:Nat):patsF n []=[]:=by cases n <;> rfl
theorem patterns_any (l:Str) (w:World) :
  Calls Tryz.prog 97 #[.string (sB l)] w fun e w'=>e=.returned (.func (.func 131) #[] #[.pointer (some ⟨w.heap.size,0,none⟩)])∧w.alloc (.cells #[.string (sB l)] 9)=w':=by
 go_enter Tryz.func97,Tryz.ntmps97
 go_wp2
 go_ret
 exact ⟨rfl,rfl⟩
def strSz:Value→Nat
 | .string s=>s.size
 | _=>0
def KeepM (W W':World):Prop:=W'.cell? ⟨0,0,none⟩=W.cell? ⟨0,0,none⟩
theorem KeepM.trans {A B C:World} (h:KeepM A B) (k:KeepM B C):KeepM A C:=Eq.trans k h
theorem KeepM.max {A B:World} (h:KeepM A B) (k:MaxAt A):MaxAt B:=by
 obtain ⟨m,k⟩:=k
 exact ⟨m,Eq.trans h k⟩
theorem patterns1_tells (n:Nat) (Bs:Nat) (l:Str) (hl:l.length≤100000) (w:World) (hs:Boxed w Bs 9 (.string (sB l))) (hM:MaxAt w) :
  Stops.Tells Fence.wide n Tryz.prog 131 #[.pointer (some ⟨Bs,0,none⟩)] (fun x:Pat=>#[.agg #[.string (sB x.1),.string (sB x.2)]]) (fun pre x=>pre++[x] <+: patsOf l) Bs KeepM (fun ys=>ys=patsOf l) w:=fun lp J Jx W hW hJ hJB hY hJx h0=>by
 have hJd:∀ (m:Nat) (z:List Pat) (X:World),J z X→J z (X.drewN m):=fun m z X h=>hJ z X _ none h ⟨rfl,rfl,rfl,Nat.le_refl _,fun _ _ _=>rfl⟩ (fun r e=>by cases e)
 have kb:Boxed W Bs 9 (.string (sB l)):=(hW.block Bs hs.lt).trans hs
 have hc:=kb.cell
 have M0:Hid (MaxAt W):=hM.below hW
 have J0:=Lib.hid h0
 have HY:=Lib.hid hY
 have HJd:=Lib.hid hJd
 have HL:=Lib.hid hl
 clear hl h0 hY hJB hJd hJ hJx hW hs hM kb
 refine callsIn_wide.2 ?_
 show Calls Tryz.prog 131 #[.func (.yield lp) #[] #[],.pointer (some ⟨Bs,0,none⟩)] W _
 go_enter Tryz.func131,Tryz.ntmps131
 go_wp2
 go_loopw [3] (fun r wr=>∃ (pre:List Pat) (l':Str) (k:Nat),r=.string (sB l')∧l'.length≤k∧l'.length≤l.length∧Hid (pre++patsF k l'=patsOf l)∧Hid (MaxAt wr)∧Hid (J pre wr)) (fun r _=>strSz r)
 case atStart=>exact ⟨[],l,l.length,rfl,Nat.le_refl _,Nat.le_refl _,rfl,M0.out,J0.out⟩
 case round=>
  clear M0 J0 hc
  obtain ⟨pre,l',k,rfl,hk,hle,EQ,MA,JJ⟩:=hrel
  by_cases hemp:l'=[]
  ·subst hemp
   have hn:=sB_nil []
   have P:Hid (pre=patsOf l):=by
    have h:=EQ.out
    rw [patsF_nil,List.append_nil] at h
    exact h
   go_wp2
   go_end0
   have h:=JJ.out
   exact ⟨⟨_,rfl⟩,.inl ⟨_,P.out,h⟩⟩
  ·have hn:=sB_nil l'
   rw [List.isEmpty_eq_false_iff.2 hemp] at hn
   have hl':l'.length≤100000:=by have:=HL.out;omega
   have h0':0<l'.length:=List.length_pos_iff.2 hemp
   obtain ⟨k,rfl⟩:∃ j,k=j+1:=⟨k - 1,by omega⟩
   have c1:=cutL_lt [59,32] l' (by decide) h0'
   have hcut:=cut_any l' [59,32] hl' wr MA.out
   have hcut2:=cut_any (cutL [59,32] l').1 [32] (by omega)
   obtain ⟨row,hrow⟩:∃ r,(cutL [59,32] l').1=r:=⟨_,rfl⟩
   obtain ⟨rest,hrest⟩:∃ r,(cutL [59,32] l').2.1=r:=⟨_,rfl⟩
   have EQ2:Hid ((pre++[rowP row])++patsF k rest=patsOf l):=by
    have h:=EQ.out
    rw [patsF,if_neg (by simpa using hemp),hrow,hrest] at h
    rw [List.append_assoc]
    exact h
   have LT:Hid (rest.length<l'.length):=by rw [← hrest];exact c1.1
   have S0:Hid (strSz (.string (sB l'))=l'.length):=sB_size l'
   have S1:Hid (strSz (.string (sB rest))=rest.length):=sB_size rest
   rw [hrow,hrest] at hcut
   rw [hrow] at hcut2
   have PF:pre++[rowP row] <+: patsOf l:=by rw [← EQ2.out];exact List.prefix_append _ _
   have PF:=Lib.hid PF
   clear EQ c1 hrow hrest hemp
   go_wp2_with fail
   refine hcut.mono ?_
   rintro e w' ⟨rfl,q,rfl⟩
   have M1:Hid (MaxAt (wr.drewN q)):=MA.out.below (below_drewN _ _ _)
   have J1:=Lib.hid (HJd.out q _ _ JJ.out)
   have hcut2:=hcut2 _ M1.out
   clear hcut
   go_wp2_with fail
   refine hcut2.mono ?_
   rintro e w' ⟨rfl,q2,rfl⟩
   have M2:Hid (MaxAt ((wr.drewN q).drewN q2)):=M1.out.below (below_drewN _ _ _)
   have J2:=Lib.hid (HJd.out q2 _ _ J1.out)
   clear hcut2 M1 J1 JJ MA
   obtain ⟨w2,hw2⟩:∃ w2,(wr.drewN q).drewN q2=w2:=⟨_,rfl⟩
   rw [hw2] at M2 J2 ⊢
   clear hw2
   have hyd:=HY.out pre (rowP row) w2 J2.out PF.out
   obtain ⟨fn,tmps,assign,body,hy,hR⟩:=hyd
   simp only [rowP] at hy
   go_upto_region 5 with fail
   refine (wpIn_wide (n:=n)).1 ?_
   gi_wp2
   refine ⟨fun h=>(by cases h),hR.mono ?_⟩
   rintro e3 W3 (⟨rfl,hJ3,hk3⟩ | ⟨rfl,hJx3⟩)
   ·have M3:Hid (MaxAt W3):=hk3.max M2.out
    have J3:=Lib.hid hJ3
    clear hJ3 hk3 hR hy
    gi_wp2
    go_wp2
    go_roundw
    case rel=>exact ⟨pre++[rowP row],rest,k,rfl,by have:=LT.out;omega,by have:=LT.out;omega,EQ2.out,M3.out,J3.out⟩
    case measure=>rw [S0.out,S1.out];exact LT.out
   ·clear hR hy
    gi_wp2
    go_wp2
    refine bodyPost_ret (results_none rfl _ _ _) rfl ?_
    exact ⟨⟨_,rfl⟩,.inr ⟨_,hJx3⟩⟩
end Go.Proofs.YtmnleknehjkmgaaGreatDoor
