/-
  OpE, OpF, OpG, OpH, OpI, OpJ, SeJ, SeRb, SeRc.
-/
import Derived.Test.YtoilebmbljpieaaGreatDoorGAC
import Derived.Test.YtoilebmbljpieaaGreatDoorMOpD
import Derived.Test.YtoilebmbljpieaaGreatDoorGAD
import Derived.Test.YtoilebmbljpieaaGreatDoorGAM
import Derived.Test.YtoilebmbljpieaaGreatDoorGAE
set_option linter.all false
set_option maxRecDepth 100000
set_option maxHeartbeats 4000000
namespace Go.Proofs.YtoilebmbljpieaaGreatDoor
open Go.RowKit
def offS (n:Int):ByteArray:=if n<0 then ⟨#[45]⟩++textS (-n) else ⟨#[43]⟩++textS n
def brS (s:ByteArray):ByteArray:=⟨#[40]⟩++s++⟨#[41]⟩
def formS (k:Nat) (s:ByteArray) (n:Int):ByteArray:=match k with
 | 4=>brS s
 | 5=>brS (s++offS n)
 | 6=>if n<0 then offS n else textS n
 | 7=>brS (textS n)
 | 10=>⟨#[36]⟩++offS (n+2)
 | _=>s
theorem textS_le (n:Int):(textS n).size≤6:=by
 have h:=digS_le n
 have h1:(digS n).data.toList.length=(digS n).size:=by simp
 unfold textS
 split
 ·show (#[]:Array UInt8).size≤6;simp
 ·split
  ·show (#[_]:Array UInt8).size≤6;simp
  ·split
   ·show ((digS n).data.toList++[72]).toArray.size≤6;rw [List.size_toArray,List.length_append,h1];simp;omega
   ·show (48 :: (digS n).data.toList++[72]).toArray.size≤6;rw [List.size_toArray,List.length_append,List.length_cons,h1];simp;omega
theorem offS_le (n:Int):(offS n).size≤7:=by
 unfold offS
 split
 ·have:=textS_le (-n);rw [ByteArray.size_append];show 1+_≤7;omega
 ·have:=textS_le n;rw [ByteArray.size_append];show 1+_≤7;omega
theorem brackets_any (s:ByteArray) (hs:s.size≤100) (w:World) :
  Calls Tryz.prog 198 #[.string s] w fun e w'=>e=.returned (.string (brS s))∧w=w':=by
 go_enter Tryz.func198,Tryz.ntmps198
 go_wp2
 go_ret
 exact ⟨rfl,rfl⟩
theorem offset_any (n:Int) (h0 : -100000≤n) (h1:n≤100000) (w:World) :
  Calls Tryz.prog 199 #[.int .i64 n] w fun e w'=>e=.returned (.string (offS n))∧Below w.heap.size w w':=by
 by_cases h:n<0
 ·have T:=Lib.hid (show ⟨#[45]⟩++textS (-n)=offS n by unfold offS;rw [if_pos h])
  go_enter Tryz.func199,Tryz.ntmps199
  go_wp2_with fail
  refine (text_any _ _).mono ?_
  rintro e w' ⟨rfl,hb⟩
  have N:=Lib.hid hb
  have zt:=textS_le n
  have zn:=textS_le (-n)
  clear hb
  go_wp2
  go_ret
  exact ⟨ret_str T.out,N.out⟩
 ·have T:=Lib.hid (show ⟨#[43]⟩++textS n=offS n by unfold offS;rw [if_neg h])
  go_enter Tryz.func199,Tryz.ntmps199
  go_wp2_with fail
  refine (text_any _ _).mono ?_
  rintro e w' ⟨rfl,hb⟩
  have N:=Lib.hid hb
  have zt:=textS_le n
  have zn:=textS_le (-n)
  clear hb
  go_wp2
  go_ret
  exact ⟨ret_str T.out,N.out⟩
theorem plain_any (s:ByteArray) (n:Int) (w:World) :
  Calls Tryz.prog 181 #[.string s,.int .i64 n] w fun e w'=>e=.returned (.string s)∧Below w.heap.size w w':=by
 go_enter Tryz.func181,Tryz.ntmps181
 go_wp2
 go_ret
 exact ⟨rfl,Below.refl _ _⟩
theorem pointer_any (s:ByteArray) (n:Int) (hs:s.size≤50) (w:World) :
  Calls Tryz.prog 185 #[.string s,.int .i64 n] w fun e w'=>e=.returned (.string (brS s))∧Below w.heap.size w w':=by
 go_enter Tryz.func185,Tryz.ntmps185
 go_wp2_with fail
 refine (brackets_any _ (by first | (rw [ByteArray.size_append];omega) | omega) _).mono ?_
 rintro e w' ⟨rfl,rfl⟩
 go_wp2
 go_ret
 exact ⟨rfl,Below.refl _ _⟩
theorem indexed_any (s:ByteArray) (n:Int) (hs:s.size≤50) (h0 : -100000≤n) (h1:n≤100000) (w:World) :
  Calls Tryz.prog 187 #[.string s,.int .i64 n] w fun e w'=>e=.returned (.string (brS (s++offS n)))∧Below w.heap.size w w':=by
 go_enter Tryz.func187,Tryz.ntmps187
 go_wp2_with fail
 refine (offset_any _ h0 h1 _).mono ?_
 rintro e w' ⟨rfl,hb⟩
 have N:=Lib.hid hb
 have zt:=textS_le n
 have zo:=offS_le n
 have zp:=offS_le (n+2)
 clear hb
 go_wp2_with fail
 refine (brackets_any _ (by first | (rw [ByteArray.size_append];omega) | omega) _).mono ?_
 rintro e w' ⟨rfl,rfl⟩
 go_wp2
 go_ret
 exact ⟨rfl,N.out⟩
theorem immediate_any (s:ByteArray) (n:Int) (h0 : -100000≤n) (h1:n≤100000) (w:World) :
  Calls Tryz.prog 189 #[.string s,.int .i64 n] w fun e w'=>e=.returned (.string (formS 6 s n))∧Below w.heap.size w w':=by
 by_cases h:n<0
 ·have T:=Lib.hid (show offS n=formS 6 s n by show _=if n<0 then offS n else textS n;rw [if_pos h])
  go_enter Tryz.func189,Tryz.ntmps189
  go_wp2_with fail
  refine (offset_any _ h0 h1 _).mono ?_
  rintro e w' ⟨rfl,hb⟩
  have N:=Lib.hid hb
  have zt:=textS_le n
  have zn:=textS_le (-n)
  clear hb
  go_wp2
  go_ret
  exact ⟨ret_str T.out,N.out⟩
 ·have T:=Lib.hid (show textS n=formS 6 s n by show _=if n<0 then offS n else textS n;rw [if_neg h])
  go_enter Tryz.func189,Tryz.ntmps189
  go_wp2_with fail
  refine (text_any _ _).mono ?_
  rintro e w' ⟨rfl,hb⟩
  have N:=Lib.hid hb
  have zt:=textS_le n
  have zn:=textS_le (-n)
  clear hb
  go_wp2
  go_ret
  exact ⟨ret_str T.out,N.out⟩
theorem memory_any (s:ByteArray) (n:Int) (w:World) :
  Calls Tryz.prog 190 #[.string s,.int .i64 n] w fun e w'=>e=.returned (.string (brS (textS n)))∧Below w.heap.size w w':=by
 go_enter Tryz.func190,Tryz.ntmps190
 go_wp2_with fail
 refine (text_any _ _).mono ?_
 rintro e w' ⟨rfl,hb⟩
 have N:=Lib.hid hb
 have zt:=textS_le n
 have zo:=offS_le n
 have zp:=offS_le (n+2)
 clear hb
 go_wp2_with fail
 refine (brackets_any _ (by first | (rw [ByteArray.size_append];omega) | omega) _).mono ?_
 rintro e w' ⟨rfl,rfl⟩
 go_wp2
 go_ret
 exact ⟨rfl,N.out⟩
theorem relative_any (s:ByteArray) (n:Int) (h0 : -1000≤n) (h1:n≤1000) (w:World) :
  Calls Tryz.prog 193 #[.string s,.int .i64 n] w fun e w'=>e=.returned (.string (⟨#[36]⟩++offS (n+2)))∧Below w.heap.size w w':=by
 go_enter Tryz.func193,Tryz.ntmps193
 go_wp2_with fail
 refine (offset_any (n+2) (by omega) (by omega) _).mono ?_
 rintro e w' ⟨rfl,hb⟩
 have N:=Lib.hid hb
 have zt:=textS_le n
 have zo:=offS_le n
 have zp:=offS_le (n+2)
 clear hb
 go_wp2
 go_ret
 exact ⟨rfl,N.out⟩
end Go.Proofs.YtoilebmbljpieaaGreatDoor
namespace Go.Proofs.YtoilebmbljpieaaGreatDoor
open Go.RowKit
def loK:Nat→Int
 | 5=>-128
 | 6=>-32768
 | 10=>-128
 | _=>0
def hiK:Nat→Int
 | 5=>127
 | 6=>65535
 | 7=>65535
 | 10=>127
 | _=>0
def regB (k:Nat) (r:Int):Bool:=match k with
 | 6=>r == 0
 | 7=>r == 0
 | 10=>r == 0
 | k=>neB (nmS k r)
def vldB (k r n:Int):Bool:=decide (1≤k)&&decide (k≤10)&&regB k.toNat r&&(decide (loK k.toNat≤n)&&decide (n≤hiK k.toNat))
def txtS (k r n:Int):ByteArray:=if vldB k r n then formS k.toNat (nmS k.toNat r) n else ⟨#[]⟩
theorem nmL_le:∀ k:Fin 11,∀ s∈nmL k.val,s.size≤3:=by decide +kernel
theorem nmS_le' (k:Fin 11) (r:Int):(nmS k.val r).size≤50:=by
 rcases atS_mem (nmL k.val) r with h | h
 ·unfold nmS;rw [h];decide
 ·have:=nmL_le k _ h;unfold nmS;omega
theorem nmS_le (k:Fin 11) (r:Int):(nmS k.val r).size≤50:=nmS_le' k r
def FindYes (k r n:Int):Prop:=
 ∃ (fn ff:FuncId) (lo hi:Int) (s:ByteArray),
  (∀ w,Calls Tryz.prog 149 #[.agg #[.int .i64 k,.int .i64 r,.int .i64 n]] w fun e w'=>
   e=.returned (.tuple #[.agg #[.func (.func fn) #[] #[],.int .i64 lo,.int .i64 hi,.func (.func ff) #[] #[]],.string s,.bool true])∧Below w.heap.size w w')∧
  (∀ args w,(callFunc ff args).run Tryz.prog w=.ok (.enter ff args) w)∧
  ∀ w,Calls Tryz.prog ff #[.string s,.int .i64 n] w fun e w'=>e=.returned (.string (txtS k r n))∧Below w.heap.size w w'
def FindNo (k r n:Int):Prop:=
 ∀ w,Calls Tryz.prog 149 #[.agg #[.int .i64 k,.int .i64 r,.int .i64 n]] w fun e w'=>
   e=.returned (.tuple #[.agg #[.nilFunc,.int .i64 0,.int .i64 0,.nilFunc],.string ⟨#[]⟩,.bool false])∧Below w.heap.size w w'
theorem find_of (k:Nat) (fn ff:FuncId) (r n:Int) (h0:1≤k) (h1:k≤10) (s:ByteArray)
  (hi1:∀ w,(Instr.index 216 (.agg kindsA) (.int .i64 (k:Int))).run Tryz.prog w=.ok (.agg #[.func (.func fn) #[] #[],.int .i64 (loK k),.int .i64 (hiK k),.func (.func ff) #[] #[]]) w)
  (he:∀ args w,(callFunc fn args).run Tryz.prog w=.ok (.enter fn args) w)
  (hn:∀ w,Calls Tryz.prog fn #[.int .i64 r] w fun e w'=>e=.returned (.tuple #[.string s,.bool (regB k r)])∧Below w.heap.size w w')
  (hf:∀ args w,(callFunc ff args).run Tryz.prog w=.ok (.enter ff args) w)
  (hg:loK k≤n→n≤hiK k→∀ w,Calls Tryz.prog ff #[.string s,.int .i64 n] w fun e w'=>e=.returned (.string (formS k (nmS k r) n))∧Below w.heap.size w w') :
  (vldB k r n=true→FindYes k r n)∧(vldB k r n=false→FindNo k r n):=by
 have hk:((k:Int)).toNat=k:=by omega
 have e1:decide ((1:Int)≤(k:Int))=true:=decide_eq_true (by omega)
 have e2:decide ((k:Int)≤10)=true:=decide_eq_true (by omega)
 have hv:vldB k r n=(regB k r&&(decide (loK k≤n)&&decide (n≤hiK k))):=by
  unfold vldB;rw [hk,e1,e2];simp
 rw [hv]
 constructor
 ·intro h
  simp only [Bool.and_eq_true,decide_eq_true_eq] at h
  obtain ⟨a,b,c⟩:=h
  rw [a] at hn
  refine ⟨fn,ff,loK k,hiK k,s,fun w=>find_kind k fn ff _ _ r n s h0 h1 hi1 he hn b c w,hf,fun w=>?_⟩
  have ht:txtS k r n=formS k (nmS k r) n:=by
   unfold txtS;rw [if_pos (by rw [hv,a,decide_eq_true b,decide_eq_true c];rfl),hk]
  rw [ht]
  exact hg b c w
 ·intro h w
  by_cases a:regB k r=true
  ·rw [a] at h hn
   have:n<loK k∨hiK k<n:=by
    simp only [Bool.true_and,Bool.and_eq_false_iff,decide_eq_false_iff_not] at h
    omega
   exact find_wide k fn ff _ _ r n s h0 h1 hi1 he hn this w
  ·have a':regB k r=false:=by simpa using a
   rw [a'] at hn
   exact find_nameless k fn ff _ _ r n s h0 h1 hi1 he hn w
theorem below_of_same {P:Program} {f:FuncId} {args:Array Value} {v:Value} {w:World} (h:Calls P f args w fun e w'=>e=.returned v∧w=w'):Calls P f args w fun e w'=>e=.returned v∧Below w.heap.size w w':=
 h.mono fun e w' ⟨h1,h2⟩=>⟨h1,by rw [← h2];exact Below.refl _ _⟩
theorem find_1 (r n:Int):(vldB 1 r n=true→FindYes 1 r n)∧(vldB 1 r n=false→FindNo 1 r n):=
 find_of 1 180 181 r n (by omega) (by omega) (nmS 1 r) (fun _=>by kernel_rfl) (fun _ _=>by kernel_rfl) (fun w=>name8_any r w) (fun _ _=>by kernel_rfl) (fun _ _ w=>plain_any _ n w)
theorem find_2 (r n:Int):(vldB 2 r n=true→FindYes 2 r n)∧(vldB 2 r n=false→FindNo 2 r n):=
 find_of 2 182 181 r n (by omega) (by omega) (nmS 2 r) (fun _=>by kernel_rfl) (fun _ _=>by kernel_rfl) (fun w=>nameHalf_any r w) (fun _ _=>by kernel_rfl) (fun _ _ w=>plain_any _ n w)
theorem find_3 (r n:Int):(vldB 3 r n=true→FindYes 3 r n)∧(vldB 3 r n=false→FindNo 3 r n):=
 find_of 3 183 181 r n (by omega) (by omega) (nmS 3 r) (fun _=>by kernel_rfl) (fun _ _=>by kernel_rfl) (fun w=>name16_any r w) (fun _ _=>by kernel_rfl) (fun _ _ w=>plain_any _ n w)
theorem find_4 (r n:Int):(vldB 4 r n=true→FindYes 4 r n)∧(vldB 4 r n=false→FindNo 4 r n):=
 find_of 4 184 185 r n (by omega) (by omega) (nmS 4 r) (fun _=>by kernel_rfl) (fun _ _=>by kernel_rfl) (fun w=>namePointer_any r w) (fun _ _=>by kernel_rfl) (fun _ _ w=>pointer_any _ n (nmS_le 4 r) w)
theorem find_5 (r n:Int):(vldB 5 r n=true→FindYes 5 r n)∧(vldB 5 r n=false→FindNo 5 r n):=
 find_of 5 186 187 r n (by omega) (by omega) (nmS 5 r) (fun _=>by kernel_rfl) (fun _ _=>by kernel_rfl) (fun w=>nameIndex_any r w) (fun _ _=>by kernel_rfl) (fun a b w=>indexed_any _ n (nmS_le 5 r) (by simp only [loK] at a;omega) (by simp only [hiK] at b;omega) w)
theorem find_6 (r n:Int):(vldB 6 r n=true→FindYes 6 r n)∧(vldB 6 r n=false→FindNo 6 r n):=
 find_of 6 188 189 r n (by omega) (by omega) ⟨#[]⟩ (fun _=>by kernel_rfl) (fun _ _=>by kernel_rfl) (fun w=>below_of_same (noName_any r w)) (fun _ _=>by kernel_rfl) (fun a b w=>immediate_any _ n (by simp only [loK] at a;omega) (by simp only [hiK] at b;omega) w)
theorem find_7 (r n:Int):(vldB 7 r n=true→FindYes 7 r n)∧(vldB 7 r n=false→FindNo 7 r n):=
 find_of 7 188 190 r n (by omega) (by omega) ⟨#[]⟩ (fun _=>by kernel_rfl) (fun _ _=>by kernel_rfl) (fun w=>below_of_same (noName_any r w)) (fun _ _=>by kernel_rfl) (fun a b w=>memory_any _ n w)
theorem find_8 (r n:Int):(vldB 8 r n=true→FindYes 8 r n)∧(vldB 8 r n=false→FindNo 8 r n):=
 find_of 8 191 181 r n (by omega) (by omega) (nmS 8 r) (fun _=>by kernel_rfl) (fun _ _=>by kernel_rfl) (fun w=>nameCondition_any r w) (fun _ _=>by kernel_rfl) (fun _ _ w=>plain_any _ n w)
theorem find_9 (r n:Int):(vldB 9 r n=true→FindYes 9 r n)∧(vldB 9 r n=false→FindNo 9 r n):=
 find_of 9 192 181 r n (by omega) (by omega) (nmS 9 r) (fun _=>by kernel_rfl) (fun _ _=>by kernel_rfl) (fun w=>nameControl_any r w) (fun _ _=>by kernel_rfl) (fun _ _ w=>plain_any _ n w)
theorem find_10 (r n:Int):(vldB 10 r n=true→FindYes 10 r n)∧(vldB 10 r n=false→FindNo 10 r n):=
 find_of 10 188 193 r n (by omega) (by omega) ⟨#[]⟩ (fun _=>by kernel_rfl) (fun _ _=>by kernel_rfl) (fun w=>below_of_same (noName_any r w)) (fun _ _=>by kernel_rfl) (fun a b w=>relative_any _ n (by simp only [loK] at a;omega) (by simp only [hiK] at b;omega) w)
theorem find_any (k r n:Int):(vldB k r n=true→FindYes k r n)∧(vldB k r n=false→FindNo k r n):=by
 by_cases h:1≤k∧k≤10
 ·have hc:k=1∨k=2∨k=3∨k=4∨k=5∨k=6∨k=7∨k=8∨k=9∨k=10:=by omega
  rcases hc with rfl | rfl | rfl | rfl | rfl | rfl | rfl | rfl | rfl | rfl
  ·exact find_1 r n
  ·exact find_2 r n
  ·exact find_3 r n
  ·exact find_4 r n
  ·exact find_5 r n
  ·exact find_6 r n
  ·exact find_7 r n
  ·exact find_8 r n
  ·exact find_9 r n
  ·exact find_10 r n
 ·have hv:vldB k r n=false:=by
   unfold vldB
   by_cases h1:1≤k
   ·rw [decide_eq_false (show ¬k≤10 by omega)];simp
   ·rw [decide_eq_false h1];simp
  rw [hv]
  exact ⟨(fun h=>Bool.noConfusion h),fun _ w=>find_out k r n (by omega) w⟩
theorem valid_any (k r n:Int) (w:World) :
  Calls Tryz.prog 124 #[.agg #[.int .i64 k,.int .i64 r,.int .i64 n]] w fun e w'=>e=.returned (.bool (vldB k r n))∧Below w.heap.size w w':=by
 obtain ⟨hy,hn⟩:=find_any k r n
 cases hv:vldB k r n
 ·have H:=Lib.hid (hn hv)
  clear hy hn hv
  go_enter Tryz.func124,Tryz.ntmps124
  go_wp2_with fail
  refine (H.out _).mono ?_
  rintro e w1 ⟨rfl,hb⟩
  have N:Hid (Below w.heap.size w w1):=((Below.refl _ _).alloc (Nat.le_refl _) _).trans (hb.mono (by simp))
  have hz:=N.out.size
  clear hb
  go_wp2
  go_ret
  exact ⟨rfl,N.out.alloc hz _⟩
 ·obtain ⟨fn,ff,lo,hi,s,h1,-,-⟩:=hy hv
  have H:=Lib.hid h1
  clear hy hn hv h1
  go_enter Tryz.func124,Tryz.ntmps124
  go_wp2_with fail
  refine (H.out _).mono ?_
  rintro e w1 ⟨rfl,hb⟩
  have N:Hid (Below w.heap.size w w1):=((Below.refl _ _).alloc (Nat.le_refl _) _).trans (hb.mono (by simp))
  have hz:=N.out.size
  clear hb
  go_wp2
  go_ret
  exact ⟨rfl,N.out.alloc hz _⟩
end Go.Proofs.YtoilebmbljpieaaGreatDoor
namespace Go.Proofs.YtoilebmbljpieaaGreatDoor
open Go.RowKit
def rnL:Nat→List ByteArray
 | 4=>[⟨#[40,66,67,41]⟩,⟨#[40,68,69,41]⟩,⟨#[40,72,76,41]⟩,⟨#[40,83,80,41]⟩,⟨#[]⟩,⟨#[40,73,88,41]⟩,⟨#[40,73,89,41]⟩,⟨#[]⟩,⟨#[40,67,41]⟩]
 | k=>nmL k
def RetRegs (L:List ByteArray) (w:World) (e:Ending) (w':World):Prop:=
 (L=[]∧e=.returned (.slice none 0 0)∧w=w')∨(e=.returned (.slice (some ⟨w.heap.size,0,none⟩) L.length L.length)∧w.alloc (.cells (L.map Value.string).toArray 9)=w')
theorem regs_1 (w:World):Calls Tryz.prog 173 #[.int .i64 1] w (RetRegs (rnL 1) w):=by
 go_enter Tryz.func173,Tryz.ntmps173
 go_wp2
 go_ret
 exact .inr ⟨rfl,rfl⟩
theorem regs_2 (w:World):Calls Tryz.prog 173 #[.int .i64 2] w (RetRegs (rnL 2) w):=by
 go_enter Tryz.func173,Tryz.ntmps173
 go_wp2
 go_ret
 exact .inr ⟨rfl,rfl⟩
theorem regs_3 (w:World):Calls Tryz.prog 173 #[.int .i64 3] w (RetRegs (rnL 3) w):=by
 go_enter Tryz.func173,Tryz.ntmps173
 go_wp2
 go_ret
 exact .inr ⟨rfl,rfl⟩
theorem regs_4 (w:World):Calls Tryz.prog 173 #[.int .i64 4] w (RetRegs (rnL 4) w):=by
 go_enter Tryz.func173,Tryz.ntmps173
 go_wp2
 go_ret
 exact .inr ⟨rfl,rfl⟩
theorem regs_5 (w:World):Calls Tryz.prog 173 #[.int .i64 5] w (RetRegs (rnL 5) w):=by
 go_enter Tryz.func173,Tryz.ntmps173
 go_wp2
 go_ret
 exact .inr ⟨rfl,rfl⟩
theorem regs_8 (w:World):Calls Tryz.prog 173 #[.int .i64 8] w (RetRegs (rnL 8) w):=by
 go_enter Tryz.func173,Tryz.ntmps173
 go_wp2
 go_ret
 exact .inr ⟨rfl,rfl⟩
theorem regs_9 (w:World):Calls Tryz.prog 173 #[.int .i64 9] w (RetRegs (rnL 9) w):=by
 go_enter Tryz.func173,Tryz.ntmps173
 go_wp2
 go_ret
 exact .inr ⟨rfl,rfl⟩
theorem regs_no (k:Int) (h:k≠1∧k≠2∧k≠3∧k≠4∧k≠5∧k≠8∧k≠9) (w:World):Calls Tryz.prog 173 #[.int .i64 k] w (RetRegs [] w):=by
 have h1:(k == 1)=false:=beq_eq_false_iff_ne.2 (by omega)
 have h2:(k == 2)=false:=beq_eq_false_iff_ne.2 (by omega)
 have h3:(k == 3)=false:=beq_eq_false_iff_ne.2 (by omega)
 have h4:(k == 4)=false:=beq_eq_false_iff_ne.2 (by omega)
 have h5:(k == 5)=false:=beq_eq_false_iff_ne.2 (by omega)
 have h8:(k == 8)=false:=beq_eq_false_iff_ne.2 (by omega)
 have h9:(k == 9)=false:=beq_eq_false_iff_ne.2 (by omega)
 clear h
 go_enter Tryz.func173,Tryz.ntmps173
 go_wp2
 go_ret
 exact .inl ⟨rfl,rfl,rfl⟩
def rnK (k:Int):List ByteArray:=if 0≤k then rnL k.toNat else []
theorem rnK_no (k:Int) (h:k≠1∧k≠2∧k≠3∧k≠4∧k≠5∧k≠8∧k≠9):rnK k=[]:=by
 unfold rnK
 split
 ·rename_i h0
  obtain ⟨m,rfl⟩:∃ m:Nat,k=m:=⟨k.toNat,by omega⟩
  rw [Int.toNat_natCast]
  unfold rnL nmL
  split
  ·omega
  ·split <;> first | omega | rfl
 ·rfl
theorem regs_any (k:Int) (w:World):Calls Tryz.prog 173 #[.int .i64 k] w (RetRegs (rnK k) w):=by
 by_cases h:k≠1∧k≠2∧k≠3∧k≠4∧k≠5∧k≠8∧k≠9
 ·rw [rnK_no k h];exact regs_no k h w
 ·have hc:k=1∨k=2∨k=3∨k=4∨k=5∨k=8∨k=9:=by omega
  rcases hc with rfl | rfl | rfl | rfl | rfl | rfl | rfl
  ·exact regs_1 w
  ·exact regs_2 w
  ·exact regs_3 w
  ·exact regs_4 w
  ·exact regs_5 w
  ·exact regs_8 w
  ·exact regs_9 w
theorem rnK_len (k:Int):(rnK k).length≤9:=by
 by_cases h:k≠1∧k≠2∧k≠3∧k≠4∧k≠5∧k≠8∧k≠9
 ·rw [rnK_no k h];decide
 ·have hc:k=1∨k=2∨k=3∨k=4∨k=5∨k=8∨k=9:=by omega
  rcases hc with rfl | rfl | rfl | rfl | rfl | rfl | rfl <;> decide
theorem rname_any (k r:Int) (w:World) :
  Calls Tryz.prog 156 #[.int .i64 k,.int .i64 r] w fun e w'=>e=.returned (.string (atS (rnK k) r))∧Below w.heap.size w w':=by
 have HR:=Lib.hid (regs_any k)
 have hlen:=rnK_len k
 obtain ⟨L,hL⟩:∃ L,rnK k=L:=⟨_,rfl⟩
 rw [hL] at HR hlen ⊢
 clear hL
 by_cases h0:r<0
 ·have T:=Lib.hid (atS_out L r (.inl h0))
  go_enter Tryz.func156,Tryz.ntmps156
  go_wp2_with fail
  refine (HR.out _).mono ?_
  rintro e w1 (⟨hL,rfl,rfl⟩ | ⟨rfl,rfl⟩)
  ·clear hL
   go_wp2
   go_ret
   exact ⟨ret_str T.out.symm,Below.refl _ _⟩
  ·go_wp2
   go_ret
   exact ⟨ret_str T.out.symm,(Below.refl _ _).alloc (Nat.le_refl _) _⟩
 ·by_cases h1:(L.length:Int)≤r
  ·have T:=Lib.hid (atS_out L r (.inr h1))
   go_enter Tryz.func156,Tryz.ntmps156
   go_wp2_with fail
   refine (HR.out _).mono ?_
   rintro e w1 (⟨hL,rfl,rfl⟩ | ⟨rfl,rfl⟩)
   ·clear hL
    have h2:(0:Int)≤r:=by omega
    go_wp2
    go_ret
    exact ⟨ret_str T.out.symm,Below.refl _ _⟩
   ·go_wp2
    go_ret
    exact ⟨ret_str T.out.symm,(Below.refl _ _).alloc (Nat.le_refl _) _⟩
  ·obtain ⟨j,rfl⟩:∃ j:Nat,r=j:=⟨r.toNat,by omega⟩
   have hj:j<L.length:=by omega
   have T:=Lib.hid (atS_in L j hj)
   have hc:=fun (w:World)=>strs_new w L 9 j hj
   obtain ⟨s,hs⟩:∃ s,L[j]=s:=⟨_,rfl⟩
   rw [hs] at T
   simp only [hs] at hc
   obtain ⟨n,hn⟩:∃ n,L.length=n:=⟨_,rfl⟩
   have HN:=Lib.hid hn
   rw [hn] at hj hlen
   clear h0 h1 hs
   go_enter Tryz.func156,Tryz.ntmps156
   go_wp2_with fail
   refine (HR.out _).mono ?_
   rintro e w1 (⟨hL,rfl,rfl⟩ | ⟨rfl,rfl⟩)
   ·exfalso;rw [hL] at hn;simp at hn;omega
   ·rw [hn]
    clear hn
    go_wp2
    go_ret
    exact ⟨ret_str T.out.symm,(Below.refl _ _).alloc (Nat.le_refl _) _⟩
end Go.Proofs.YtoilebmbljpieaaGreatDoor
namespace Go.Proofs.YtoilebmbljpieaaGreatDoor
open Go.RowKit
theorem neB_4 (r:Int):neB (atS (rnK 4) r)=neB (nmS 4 r):=by
 by_cases h:0≤r∧r<9
 ·obtain ⟨j,rfl⟩:∃ j:Nat,r=j:=⟨r.toNat,by omega⟩
  have hd:∀ i:Fin 9,neB (atS (rnK 4) ((i.val:Nat):Int))=neB (nmS 4 ((i.val:Nat):Int)):=by decide +kernel
  exact hd ⟨j,by omega⟩
 ·unfold nmS
  rw [atS_out _ r (by show r<0∨(9:Int)≤r;omega),atS_out _ r (by show r<0∨(9:Int)≤r;omega)]
theorem vld_n (k r n:Int) (hk:k=1∨k=2∨k=3∨k=4∨k=8∨k=9):vldB k r n=(neB (atS (rnK k) r)&&(n == 0)):=by
 have e:vldB k r n=(neB (nmS k.toNat r)&&(decide (0≤n)&&decide (n≤0))):=by rcases hk with rfl | rfl | rfl | rfl | rfl | rfl <;> rfl
 have e2:neB (nmS k.toNat r)=neB (atS (rnK k) r):=by rcases hk with rfl | rfl | rfl | rfl | rfl | rfl <;> first | rfl | exact (neB_4 r).symm
 rw [e,e2]
 congr 1
 rw [Bool.eq_iff_iff]
 simp only [Bool.and_eq_true,decide_eq_true_eq,beq_iff_eq]
 omega
theorem rvalid_n (k r n:Int) (hk:k=1∨k=2∨k=3∨k=4∨k=8∨k=9) (w:World) :
  Calls Tryz.prog 129 #[.agg #[.int .i64 k,.int .i64 r,.int .i64 n]] w fun e w'=>e=.returned (.bool (vldB k r n))∧Below w.heap.size w w':=by
 have HR:=Lib.hid (rname_any k r)
 rw [vld_n k r n hk]
 obtain ⟨s,hs⟩:∃ s,atS (rnK k) r=s:=⟨_,rfl⟩
 rw [hs] at HR ⊢
 clear hs
 rcases hk with rfl | rfl | rfl | rfl | rfl | rfl
 all_goals
  cases hb:s.toList.isEmpty
  all_goals
   have hn:neB s=!s.toList.isEmpty:=rfl
   rw [hb] at hn
   rw [hn]
   clear hn
   go_enter Tryz.func129,Tryz.ntmps129
   go_wp2_with fail
   refine (HR.out _).mono ?_
   rintro e w1 ⟨rfl,h1⟩
   have N:Hid (Below w.heap.size w w1):=((Below.refl _ _).alloc (Nat.le_refl _) _).trans (h1.mono (by simp))
   obtain ⟨hc,-⟩:=bcell h1
   clear h1
   go_wp2
   go_ret
   exact ⟨rfl,N.out⟩
theorem vld_5 (r n:Int):vldB 5 r n=(neB (atS (rnK 5) r)&&(decide (-128≤n)&&decide (n≤127))):=rfl
theorem rvalid_5 (r n:Int) (w:World) :
  Calls Tryz.prog 129 #[.agg #[.int .i64 5,.int .i64 r,.int .i64 n]] w fun e w'=>e=.returned (.bool (vldB 5 r n))∧Below w.heap.size w w':=by
 have HR:=Lib.hid (rname_any 5 r)
 rw [vld_5]
 obtain ⟨s,hs⟩:∃ s,atS (rnK 5) r=s:=⟨_,rfl⟩
 rw [hs] at HR ⊢
 clear hs
 cases hb:s.toList.isEmpty
 ·have hn:neB s=!s.toList.isEmpty:=rfl
  rw [hb] at hn
  rw [hn]
  clear hn
  by_cases h0 : -128≤n
  ·rw [decide_eq_true h0]
   go_enter Tryz.func129,Tryz.ntmps129
   go_wp2_with fail
   refine (HR.out _).mono ?_
   rintro e w1 ⟨rfl,h1⟩
   have N:Hid (Below w.heap.size w w1):=((Below.refl _ _).alloc (Nat.le_refl _) _).trans (h1.mono (by simp))
   obtain ⟨hc,-⟩:=bcell h1
   clear h1
   go_wp2
   go_ret
   exact ⟨rfl,N.out⟩
  ·rw [decide_eq_false h0]
   have h0':n < -128:=by omega
   go_enter Tryz.func129,Tryz.ntmps129
   go_wp2_with fail
   refine (HR.out _).mono ?_
   rintro e w1 ⟨rfl,h1⟩
   have N:Hid (Below w.heap.size w w1):=((Below.refl _ _).alloc (Nat.le_refl _) _).trans (h1.mono (by simp))
   obtain ⟨hc,-⟩:=bcell h1
   clear h1
   go_wp2
   go_ret
   exact ⟨rfl,N.out⟩
 ·have hn:neB s=!s.toList.isEmpty:=rfl
  rw [hb] at hn
  rw [hn]
  clear hn
  go_enter Tryz.func129,Tryz.ntmps129
  go_wp2_with fail
  refine (HR.out _).mono ?_
  rintro e w1 ⟨rfl,h1⟩
  have N:Hid (Below w.heap.size w w1):=((Below.refl _ _).alloc (Nat.le_refl _) _).trans (h1.mono (by simp))
  obtain ⟨hc,-⟩:=bcell h1
  clear h1
  go_wp2
  go_ret
  exact ⟨rfl,N.out⟩
theorem vld_6 (r n:Int):vldB 6 r n=((r == 0)&&(decide (-32768≤n)&&decide (n≤65535))):=rfl
theorem rvalid_6 (r n:Int) (w:World) :
  Calls Tryz.prog 129 #[.agg #[.int .i64 6,.int .i64 r,.int .i64 n]] w fun e w'=>e=.returned (.bool (vldB 6 r n))∧Below w.heap.size w w':=by
 rw [vld_6]
 by_cases hr:r=0
 ·subst hr
  by_cases h0 : -32768≤n
  ·rw [decide_eq_true h0]
   go_enter Tryz.func129,Tryz.ntmps129
   go_wp2
   go_ret
   exact ⟨rfl,(Below.refl _ _).alloc (Nat.le_refl _) _⟩
  ·rw [decide_eq_false h0]
   have h0':n < -32768:=by omega
   go_enter Tryz.func129,Tryz.ntmps129
   go_wp2
   go_ret
   exact ⟨rfl,(Below.refl _ _).alloc (Nat.le_refl _) _⟩
 ·have hr':(r == 0)=false:=beq_eq_false_iff_ne.2 hr
  rw [hr']
  clear hr
  go_enter Tryz.func129,Tryz.ntmps129
  go_wp2
  go_ret
  exact ⟨rfl,(Below.refl _ _).alloc (Nat.le_refl _) _⟩
theorem vld_7 (r n:Int):vldB 7 r n=((r == 0)&&(decide (0≤n)&&decide (n≤65535))):=rfl
theorem rvalid_7 (r n:Int) (w:World) :
  Calls Tryz.prog 129 #[.agg #[.int .i64 7,.int .i64 r,.int .i64 n]] w fun e w'=>e=.returned (.bool (vldB 7 r n))∧Below w.heap.size w w':=by
 rw [vld_7]
 by_cases hr:r=0
 ·subst hr
  by_cases h0:0≤n
  ·rw [decide_eq_true h0]
   go_enter Tryz.func129,Tryz.ntmps129
   go_wp2
   go_ret
   exact ⟨rfl,(Below.refl _ _).alloc (Nat.le_refl _) _⟩
  ·rw [decide_eq_false h0]
   have h0':n<0:=by omega
   go_enter Tryz.func129,Tryz.ntmps129
   go_wp2
   go_ret
   exact ⟨rfl,(Below.refl _ _).alloc (Nat.le_refl _) _⟩
 ·have hr':(r == 0)=false:=beq_eq_false_iff_ne.2 hr
  rw [hr']
  clear hr
  go_enter Tryz.func129,Tryz.ntmps129
  go_wp2
  go_ret
  exact ⟨rfl,(Below.refl _ _).alloc (Nat.le_refl _) _⟩
theorem vld_10 (r n:Int):vldB 10 r n=((r == 0)&&(decide (-128≤n)&&decide (n≤127))):=rfl
theorem rvalid_10 (r n:Int) (w:World) :
  Calls Tryz.prog 129 #[.agg #[.int .i64 10,.int .i64 r,.int .i64 n]] w fun e w'=>e=.returned (.bool (vldB 10 r n))∧Below w.heap.size w w':=by
 rw [vld_10]
 by_cases hr:r=0
 ·subst hr
  by_cases h0 : -128≤n
  ·rw [decide_eq_true h0]
   go_enter Tryz.func129,Tryz.ntmps129
   go_wp2
   go_ret
   exact ⟨rfl,(Below.refl _ _).alloc (Nat.le_refl _) _⟩
  ·rw [decide_eq_false h0]
   have h0':n < -128:=by omega
   go_enter Tryz.func129,Tryz.ntmps129
   go_wp2
   go_ret
   exact ⟨rfl,(Below.refl _ _).alloc (Nat.le_refl _) _⟩
 ·have hr':(r == 0)=false:=beq_eq_false_iff_ne.2 hr
  rw [hr']
  clear hr
  go_enter Tryz.func129,Tryz.ntmps129
  go_wp2
  go_ret
  exact ⟨rfl,(Below.refl _ _).alloc (Nat.le_refl _) _⟩
theorem vld_no (k r n:Int) (h:k<1∨10<k):vldB k r n=false:=by
 unfold vldB
 by_cases h1:1≤k
 ·rw [decide_eq_false (show ¬k≤10 by omega)];simp
 ·rw [decide_eq_false h1];simp
theorem rvalid_no (k r n:Int) (h:k<1∨10<k) (w:World) :
  Calls Tryz.prog 129 #[.agg #[.int .i64 k,.int .i64 r,.int .i64 n]] w fun e w'=>e=.returned (.bool (vldB k r n))∧Below w.heap.size w w':=by
 rw [vld_no k r n h]
 have h1:(k == 1)=false:=beq_eq_false_iff_ne.2 (by omega)
 have h2:(k == 2)=false:=beq_eq_false_iff_ne.2 (by omega)
 have h3:(k == 3)=false:=beq_eq_false_iff_ne.2 (by omega)
 have h4:(k == 4)=false:=beq_eq_false_iff_ne.2 (by omega)
 have h5:(k == 5)=false:=beq_eq_false_iff_ne.2 (by omega)
 have h6:(k == 6)=false:=beq_eq_false_iff_ne.2 (by omega)
 have h7:(k == 7)=false:=beq_eq_false_iff_ne.2 (by omega)
 have h8:(k == 8)=false:=beq_eq_false_iff_ne.2 (by omega)
 have h9:(k == 9)=false:=beq_eq_false_iff_ne.2 (by omega)
 have h10:(k == 10)=false:=beq_eq_false_iff_ne.2 (by omega)
 clear h
 go_enter Tryz.func129,Tryz.ntmps129
 go_wp2
 go_ret
 exact ⟨rfl,(Below.refl _ _).alloc (Nat.le_refl _) _⟩
theorem rvalid_any (k r n:Int) (w:World) :
  Calls Tryz.prog 129 #[.agg #[.int .i64 k,.int .i64 r,.int .i64 n]] w fun e w'=>e=.returned (.bool (vldB k r n))∧Below w.heap.size w w':=by
 by_cases h:1≤k∧k≤10
 ·have hc:k=1∨k=2∨k=3∨k=4∨k=5∨k=6∨k=7∨k=8∨k=9∨k=10:=by omega
  rcases hc with rfl | rfl | rfl | rfl | rfl | rfl | rfl | rfl | rfl | rfl
  ·exact rvalid_n 1 r n (by decide) w
  ·exact rvalid_n 2 r n (by decide) w
  ·exact rvalid_n 3 r n (by decide) w
  ·exact rvalid_n 4 r n (by decide) w
  ·exact rvalid_5 r n w
  ·exact rvalid_6 r n w
  ·exact rvalid_7 r n w
  ·exact rvalid_n 8 r n (by decide) w
  ·exact rvalid_n 9 r n (by decide) w
  ·exact rvalid_10 r n w
 ·exact rvalid_no k r n (by omega) w
end Go.Proofs.YtoilebmbljpieaaGreatDoor
namespace Go.Proofs.YtoilebmbljpieaaGreatDoor
open Go.RowKit
attribute [local irreducible] Go.Mixed.wpMix
end Go.Proofs.YtoilebmbljpieaaGreatDoor
namespace Go.Proofs.YtoilebmbljpieaaGreatDoor
open Go.RowKit
def inP (a h l k r n:Int):Prop:=(k=3∧r=a∧n=0)∨(k=4∧r=a∧n=0)∨(k=5∧r=a)∨(k=2∧r=h∧n=0)∨(k=2∧r=l∧n=0)
instance (a h l k r n:Int):Decidable (inP a h l k r n):=by unfold inP;infer_instance
def inB (a h l k r n:Int):Bool:=decide (inP a h l k r n)
theorem oisIn_any (a h l k r n:Int) (w:World) :
  Calls Tryz.prog 167 #[.agg #[.int .i64 a,.int .i64 h,.int .i64 l],.agg #[.int .i64 k,.int .i64 r,.int .i64 n]] w fun e w'=>e=.returned (.bool (inB a h l k r n))∧Below w.heap.size w w':=by
 go_enter Tryz.func167,Tryz.ntmps167
 go_wp2
 all_goals
  go_ret
  exact ⟨ret_bool (by unfold inB;first | exact (decide_eq_true (by unfold inP;omega)).symm | exact (decide_eq_false (by unfold inP;omega)).symm),((Below.refl _ _).alloc (Nat.le_refl _) _).alloc (by simp) _⟩
def idxI (k r n:Int):Int:=if vldB k r n then (if inB 5 0 1 k r n then 5 else if inB 6 2 3 k r n then 6 else 0) else 0
theorem idx_no (k r n:Int) (h:vldB k r n=false):idxI k r n=0:=by unfold idxI;rw [h];rfl
theorem idx_a (k r n:Int) (h:vldB k r n=true) (h1:inB 5 0 1 k r n=true):idxI k r n=5:=by unfold idxI;rw [h,h1];rfl
theorem idx_b (k r n:Int) (h:vldB k r n=true) (h1:inB 5 0 1 k r n=false) (h2:inB 6 2 3 k r n=true):idxI k r n=6:=by unfold idxI;rw [h,h1,h2];rfl
theorem idx_c (k r n:Int) (h:vldB k r n=true) (h1:inB 5 0 1 k r n=false) (h2:inB 6 2 3 k r n=false):idxI k r n=0:=by unfold idxI;rw [h,h1,h2];rfl
def OBox (w:World) (b:Nat) (k r n:Int):Prop:=w.cell? ⟨b,0,none⟩=some (.int .i64 k)∧w.cell? ⟨b,1,none⟩=some (.int .i64 r)∧w.cell? ⟨b,2,none⟩=some (.int .i64 n)
theorem OBox.below {w w':World} {b:Nat} {k r n:Int} (h:OBox w b k r n) (hb:Below w.heap.size w w'):OBox w' b k r n:=
 ⟨(hb.cell (World.block_lt_of_cell? w _ h.1)).trans h.1,(hb.cell (World.block_lt_of_cell? w _ h.2.1)).trans h.2.1,(hb.cell (World.block_lt_of_cell? w _ h.2.2)).trans h.2.2⟩
theorem OBox.new (w:World) (k r n:Int) (t:TypeId):OBox (w.alloc (.cells #[.int .i64 k,.int .i64 r,.int .i64 n] t)) w.heap.size k r n:=⟨by simp [go_sem],by simp [go_sem],by simp [go_sem]⟩
theorem OBox.lt {w:World} {b:Nat} {k r n:Int} (h:OBox w b k r n):b<w.heap.size:=World.block_lt_of_cell? w _ h.1
theorem index_no (k r n:Int) (h:vldB k r n=false) (w:World) :
  Calls Tryz.prog 146 #[.agg #[.int .i64 k,.int .i64 r,.int .i64 n]] w fun e w'=>e=.returned (.int .i64 (idxI k r n))∧Below w.heap.size w w':=by
 have HV:=Lib.hid (valid_any k r n)
 rw [h] at HV
 rw [idx_no k r n h]
 clear h
 go_enter Tryz.func146,Tryz.ntmps146
 go_wp2_with fail
 refine (HV.out _).mono ?_
 rintro e w1 ⟨rfl,h1⟩
 have N:Hid (Below w.heap.size w w1):=((Below.refl _ _).alloc (Nat.le_refl _) _).trans (h1.mono (by simp))
 clear h1
 go_wp2
 go_ret
 exact ⟨rfl,N.out⟩
theorem index_yes (k r n:Int) (h:vldB k r n=true) (w:World) :
  Calls Tryz.prog 146 #[.agg #[.int .i64 k,.int .i64 r,.int .i64 n]] w fun e w'=>e=.returned (.int .i64 (idxI k r n))∧Below w.heap.size w w':=by
 have HV:=Lib.hid (valid_any k r n)
 have HA:=Lib.hid (idx_a k r n h)
 have HB:=Lib.hid (idx_b k r n h)
 have HC:=Lib.hid (idx_c k r n h)
 rw [h] at HV
 clear h
 go_enter Tryz.func146,Tryz.ntmps146
 go_wp2_with fail
 refine (HV.out _).mono ?_
 rintro e w1 ⟨rfl,h1⟩
 have N:Hid (Below w.heap.size w w1):=((Below.refl _ _).alloc (Nat.le_refl _) _).trans (h1.mono (by simp))
 have B:Hid (OBox w1 w.heap.size k r n):=(OBox.new w k r n _).below h1
 clear h1
 go_wp2
 go_loopw [11] (fun i wr=>∃ j:Int,(j=0∨j=1∨j=2)∧i=.int .i64 j∧Below w.heap.size w wr∧OBox wr w.heap.size k r n∧(0<j→inB 5 0 1 k r n=false)∧(1<j→inB 6 2 3 k r n=false)) (fun i _=>2 - (intOf i).toNat)
 case atStart=>exact ⟨0,.inl rfl,rfl,N.out,B.out,fun h=>by omega,fun h=>by omega⟩
 case round=>
  obtain ⟨j,hj,rfl,hN,hB,hi1,hi2⟩:=hrel
  have NR:=Lib.hid hN
  have BR:=Lib.hid hB
  obtain ⟨b0,b1,b2⟩:=hB
  have I1:=Lib.hid hi1
  have I2:=Lib.hid hi2
  have zl:=BR.out.lt
  clear hN hi1 hi2
  have hx0:∀ w,(Instr.index 211 (.agg #[.int .i64 5,.int .i64 0,.int .i64 1,.int .i64 6,.int .i64 2,.int .i64 3]) (.int .i64 0)).run Tryz.prog w=.ok (.agg #[.int .i64 5,.int .i64 0,.int .i64 1]) w:=fun _=>by kernel_rfl
  have hx1:∀ w,(Instr.index 211 (.agg #[.int .i64 5,.int .i64 0,.int .i64 1,.int .i64 6,.int .i64 2,.int .i64 3]) (.int .i64 1)).run Tryz.prog w=.ok (.agg #[.int .i64 6,.int .i64 2,.int .i64 3]) w:=fun _=>by kernel_rfl
  rcases hj with rfl | rfl | rfl
  ·have M:∀ o,Below w.heap.size w (wr.alloc o):=fun o=>NR.out.alloc NR.out.size _
   have MB:∀ o,OBox (wr.alloc o) w.heap.size k r n:=fun o=>BR.out.below ((Below.refl _ _).alloc (Nat.le_refl _) _)
   have HM:=Lib.hid M
   have HMB:=Lib.hid MB
   clear M MB
   go_wp2_with fail
   refine (oisIn_any 5 0 1 k r n _).mono ?_
   rintro e w2 ⟨rfl,h2⟩
   have N2:Hid (Below w.heap.size w w2):=(HM.out _).trans (h2.mono (by simp;have:=NR.out.size;omega))
   have B2:Hid (OBox w2 w.heap.size k r n):=(HMB.out _).below h2
   obtain ⟨hc,-⟩:=bcell h2
   clear h2
   cases hq:inB 5 0 1 k r n
   ·go_wp2
    go_roundw
    case rel=>exact ⟨1,.inr (.inl rfl),rfl,N2.out,B2.out,fun _=>hq,fun h=>by omega⟩
    case measure=>simp [intOf]
   ·have T:=Lib.hid (HA.out hq)
    clear hq
    go_wp2
    go_ret
    exact ⟨ret_int T.out.symm,N2.out⟩
  ·have M:∀ o,Below w.heap.size w (wr.alloc o):=fun o=>NR.out.alloc NR.out.size _
   have MB:∀ o,OBox (wr.alloc o) w.heap.size k r n:=fun o=>BR.out.below ((Below.refl _ _).alloc (Nat.le_refl _) _)
   have HM:=Lib.hid M
   have HMB:=Lib.hid MB
   clear M MB
   go_wp2_with fail
   refine (oisIn_any 6 2 3 k r n _).mono ?_
   rintro e w2 ⟨rfl,h2⟩
   have N2:Hid (Below w.heap.size w w2):=(HM.out _).trans (h2.mono (by simp;have:=NR.out.size;omega))
   have B2:Hid (OBox w2 w.heap.size k r n):=(HMB.out _).below h2
   obtain ⟨hc,-⟩:=bcell h2
   clear h2
   cases hq:inB 6 2 3 k r n
   ·have HQ:=Lib.hid hq
    clear hq
    go_wp2
    go_roundw
    case rel=>exact ⟨2,.inr (.inr rfl),rfl,N2.out,B2.out,fun _=>I1.out (by omega),fun _=>HQ.out⟩
    case measure=>simp [intOf]
   ·have T:=Lib.hid (HB.out (I1.out (by omega)) hq)
    clear hq
    go_wp2
    go_ret
    exact ⟨ret_int T.out.symm,N2.out⟩
  ·have T:=Lib.hid (HC.out (I1.out (by omega)) (I2.out (by omega)))
   go_wp2
   go_ret
   exact ⟨ret_int T.out.symm,NR.out⟩
theorem index_any (k r n:Int) (w:World) :
  Calls Tryz.prog 146 #[.agg #[.int .i64 k,.int .i64 r,.int .i64 n]] w fun e w'=>e=.returned (.int .i64 (idxI k r n))∧Below w.heap.size w w':=by
 cases h:vldB k r n
 ·exact index_no k r n h w
 ·exact index_yes k r n h w
end Go.Proofs.YtoilebmbljpieaaGreatDoor
namespace Go.Proofs.YtoilebmbljpieaaGreatDoor
open Go.RowKit
attribute [local go_sem] Oper.semAt_some
theorem up1 (w:World) (o:Obj):Below w.heap.size w (w.alloc o):=(Below.refl _ _).alloc (Nat.le_refl _) _
theorem isAlike_any (a b:Tr) (w:World) :
  Calls Tryz.prog 121 #[.agg #[.int .i64 a.1,.int .i64 a.2.1,.int .i64 a.2.2],.agg #[.int .i64 b.1,.int .i64 b.2.1,.int .i64 b.2.2]] w fun e w'=>e=.returned (.bool (decide (ks2 a=ks2 b)))∧Below w.heap.size w w':=by
 obtain ⟨a0,a1,a2⟩:=a
 obtain ⟨b0,b1,b2⟩:=b
 simp only
 have hal:Hid (Below w.heap.size w ((w.alloc (.cells #[.int .i64 a0,.int .i64 a1,.int .i64 a2] 63)).alloc (.cells #[.int .i64 b0,.int .i64 b1,.int .i64 b2] 63))):=((Below.refl _ _).alloc (Nat.le_refl _) _).alloc (by simp) _
 by_cases h0:a0=b0
 ·subst h0
  by_cases h1:a1=b1
  ·subst h1
   have T:Hid (true=decide (ks2 (a0,a1,a2)=ks2 (a0,a1,b2))):=(decide_eq_true rfl).symm
   go_enter Tryz.func121,Tryz.ntmps121
   go_wp2
   go_ret
   exact ⟨ret_bool T.out,hal.out⟩
  ·have T:Hid (false=decide (ks2 (a0,a1,a2)=ks2 (a0,b1,b2))):=(decide_eq_false (fun e=>h1 (congrArg (fun z:Int×Int=>z.2) e))).symm
   have hne:(a1 == b1)=false:=beq_eq_false_iff_ne.2 h1
   clear h1
   go_enter Tryz.func121,Tryz.ntmps121
   go_wp2
   go_ret
   exact ⟨ret_bool T.out,hal.out⟩
 ·have T:Hid (false=decide (ks2 (a0,a1,a2)=ks2 (b0,b1,b2))):=(decide_eq_false (fun e=>h0 (congrArg (fun z:Int×Int=>z.1) e))).symm
  have hne:(a0 == b0)=false:=beq_eq_false_iff_ne.2 h0
  clear h0
  go_enter Tryz.func121,Tryz.ntmps121
  go_wp2
  go_ret
  exact ⟨ret_bool T.out,hal.out⟩
theorem equalK_any (A1 A2:Option Addr) (c1 c2 n1 n2:Nat) (L1 L2:List Tr) (hn1:L1.length=n1) (hn2:L2.length=n2) (h1:n1≤1000) (h2:n2≤1000) (w:World) (H1:OpsP w A1 L1) (H2:OpsP w A2 L2) :
  Calls Tryz.prog 120 #[.slice A1 n1 c1,.slice A2 n2 c2,.func (.func 121) #[] #[]] w fun e w'=>e=.returned (.bool (decide (L1.map ks2=L2.map ks2)))∧Below w.heap.size w w':=by
 by_cases hl:n1=n2
 ·subst hl
  have X1:=Lib.hid H1
  have X2:=Lib.hid H2
  have HN1:=Lib.hid hn1
  have HN2:=Lib.hid hn2
  clear H1 H2 hn1 hn2 h2
  go_enter Tryz.func120,Tryz.ntmps120
  go_wp2
  go_loopw [17] (fun i wr=>∃ j:Nat,j≤n1∧i=.int .i64 j∧Hid (∀ k,k<j→ks2 (L1.getD k tr0)=ks2 (L2.getD k tr0))∧Hid (Below w.heap.size w wr)) (fun i _=>n1 - (intOf i).toNat)
  case atStart=>exact ⟨0,Nat.zero_le _,rfl,fun k h=>by omega,Below.refl _ _⟩
  case round=>
   obtain ⟨j,hj,rfl,R,B⟩:=hrel
   by_cases hlt:j<n1
   ·have hj1:j<L1.length:=by have:=HN1.out;omega
    have hj2:j<L2.length:=by have:=HN2.out;omega
    obtain ⟨b1,o1,rfl,l1,p0,p1,p2⟩:=(X1.out.below B.out).at_ hj1
    obtain ⟨b2,o2,rfl,l2,q0,q1,q2⟩:=(X2.out.below B.out).at_ hj2
    have g1:L1.getD j tr0=L1[j]:=by rw [List.getD_eq_getElem?_getD,List.getElem?_eq_getElem hj1];rfl
    have g2:L2.getD j tr0=L2[j]:=by rw [List.getD_eq_getElem?_getD,List.getElem?_eq_getElem hj2];rfl
    rw [← g1] at p0 p1 p2
    rw [← g2] at q0 q1 q2
    obtain ⟨x,hx⟩:∃ x,L1.getD j tr0=x:=⟨_,rfl⟩
    obtain ⟨y,hy⟩:∃ y,L2.getD j tr0=y:=⟨_,rfl⟩
    rw [hx] at p0 p1 p2
    rw [hy] at q0 q1 q2
    have HX:=Lib.hid hx
    have HY:=Lib.hid hy
    have IA:=fun w'=>isAlike_any x y w'
    obtain ⟨x0,x1,x2⟩:=x
    obtain ⟨y0,y1,y2⟩:=y
    simp only at p0 p1 p2 q0 q1 q2 IA
    have r0:=((up1 wr (.cells #[.int .i64 x0,.int .i64 x1,.int .i64 x2] 63)).cell (p:=⟨b2,o2+j*3,none⟩) l2).trans q0
    have r1:=((up1 wr (.cells #[.int .i64 x0,.int .i64 x1,.int .i64 x2] 63)).cell (p:=⟨b2,o2+j*3+1,none⟩) l2).trans q1
    have r2:=((up1 wr (.cells #[.int .i64 x0,.int .i64 x1,.int .i64 x2] 63)).cell (p:=⟨b2,o2+j*3+2,none⟩) l2).trans q2
    clear q0 q1 q2 l1 l2
    obtain ⟨wa,hwa⟩:∃ z,(wr.alloc (.cells #[.int .i64 x0,.int .i64 x1,.int .i64 x2] 63)).alloc (.cells #[.int .i64 y0,.int .i64 y1,.int .i64 y2] 63)=z:=⟨_,rfl⟩
    have ba:Below wr.heap.size wr wa:=by rw [← hwa];exact ((Below.refl _ _).alloc (Nat.le_refl _) _).alloc (by simp) _
    have BA:Hid (Below w.heap.size w wa):=B.out.trans (ba.mono B.out.size)
    have SA:Hid (w.heap.size≤wa.heap.size):=BA.out.size
    have IA:=IA wa
    rw [← hwa] at IA
    have HWA:=Lib.hid hwa
    obtain ⟨tt,htt⟩:∃ z,decide (ks2 (x0,x1,x2)=ks2 (y0,y1,y2))=z:=⟨_,rfl⟩
    rw [htt] at IA
    have HT:=Lib.hid htt
    clear hx hy g1 g2 hj1 hj2 ba htt B hwa
    go_wp2_with fail
    refine IA.mono ?_
    rintro e w5 ⟨rfl,hb⟩
    rw [HWA.out] at hb
    have B5:Hid (Below w.heap.size w w5):=BA.out.trans (hb.mono SA.out)
    clear hb IA
    cases tt with
    | true=>
     have R2:Hid (∀ k,k<j+1→ks2 (L1.getD k tr0)=ks2 (L2.getD k tr0)):=fun k hk=>by
      by_cases e:k=j
      ·subst e
       rw [HX.out,HY.out]
       exact of_decide_eq_true HT.out
      ·exact R.out k (by omega)
     clear R
     go_wp2
     go_roundw
     case rel=>exact ⟨j+1,by omega,by go_num,R2.out,B5.out⟩
     case measure=>simp [intOf];omega
    | false=>
     have T:Hid (false=decide (L1.map ks2=L2.map ks2)):=(decide_eq_false (fun e=>by
      have h:=get_of_shape e j (by have:=HN1.out;omega)
      rw [HX.out,HY.out] at h
      exact of_decide_eq_false HT.out (Prod.ext h.1 h.2))).symm
     clear R
     go_wp2
     go_ret
     exact ⟨ret_bool T.out,B5.out⟩
   ·have T:Hid (true=decide (L1.map ks2=L2.map ks2)):=by
     refine (decide_eq_true (List.ext_getElem (by simp [HN1.out,HN2.out]) fun k a b=>?_)).symm
     have a':k<L1.length:=by simpa using a
     have b':k<L2.length:=by simpa using b
     have h:=R.out k (by have:=HN1.out;omega)
     rw [List.getElem_map,List.getElem_map]
     rw [List.getD_eq_getElem?_getD,List.getElem?_eq_getElem a',List.getD_eq_getElem?_getD,List.getElem?_eq_getElem b'] at h
     exact h
    clear R
    go_wp2
    go_ret
    exact ⟨ret_bool T.out,B.out⟩
 ·have T:Hid (false=decide (L1.map ks2=L2.map ks2)):=(decide_eq_false (fun e=>hl (by rw [← hn1,← hn2];exact len_of_shape e))).symm
  have hl2:((n1:Int) == (n2:Int))=false:=beq_eq_false_iff_ne.2 (by omega)
  have hl3:¬((n1:Int)=(n2:Int)):=by omega
  clear H1 H2 hn1 hn2
  go_enter Tryz.func120,Tryz.ntmps120
  go_wp2
  go_ret
  exact ⟨ret_bool T.out,Below.refl _ _⟩
def ixF (L:List Tr) (k:Nat):Int:=(L.take k).foldl (fun a t=>max a (idxI t.1 t.2.1 t.2.2)) 0
theorem ixF_succ (L:List Tr) (k:Nat) (h:k<L.length):ixF L (k+1)=max (ixF L k) (idxI L[k].1 L[k].2.1 L[k].2.2):=by
 unfold ixF
 rw [List.take_succ_eq_append_getElem h,List.foldl_append]
 rfl
def ixC (L:List Tr):Int:=ixF L L.length
def pagesC (L:List Tr):List Int:=if ixC L=5 then [3,5] else if ixC L=6 then [4,6] else [0,1,2]
def RetPg (w:World) (l:List Int) (e:Ending) (w':World):Prop:=∃ A,e=.returned (.slice A l.length l.length)∧KsP w' A l∧Below w.heap.size w w'∧∀ a,A=some a→w.heap.size≤a.block
theorem ks_row (w:World) (L:List Int) (cs:Array Value) (hc:cs.toList=L.map fun n=>.int .i64 n) (t:TypeId):KsP (w.alloc (.cells cs t)) (some ⟨w.heap.size,0,none⟩) L:=by
 refine .inr ⟨_,0,rfl,fun k hk=>?_⟩
 rw [Lib.cell_of_heap (heap_alloc_new w _),Nat.zero_add,← Array.getElem?_toList,hc,List.getElem?_map,List.getElem?_eq_getElem hk]
 rfl
theorem pages_any (s:ByteArray) (A:Option Addr) (cap n:Nat) (L:List Tr) (hn:L.length=n) (hL:n≤1000) (w:World) (H:OpsP w A L) :
  Calls Tryz.prog 118 #[.agg #[.string s,.slice A n cap]] w (RetPg w (pagesC L)):=by
 have hb:Below w.heap.size w (w.alloc (.cells #[.string s,.slice A n cap] 26)):=(Below.refl _ _).alloc (Nat.le_refl _) _
 obtain ⟨wa,hwa⟩:∃ z,w.alloc (.cells #[.string s,.slice A n cap] 26)=z:=⟨_,rfl⟩
 have ca:wa.heap[w.heap.size]?=some (.cells #[.string s,.slice A n cap] 26 (0,0)):=by rw [← hwa];exact World.alloc_heap_new w _
 rw [hwa] at hb
 have X:=Lib.hid (H.below hb)
 have HB:=Lib.hid hb
 have HN:=Lib.hid hn
 have k0:=Lib.cell_of_heap ca 0
 have k1:=Lib.cell_of_heap ca 1
 have I0:Hid (ixF L 0=0):=rfl
 clear H hb ca hn
 go_enter Tryz.func118,Tryz.ntmps118
 go_wp2
 go_loopw [9,3] (fun i x wr=>∃ j:Nat,j≤n∧i=.int .i64 j∧x=.int .i64 (ixF L j)∧Hid (Below w.heap.size w wr)∧Hid (Below wa.heap.size wa wr)) (fun i _ _=>n - (intOf i).toNat)
 case atStart=>exact ⟨0,Nat.zero_le _,rfl,by rw [I0.out],HB.out,Below.refl _ _⟩
 case round=>
  clear k0 k1 I0
  obtain ⟨j,hj,rfl,rfl,B,B2⟩:=hrel
  by_cases hlt:j<n
  ·have hj1:j<L.length:=by have:=HN.out;omega
   obtain ⟨b1,o1,rfl,-,p0,p1,p2⟩:=(X.out.below B2.out).at_ hj1
   have SS:=ixF_succ L j hj1
   obtain ⟨x,hx⟩:∃ x,L[j]=x:=⟨_,rfl⟩
   rw [hx] at p0 p1 p2 SS
   obtain ⟨x0,x1,x2⟩:=x
   simp only at p0 p1 p2 SS
   obtain ⟨wb,hwb⟩:∃ z,wr.alloc (.cells #[.int .i64 x0,.int .i64 x1,.int .i64 x2] 63)=z:=⟨_,rfl⟩
   have ba:Below wr.heap.size wr wb:=by rw [← hwb];exact (Below.refl _ _).alloc (Nat.le_refl _) _
   have BA:Hid (Below w.heap.size w wb):=B.out.trans (ba.mono B.out.size)
   have BA2:Hid (Below wa.heap.size wa wb):=B2.out.trans (ba.mono B2.out.size)
   have nb:=World.alloc_heap_new wr (.cells #[.int .i64 x0,.int .i64 x1,.int .i64 x2] 63)
   rw [hwb] at nb
   have m0:=Lib.cell_of_heap nb 0
   have m1:=Lib.cell_of_heap nb 1
   have m2:=Lib.cell_of_heap nb 2
   have IX:=index_any x0 x1 x2 wb
   obtain ⟨u,hu⟩:∃ z,idxI x0 x1 x2=z:=⟨_,rfl⟩
   rw [hu] at IX SS
   obtain ⟨v,hv⟩:∃ z,ixF L j=z:=⟨_,rfl⟩
   rw [hv] at SS ⊢
   have SS:=Lib.hid SS
   clear hx hj1 ba hu hv B B2 nb
   go_wp2_with fail
   refine IX.mono ?_
   rintro e w5 ⟨rfl,hb⟩
   have B5:Hid (Below w.heap.size w w5):=BA.out.trans (hb.mono BA.out.size)
   have B6:Hid (Below wa.heap.size wa w5):=BA2.out.trans (hb.mono BA2.out.size)
   clear hb IX BA BA2 m0 m1 m2
   go_wp2
   go_roundw
   case rel=>exact ⟨j+1,by omega,by go_num,by rw [SS.out],B5.out,B6.out⟩
   case measure=>simp [intOf];omega
  ·obtain rfl:j=n:=by omega
   have E:Hid (ixC L=ixF L j):=by show ixC L=_;unfold ixC;rw [HN.out]
   obtain ⟨v,hv⟩:∃ z,ixF L j=z:=⟨_,rfl⟩
   rw [hv] at E ⊢
   clear hv B2
   by_cases h5:v=5
   ·subst h5
    have P:Hid (pagesC L=[3,5]):=by show pagesC L=_;unfold pagesC;rw [E.out];rfl
    have K:=Lib.hid (ks_row wr [3,5] #[.int .i64 3,.int .i64 5] rfl 3)
    have BB:Hid (Below w.heap.size w (wr.alloc (.cells #[.int .i64 3,.int .i64 5] 3))):=B.out.alloc B.out.size _
    go_wp2
    go_ret
    rw [P.out]
    exact ⟨_,rfl,K.out,BB.out,fun a ha=>by cases ha;exact B.out.size⟩
   ·by_cases h6:v=6
    ·subst h6
     have P:Hid (pagesC L=[4,6]):=by show pagesC L=_;unfold pagesC;rw [E.out];rfl
     have K:=Lib.hid (ks_row wr [4,6] #[.int .i64 4,.int .i64 6] rfl 3)
     have BB:Hid (Below w.heap.size w (wr.alloc (.cells #[.int .i64 4,.int .i64 6] 3))):=B.out.alloc B.out.size _
     go_wp2
     go_ret
     rw [P.out]
     exact ⟨_,rfl,K.out,BB.out,fun a ha=>by cases ha;exact B.out.size⟩
    ·have P:Hid (pagesC L=[0,1,2]):=by show pagesC L=_;unfold pagesC;rw [E.out,if_neg h5,if_neg h6]
     have K:=Lib.hid (ks_row wr [0,1,2] #[.int .i64 0,.int .i64 1,.int .i64 2] rfl 3)
     have BB:Hid (Below w.heap.size w (wr.alloc (.cells #[.int .i64 0,.int .i64 1,.int .i64 2] 3))):=B.out.alloc B.out.size _
     have e5:(v == 5)=false:=beq_eq_false_iff_ne.2 h5
     have e6:(v == 6)=false:=beq_eq_false_iff_ne.2 h6
     clear h5 h6
     go_wp2
     go_ret
     rw [P.out]
     exact ⟨_,rfl,K.out,BB.out,fun a ha=>by cases ha;exact B.out.size⟩
end Go.Proofs.YtoilebmbljpieaaGreatDoor
namespace Go.Proofs.YtoilebmbljpieaaGreatDoor
open Go.RowKit Go.Shelf
attribute [local go_sem] Oper.semAt_some
theorem varKB_eq (t:Tr):varKB t=((t.1 == 6)||(t.1 == 7)):=rfl
theorem drop_any {L:List Tr} {k:Nat} (h:∀ j (hj:j<L.length),k<j→varKB L[j]=false):(L.drop (k+1)).any varKB=false:=by
 rw [List.any_eq_false]
 intro x hx
 obtain ⟨i,hi,rfl⟩:=List.getElem_of_mem hx
 rw [List.getElem_drop]
 rw [h _ (by simp at hi;omega) (by omega)]
 decide
theorem drop_yes {L:List Tr} {k j:Nat} (hj:j<L.length) (hk:k<j) (h:varKB L[j]=true):(L.drop (k+1)).any varKB=true:=by
 rw [List.any_eq_true]
 refine ⟨L[j],?_,h⟩
 have:L[j]=(L.drop (k+1))[j - (k+1)]'(by simp;omega):=by rw [List.getElem_drop];congr 1;omega
 rw [this]
 exact List.getElem_mem _
def lastR (ex:Str):UInt8:=if ex.contains 110=true then 110 else if ex.contains 119=true then 119 else 0
theorem letR_a {ex:Str} {L:List Tr} {k:Nat} (hk:k<L.length) (h:L[k].1=5) (hc:ex.contains 100=true):letR ex L k=100:=by
 unfold letR;rw [if_pos ⟨by rw [List.getD_eq_getElem?_getD,List.getElem?_eq_getElem hk];exact h,hc⟩]
theorem letR_b {ex:Str} {L:List Tr} {k:Nat} (hk:k<L.length) (h1:¬(L[k].1=5∧ex.contains 100=true)) (h:L[k].1=10) (hc:ex.contains 101=true):letR ex L k=101:=by
 have e:(L.getD k tr0)=L[k]:=by rw [List.getD_eq_getElem?_getD,List.getElem?_eq_getElem hk];rfl
 unfold letR;rw [e,if_neg h1,if_pos ⟨h,hc⟩]
theorem letR_c {ex:Str} {L:List Tr} {k:Nat} (hk:k<L.length) (h1:¬(L[k].1=5∧ex.contains 100=true)) (h2:¬(L[k].1=10∧ex.contains 101=true)) (h:varKB L[k]=false):letR ex L k=0:=by
 have e:(L.getD k tr0)=L[k]:=by rw [List.getD_eq_getElem?_getD,List.getElem?_eq_getElem hk];rfl
 unfold letR;rw [e,if_neg h1,if_neg h2,if_pos h]
theorem letR_d {ex:Str} {L:List Tr} {k:Nat} (hk:k<L.length) (h1:¬(L[k].1=5∧ex.contains 100=true)) (h2:¬(L[k].1=10∧ex.contains 101=true)) (h:varKB L[k]=true) (hd:(L.drop (k+1)).any varKB=true):letR ex L k=0:=by
 have e:(L.getD k tr0)=L[k]:=by rw [List.getD_eq_getElem?_getD,List.getElem?_eq_getElem hk];rfl
 unfold letR;rw [e,if_neg h1,if_neg h2,if_neg (by rw [h];decide),if_pos hd]
theorem letR_e {ex:Str} {L:List Tr} {k:Nat} (hk:k<L.length) (h1:¬(L[k].1=5∧ex.contains 100=true)) (h2:¬(L[k].1=10∧ex.contains 101=true)) (h:varKB L[k]=true) (hd:(L.drop (k+1)).any varKB=false):letR ex L k=lastR ex:=by
 have e:(L.getD k tr0)=L[k]:=by rw [List.getD_eq_getElem?_getD,List.getElem?_eq_getElem hk];rfl
 unfold letR;rw [e,if_neg h1,if_neg h2,if_neg (by rw [h];decide),if_neg (by rw [hd];decide)];rfl
def RetLet (w:World) (c:UInt8) (e:Ending) (w':World):Prop:=e=.returned (.int .u8 (c.toNat:Int))∧Below w.heap.size w w'
end Go.Proofs.YtoilebmbljpieaaGreatDoor
namespace Go.Proofs.YtoilebmbljpieaaGreatDoor
open Go.RowKit Go.Shelf
attribute [local go_sem] Oper.semAt_some
theorem letter_any (page op:Int) (m:Str) (A:Option Addr) (cap l:Nat) (L:List Tr) (hl:L.length=l) (hL:l≤1000) (ex:Str) (hx:ex.length≤1000) (al:Bool) (k:Nat) (hk:k<l) (w:World) (H:OpsP w A L) :
  Calls Tryz.prog 83 #[enV page op m (.slice A l cap) ex al,.int .i64 k] w (RetLet w (letR ex L k)):=by
 have hk1:k<L.length:=by omega
 have rh:=fun c w'=>rhas_any ex hx c w'
 unfold enV
 obtain ⟨s,hs⟩:∃ s,sB ex=s:=⟨_,rfl⟩
 rw [hs] at rh ⊢
 clear hs
 obtain ⟨b,off,rfl,hb,p0,p1,p2⟩:=H.at_ hk1
 obtain ⟨⟨t0,t1,t2⟩,ht⟩:∃ t,L[k]=t:=⟨_,rfl⟩
 rw [ht] at p0 p1 p2
 simp only at p0 p1 p2
 obtain ⟨w0,hw0⟩:∃ z,w.alloc (.cells #[.int .i64 page,.int .u8 op,.string (sB m),.slice (some ⟨b,off,none⟩) l cap,.string s,.bool al] 41)=z:=⟨_,rfl⟩
 obtain ⟨n,hn⟩:∃ z,w.heap.size=z:=⟨_,rfl⟩
 have b0:Below w.heap.size w w0:=by rw [← hw0];exact up1 _ _
 have c0:w0.heap[n]?=some (.cells #[.int .i64 page,.int .u8 op,.string (sB m),.slice (some ⟨b,off,none⟩) l cap,.string s,.bool al] 41 (0,0)):=by rw [← hw0,← hn];exact World.alloc_heap_new w _
 have z0:w0.heap.size=n+1:=by rw [← hw0,← hn];simp
 obtain ⟨w1,hw1⟩:∃ z,w0.alloc (.cells #[.int .i64 t0,.int .i64 t1,.int .i64 t2] 63)=z:=⟨_,rfl⟩
 have b1:Below w0.heap.size w0 w1:=by rw [← hw1];exact up1 _ _
 have c1:w1.heap[n+1]?=some (.cells #[.int .i64 t0,.int .i64 t1,.int .i64 t2] 63 (0,0)):=by rw [← hw1,← z0];exact World.alloc_heap_new w0 _
 have bb:Below w.heap.size w w1:=b0.trans (b1.mono b0.size)
 have d0:=(b1.block n (by omega)).trans c0
 have BB:Hid (Below n w w1):=by rw [← hn];exact bb
 have HN:=Lib.hid hn
 have PL:=Lib.hid (H.below bb)
 have q0:=(b0.cell (p:=⟨b,off+k*3,none⟩) hb).trans p0
 have q1:=(b0.cell (p:=⟨b,off+k*3+1,none⟩) hb).trans p1
 have q2:=(b0.cell (p:=⟨b,off+k*3+2,none⟩) hb).trans p2
 have k3:=Lib.cell_of_heap c0 3
 have hkc:(k:Int)<(l:Int):=by omega
 have LA:=Lib.hid (letR_a (ex:=ex) hk1)
 have LB:=Lib.hid (letR_b (ex:=ex) hk1)
 have LC:=Lib.hid (letR_c (ex:=ex) hk1)
 have LD:=Lib.hid (letR_d (ex:=ex) hk1)
 have LE:=Lib.hid (letR_e (ex:=ex) hk1)
 rw [ht] at LA LB LC LD LE
 simp only [varKB_eq] at LA LB LC LD LE
 have HL:=Lib.hid hl
 have DY:=Lib.hid (fun j (hj:j<L.length)=>drop_yes (k:=k) hj)
 have DA:=Lib.hid (drop_any (L:=L) (k:=k))
 have V3:=Lib.hid (Lib.cell_of_heap d0 3)
 have V4:=Lib.hid (Lib.cell_of_heap d0 4)
 obtain ⟨h100,e100⟩:∃ z,ex.contains 100=z:=⟨_,rfl⟩
 obtain ⟨h101,e101⟩:∃ z,ex.contains 101=z:=⟨_,rfl⟩
 obtain ⟨h110,e110⟩:∃ z,ex.contains 110=z:=⟨_,rfl⟩
 obtain ⟨h119,e119⟩:∃ z,ex.contains 119=z:=⟨_,rfl⟩
 have R1:=Lib.hid (rh 100 w1)
 have R2:=Lib.hid (rh 101 w1)
 have R3:=Lib.hid (rh 110 w1)
 have R4:=Lib.hid (rh 119 w1)
 rw [e100] at R1 LA LB LC LD LE
 rw [e101] at R2 LB LC LD LE
 rw [e110] at R3
 rw [e119] at R4
 have LR:Hid (lastR ex=if h110=true then 110 else if h119=true then 119 else 0):=by show _=_;unfold lastR;rw [e110,e119]
 have u0:=Lib.cell_of_heap c1 0
 have u4:=Lib.cell_of_heap d0 4
 clear H b0 c0 b1 bb d0 rh ht hl e100 e101 e110 e119 hx hb p0 p1 p2 hk1
 obtain ⟨r,hr⟩:∃ z,letR ex L k=z:=⟨_,rfl⟩
 rw [hr] at LA LB LC LD LE ⊢
 clear hr
 go_enter Tryz.func83,Tryz.ntmps83
 go_upto_region 2 with fail
 clear k3 q0 q1 q2 hw1 hw0
 by_cases k5:t0=5
 ·subst k5
  go_wp2_with fail
  refine R1.out.mono ?_
  rintro e w' ⟨rfl,rfl⟩
  cases h100 with
  | true=>
   obtain rfl:=LA.out (by first | trivial | rfl) (by first | trivial | rfl)
   go_wp2
   go_ret
   exact ⟨rfl,by rw [HN.out];exact BB.out⟩
  | false=>
   obtain rfl:=LC.out (by simp) (by simp) (by decide)
   go_wp2
   go_ret
   exact ⟨rfl,by rw [HN.out];exact BB.out⟩
 ·have e5:(t0 == 5)=false:=beq_eq_false_iff_ne.2 k5
  by_cases k10:t0=10
  ·subst k10
   go_wp2_with fail
   refine R2.out.mono ?_
   rintro e w' ⟨rfl,rfl⟩
   cases h101 with
   | true=>
    obtain rfl:=LB.out (by simp) (by first | trivial | rfl) (by first | trivial | rfl)
    go_wp2
    go_ret
    exact ⟨rfl,by rw [HN.out];exact BB.out⟩
   | false=>
    obtain rfl:=LC.out (by simp) (by simp) (by decide)
    go_wp2
    go_ret
    exact ⟨rfl,by rw [HN.out];exact BB.out⟩
  ·have e10:(t0 == 10)=false:=beq_eq_false_iff_ne.2 k10
   by_cases k67:t0=6∨t0=7
   ·have K5:=Lib.hid k5
    have K10:=Lib.hid k10
    clear k5 k10 e5 e10
    rcases k67 with rfl | rfl
    ·skip
     go_wp2
     go_loopw [6] (fun i wr=>∃ j:Nat,k+1≤j∧j≤l∧i=.int .i64 j∧wr=w1∧Hid (∀ i (hi:i<L.length),k<i→i<j→varKB L[i]=false)) (fun i _=>l - (intOf i).toNat)
     case atStart=>exact ⟨k+1,Nat.le_refl _,by omega,by go_num,rfl,fun i hi h1 h2=>by omega⟩
     case round=>
      obtain ⟨j,hkj,hj,rfl,rfl,RR⟩:=hrel
      have w3:=V3.out
      by_cases hlt:j<l
      ·have hj1:j<L.length:=by have:=HL.out;omega
       obtain ⟨b2,o2,hA2,-,g0,g1,g2⟩:=PL.out.at_ hj1
       simp only [Option.some.injEq,Addr.mk.injEq,and_true] at hA2
       obtain ⟨rfl,rfl⟩:=hA2
       have hjc:(j:Int)<(l:Int):=by omega
       have DYj:=Lib.hid (DY.out j hj1 (by omega))
       have RN:Hid (varKB L[j]=false→∀ i (hi:i<L.length),k<i→i<j+1→varKB L[i]=false):=fun h i hi h1 h2=>by
        by_cases e:i=j
        ·subst e;exact h
        ·exact RR.out i hi h1 (by omega)
       obtain ⟨⟨y0,y1,y2⟩,hy⟩:∃ y,L[j]=y:=⟨_,rfl⟩
       rw [hy] at g0 DYj RN
       simp only [varKB_eq] at DYj RN
       simp only at g0
       clear g1 g2 hy hj1 RR
       by_cases y6:y0=6∨y0=7
       ·obtain rfl:=LD.out (fun h=>by cases h.1) (fun h=>by cases h.1) (by decide) (DYj.out (by rcases y6 with rfl | rfl <;> decide))
        rcases y6 with rfl | rfl
        all_goals
         go_wp2
         go_ret
         exact ⟨rfl,by rw [HN.out];exact BB.out⟩
       ·have n6:¬y0=6:=fun h=>y6 (.inl h)
        have n7:¬y0=7:=fun h=>y6 (.inr h)
        have m6:(y0 == 6)=false:=beq_eq_false_iff_ne.2 n6
        have m7:(y0 == 7)=false:=beq_eq_false_iff_ne.2 n7
        have R9:=Lib.hid (RN.out (by rw [m6,m7];rfl))
        clear y6 RN DYj
        go_wp2
        go_roundw
        case rel=>exact ⟨j+1,by omega,by omega,by go_num,by first | rfl | trivial,R9.out⟩
        case measure=>simp [intOf];omega
      ·obtain rfl:j=l:=by omega
       have DD:Hid (r=lastR ex):=LE.out (fun h=>by cases h.1) (fun h=>by cases h.1) (by decide) (DA.out fun i hi h1=>RR.out i hi h1 (by have:=HL.out;omega))
       have v4:=V4.out
       have DD2:Hid (r=if h110=true then 110 else if h119=true then 119 else 0):=by show r=_;rw [DD.out,LR.out]
       clear RR DD
       go_wp2_with fail
       refine R3.out.mono ?_
       rintro e w' ⟨rfl,rfl⟩
       cases h110 with
       | true=>
        obtain rfl:r=110:=DD2.out
        go_wp2
        go_ret
        exact ⟨rfl,by rw [HN.out];exact BB.out⟩
       | false=>
        go_wp2_with fail
        refine R4.out.mono ?_
        rintro e w' ⟨rfl,rfl⟩
        cases h119 with
        | true=>
         obtain rfl:r=119:=DD2.out
         go_wp2
         go_ret
         exact ⟨rfl,by rw [HN.out];exact BB.out⟩
        | false=>
         obtain rfl:r=0:=DD2.out
         go_wp2
         go_ret
         exact ⟨rfl,by rw [HN.out];exact BB.out⟩
    ·skip
     go_wp2
     go_loopw [6] (fun i wr=>∃ j:Nat,k+1≤j∧j≤l∧i=.int .i64 j∧wr=w1∧Hid (∀ i (hi:i<L.length),k<i→i<j→varKB L[i]=false)) (fun i _=>l - (intOf i).toNat)
     case atStart=>exact ⟨k+1,Nat.le_refl _,by omega,by go_num,rfl,fun i hi h1 h2=>by omega⟩
     case round=>
      obtain ⟨j,hkj,hj,rfl,rfl,RR⟩:=hrel
      have w3:=V3.out
      by_cases hlt:j<l
      ·have hj1:j<L.length:=by have:=HL.out;omega
       obtain ⟨b2,o2,hA2,-,g0,g1,g2⟩:=PL.out.at_ hj1
       simp only [Option.some.injEq,Addr.mk.injEq,and_true] at hA2
       obtain ⟨rfl,rfl⟩:=hA2
       have hjc:(j:Int)<(l:Int):=by omega
       have DYj:=Lib.hid (DY.out j hj1 (by omega))
       have RN:Hid (varKB L[j]=false→∀ i (hi:i<L.length),k<i→i<j+1→varKB L[i]=false):=fun h i hi h1 h2=>by
        by_cases e:i=j
        ·subst e;exact h
        ·exact RR.out i hi h1 (by omega)
       obtain ⟨⟨y0,y1,y2⟩,hy⟩:∃ y,L[j]=y:=⟨_,rfl⟩
       rw [hy] at g0 DYj RN
       simp only [varKB_eq] at DYj RN
       simp only at g0
       clear g1 g2 hy hj1 RR
       by_cases y6:y0=6∨y0=7
       ·obtain rfl:=LD.out (fun h=>by cases h.1) (fun h=>by cases h.1) (by decide) (DYj.out (by rcases y6 with rfl | rfl <;> decide))
        rcases y6 with rfl | rfl
        all_goals
         go_wp2
         go_ret
         exact ⟨rfl,by rw [HN.out];exact BB.out⟩
       ·have n6:¬y0=6:=fun h=>y6 (.inl h)
        have n7:¬y0=7:=fun h=>y6 (.inr h)
        have m6:(y0 == 6)=false:=beq_eq_false_iff_ne.2 n6
        have m7:(y0 == 7)=false:=beq_eq_false_iff_ne.2 n7
        have R9:=Lib.hid (RN.out (by rw [m6,m7];rfl))
        clear y6 RN DYj
        go_wp2
        go_roundw
        case rel=>exact ⟨j+1,by omega,by omega,by go_num,by first | rfl | trivial,R9.out⟩
        case measure=>simp [intOf];omega
      ·obtain rfl:j=l:=by omega
       have DD:Hid (r=lastR ex):=LE.out (fun h=>by cases h.1) (fun h=>by cases h.1) (by decide) (DA.out fun i hi h1=>RR.out i hi h1 (by have:=HL.out;omega))
       have v4:=V4.out
       have DD2:Hid (r=if h110=true then 110 else if h119=true then 119 else 0):=by show r=_;rw [DD.out,LR.out]
       clear RR DD
       go_wp2_with fail
       refine R3.out.mono ?_
       rintro e w' ⟨rfl,rfl⟩
       cases h110 with
       | true=>
        obtain rfl:r=110:=DD2.out
        go_wp2
        go_ret
        exact ⟨rfl,by rw [HN.out];exact BB.out⟩
       | false=>
        go_wp2_with fail
        refine R4.out.mono ?_
        rintro e w' ⟨rfl,rfl⟩
        cases h119 with
        | true=>
         obtain rfl:r=119:=DD2.out
         go_wp2
         go_ret
         exact ⟨rfl,by rw [HN.out];exact BB.out⟩
        | false=>
         obtain rfl:r=0:=DD2.out
         go_wp2
         go_ret
         exact ⟨rfl,by rw [HN.out];exact BB.out⟩
   ·have e6:(t0 == 6)=false:=beq_eq_false_iff_ne.2 (fun h=>k67 (.inl h))
    have e7:(t0 == 7)=false:=beq_eq_false_iff_ne.2 (fun h=>k67 (.inr h))
    obtain rfl:=LC.out (fun h=>k5 h.1) (fun h=>k10 h.1) (by rw [e6,e7];rfl)
    have n6:¬t0=6:=fun h=>k67 (.inl h)
    have n7:¬t0=7:=fun h=>k67 (.inr h)
    have m6:(t0 != 6)=true:=bne_iff_ne.2 n6
    have m7:(t0 != 7)=true:=bne_iff_ne.2 n7
    clear k5 k10 k67 e6 e7
    go_wp2
    go_ret
    exact ⟨rfl,by rw [HN.out];exact BB.out⟩
end Go.Proofs.YtoilebmbljpieaaGreatDoor
