/-
  TbI, TbJ, TbK, TbL, TbM, TbN.
-/
import Derived.Test.YtajlleeonddinaaGreatDoorGAB
import Derived.Laws.AppendOwn
import Derived.Laws.OwnMore
import Derived.Deep.DeepCutAuto
set_option linter.all false
set_option maxRecDepth 100000
set_option maxHeartbeats 4000000
namespace Go.Proofs.YtajlleeonddinaaGreatDoor
open Go.RowKit Go.Shelf
def arN (n:Nat):Str:=([[65,68,68],[65,68,67],[83,85,66],[83,66,67],[65,78,68],[88,79,82],[79,82],[67,80]]:List Str).getD n []
def arB (n:Nat):Str:=([[65,44],[65,44],[],[65,44],[],[],[],[]]:List Str).getD n []
def roN (n:Nat):Str:=([[82,76,67],[82,82,67],[82,76],[82,82],[83,76,65],[83,82,65],[83,76,76],[83,82,76]]:List Str).getD n []
theorem sB_eq (l k:Str):((sB l).toList == k)=decide (l=k):=by
 rw [ByteArray.toList_eq]
 show (l.toArray.toList == k)=_
 rw [List.toList_toArray]
 by_cases h:l=k
 ·subst h;simp
 ·rw [decide_eq_false h];simpa using h
theorem arithmetic_of (p:Pat) (hl:p.1.length=8) (op:Int) (h0:0≤op) (h1:op≤255) (k:Int) (s:ByteArray) (t1 t2 t3:Bool) (hn:numP p.1 op 97=k) (hix:∀ w,(Instr.index 295 (.agg #[.string ⟨#[65,68,68]⟩,.string ⟨#[65,68,67]⟩,.string ⟨#[83,85,66]⟩,.string ⟨#[83,66,67]⟩,.string ⟨#[65,78,68]⟩,.string ⟨#[88,79,82]⟩,.string ⟨#[79,82]⟩,.string ⟨#[67,80]⟩]) (.int .i64 k)).run Tryz.prog w=.ok (.string s) w) (q1:(s.toList == [65,68,68])=t1) (q2:(s.toList == [65,68,67])=t2) (q3:(s.toList == [83,66,67])=t3) (w:World):Calls Tryz.prog 236 #[codeV p op] w
  fun e w'=>e=.returned (.tuple #[.string s,.string (if t1||t2||t3 then ⟨#[65,44]⟩ else ⟨#[]⟩)])∧Below w.heap.size w w':=by
 unfold codeV
 obtain ⟨w0,hw0⟩:∃ w0,w.alloc (.cells #[.string (sB p.1),.string (sB p.2),.int .u8 op] 242)=w0:=⟨_,rfl⟩
 have B0:Hid (Below w.heap.size w w0):=by rw [← hw0];exact (Below.refl _ _).alloc (Nat.le_refl _) _
 have C0:w0.heap[w.heap.size]?=some (.cells #[.string (sB p.1),.string (sB p.2),.int .u8 op] 242 (0,0)):=by rw [← hw0];exact World.alloc_heap_new w _
 have k0:=Lib.cell_of_heap C0 0
 have k1:=Lib.cell_of_heap C0 1
 have k2:=Lib.cell_of_heap C0 2
 have hnum:=number_any p.1 p.2 hl op h0 h1 97 w0
 rw [hn] at hnum
 have Z0:=B0.out.size
 clear C0
 go_enter Tryz.func236,Tryz.ntmps236
 go_wp2_with fail
 refine hnum.mono ?_
 rintro e w1 ⟨rfl,hb1⟩
 have B1:Hid (Below w.heap.size w w1):=B0.out.trans (hb1.mono Z0)
 clear hb1 hnum hw0 B0 Z0 k0 k1 k2
 cases t1 <;> cases t2 <;> cases t3
 all_goals
  go_wp2
  go_ret2
  exact ⟨rfl,B1.out⟩
theorem lt8 {n:Int} (h0:0≤n) (h1:n≤7):n=0∨n=1∨n=2∨n=3∨n=4∨n=5∨n=6∨n=7:=by omega
theorem arithmetic_any (p:Pat) (hl:p.1.length=8) (op:Int) (h0:0≤op) (h1:op≤255) (hn:numP p.1 op 97≤7) (w:World):Calls Tryz.prog 236 #[codeV p op] w
  fun e w'=>e=.returned (.tuple #[.string (sB (arN (numP p.1 op 97).toNat)),.string (sB (arB (numP p.1 op 97).toNat))])∧Below w.heap.size w w':=by
 rcases lt8 (numP_bd p.1 op h0 h1 97).1 hn with h | h | h | h | h | h | h | h
 ·rw [h]
  exact arithmetic_of p hl op h0 h1 0 (sB (arN 0)) true false false h (fun _=>by kernel_rfl) (by kernel_rfl) (by kernel_rfl) (by kernel_rfl) w
 ·rw [h]
  exact arithmetic_of p hl op h0 h1 1 (sB (arN 1)) false true false h (fun _=>by kernel_rfl) (by kernel_rfl) (by kernel_rfl) (by kernel_rfl) w
 ·rw [h]
  exact arithmetic_of p hl op h0 h1 2 (sB (arN 2)) false false false h (fun _=>by kernel_rfl) (by kernel_rfl) (by kernel_rfl) (by kernel_rfl) w
 ·rw [h]
  exact arithmetic_of p hl op h0 h1 3 (sB (arN 3)) false false true h (fun _=>by kernel_rfl) (by kernel_rfl) (by kernel_rfl) (by kernel_rfl) w
 ·rw [h]
  exact arithmetic_of p hl op h0 h1 4 (sB (arN 4)) false false false h (fun _=>by kernel_rfl) (by kernel_rfl) (by kernel_rfl) (by kernel_rfl) w
 ·rw [h]
  exact arithmetic_of p hl op h0 h1 5 (sB (arN 5)) false false false h (fun _=>by kernel_rfl) (by kernel_rfl) (by kernel_rfl) (by kernel_rfl) w
 ·rw [h]
  exact arithmetic_of p hl op h0 h1 6 (sB (arN 6)) false false false h (fun _=>by kernel_rfl) (by kernel_rfl) (by kernel_rfl) (by kernel_rfl) w
 ·rw [h]
  exact arithmetic_of p hl op h0 h1 7 (sB (arN 7)) false false false h (fun _=>by kernel_rfl) (by kernel_rfl) (by kernel_rfl) (by kernel_rfl) w
def wordsT (p:Pat) (op:Int):Str×Str×Str:=
 if (cutL [32] p.2).1=[97] then (arN (numP p.1 op 97).toNat,arB (numP p.1 op 97).toNat,(cutL [32] p.2).2.1) else
 if (cutL [32] p.2).1=[111] then (roN (numP p.1 op 111).toNat,[],(cutL [32] p.2).2.1) else ((cutL [32] p.2).1,[],(cutL [32] p.2).2.1)
def RetWords (w:World) (x:Str×Str×Str) (e:Ending) (w':World):Prop:=e=.returned (.tuple #[.string (sB x.1),.string (sB x.2.1),.string (sB x.2.2)])∧Below w.heap.size w w'
theorem words_start (w:World) (p:Pat) (op:Int):∃ w0,w.alloc (.cells #[.string (sB p.1),.string (sB p.2),.int .u8 op] 242)=w0∧Below w.heap.size w w0∧w0.heap.size=w.heap.size+1∧w0.heap[w.heap.size]?=some (.cells #[.string (sB p.1),.string (sB p.2),.int .u8 op] 242 (0,0)):=
 ⟨_,rfl,(Below.refl _ _).alloc (Nat.le_refl _) _,by simp,World.alloc_heap_new w _⟩
theorem words_a (p:Pat) (hl:p.1.length=8) (hf:p.2.length≤100000) (op:Int) (h0:0≤op) (h1:op≤255) (hn:numP p.1 op 97≤7) (hc:(cutL [32] p.2).1=[97]) (w:World) (hM:MaxAt w):Calls Tryz.prog 210 #[codeV p op] w (RetWords w (wordsT p op)):=by
 unfold codeV
 obtain ⟨w0,hw0,b0,Z0,c0⟩:=words_start w p op
 have hM0:=hM.below b0
 have hcut:=cut_any p.2 [32] hf w0 hM0
 have k0:=Lib.cell_of_heap c0 0
 have k1:=Lib.cell_of_heap c0 1
 have k2:=Lib.cell_of_heap c0 2
 have B0:=Lib.hid b0
 have C0:=Lib.hid c0
 clear b0 c0
 obtain ⟨m,hm⟩:∃ m,(cutL [32] p.2).1=m:=⟨_,rfl⟩
 obtain ⟨a,ha⟩:∃ a,(cutL [32] p.2).2.1=a:=⟨_,rfl⟩
 obtain ⟨f,hf3⟩:∃ f,(cutL [32] p.2).2.2=f:=⟨_,rfl⟩
 rw [hm,ha,hf3] at hcut
 rw [hc] at hm
 subst hm
 have E:Hid (wordsT p op=(arN (numP p.1 op 97).toNat,arB (numP p.1 op 97).toNat,a)):=by show wordsT p op=_;unfold wordsT;rw [if_pos hc,ha]
 have har:=arithmetic_any p hl op h0 h1 hn
 obtain ⟨x,hx⟩:∃ x,arN (numP p.1 op 97).toNat=x:=⟨_,rfl⟩
 obtain ⟨y,hy⟩:∃ y,arB (numP p.1 op 97).toNat=y:=⟨_,rfl⟩
 rw [hx,hy] at har E
 simp only [codeV] at har
 have ht:((sB [97]).toList == [97])=true:=by rw [sB_eq];rfl
 clear hx hy ha hf3 hc
 go_enter Tryz.func210,Tryz.ntmps210
 go_wp2_with fail
 refine hcut.mono ?_
 rintro e w1 ⟨rfl,q,rfl⟩
 have B1:Hid (Below w.heap.size w (w0.drewN q)):=below_dn B0.out q
 have D1:(w0.drewN q).heap[w.heap.size]?=some (.cells #[.string (sB p.1),.string (sB p.2),.int .u8 op] 242 (0,0)):=C0.out
 have Z1:(w0.drewN q).heap.size=w.heap.size+1:=Z0
 obtain ⟨w1,hw1⟩:∃ w1,w0.drewN q=w1:=⟨_,rfl⟩
 rw [hw1] at B1 D1 Z1 ⊢
 clear hw1 hcut hw0 k0 k1 k2 B0 C0 Z0 hM0 w0 hM
 have k0:=Lib.cell_of_heap D1 0
 have k1:=Lib.cell_of_heap D1 1
 have k2:=Lib.cell_of_heap D1 2
 clear D1
 have har:=har w1
 go_wp2_with fail
 refine har.mono ?_
 rintro e w2 ⟨rfl,hb2⟩
 have B2:Hid (Below w.heap.size w w2):=B1.out.trans (hb2.mono (by omega))
 clear hb2 har B1 k0 k1 k2 Z1
 go_wp2
 go_ret3
 exact ⟨by rw [E.out];rfl,B2.out⟩
theorem words_of (p:Pat) (hl:p.1.length=8) (hf:p.2.length≤100000) (op:Int) (h0:0≤op) (h1:op≤255) (k:Int) (r:Str) (hn:numP p.1 op 111=k) (hr:roN k.toNat=r) (hix:∀ w,(Instr.index 295 (.agg #[.string ⟨#[82,76,67]⟩,.string ⟨#[82,82,67]⟩,.string ⟨#[82,76]⟩,.string ⟨#[82,82]⟩,.string ⟨#[83,76,65]⟩,.string ⟨#[83,82,65]⟩,.string ⟨#[83,76,76]⟩,.string ⟨#[83,82,76]⟩]) (.int .i64 k)).run Tryz.prog w=.ok (.string (sB r)) w) (hc:(cutL [32] p.2).1=[111]) (w:World) (hM:MaxAt w):Calls Tryz.prog 210 #[codeV p op] w (RetWords w (wordsT p op)):=by
 unfold codeV
 obtain ⟨w0,hw0,b0,Z0,c0⟩:=words_start w p op
 have hM0:=hM.below b0
 have hcut:=cut_any p.2 [32] hf w0 hM0
 have k0:=Lib.cell_of_heap c0 0
 have k1:=Lib.cell_of_heap c0 1
 have k2:=Lib.cell_of_heap c0 2
 have B0:=Lib.hid b0
 have C0:=Lib.hid c0
 clear b0 c0
 obtain ⟨m,hm⟩:∃ m,(cutL [32] p.2).1=m:=⟨_,rfl⟩
 obtain ⟨a,ha⟩:∃ a,(cutL [32] p.2).2.1=a:=⟨_,rfl⟩
 obtain ⟨f,hf3⟩:∃ f,(cutL [32] p.2).2.2=f:=⟨_,rfl⟩
 rw [hm,ha,hf3] at hcut
 rw [hc] at hm
 subst hm
 have E:Hid (wordsT p op=(r,[],a)):=by show wordsT p op=_;unfold wordsT;rw [if_neg (by rw [hc];decide),if_pos hc,ha,hn,hr]
 have hnum:=number_any p.1 p.2 hl op h0 h1 111
 rw [hn] at hnum
 have ht:((sB [111]).toList == [97])=false:=by rw [sB_eq];rfl
 have ht2:((sB [111]).toList == [111])=true:=by rw [sB_eq];rfl
 clear ha hf3 hc
 go_enter Tryz.func210,Tryz.ntmps210
 go_wp2_with fail
 refine hcut.mono ?_
 rintro e w1 ⟨rfl,q,rfl⟩
 have B1:Hid (Below w.heap.size w (w0.drewN q)):=below_dn B0.out q
 have D1:(w0.drewN q).heap[w.heap.size]?=some (.cells #[.string (sB p.1),.string (sB p.2),.int .u8 op] 242 (0,0)):=C0.out
 have Z1:(w0.drewN q).heap.size=w.heap.size+1:=Z0
 obtain ⟨w1,hw1⟩:∃ w1,w0.drewN q=w1:=⟨_,rfl⟩
 rw [hw1] at B1 D1 Z1 ⊢
 clear hw1 hcut hw0 k0 k1 k2 B0 C0 Z0 hM0 w0 hM
 have k0:=Lib.cell_of_heap D1 0
 have k1:=Lib.cell_of_heap D1 1
 have k2:=Lib.cell_of_heap D1 2
 clear D1
 have hnum:=hnum w1
 go_wp2_with fail
 refine hnum.mono ?_
 rintro e w2 ⟨rfl,hb2⟩
 have B2:Hid (Below w.heap.size w w2):=B1.out.trans (hb2.mono (by omega))
 clear hb2 hnum B1 k0 k1 k2 Z1
 go_wp2
 go_ret3
 exact ⟨by rw [E.out];rfl,B2.out⟩
theorem words_m (p:Pat) (hl:p.1.length=8) (hf:p.2.length≤100000) (op:Int) (h0:0≤op) (h1:op≤255) (hc:(cutL [32] p.2).1≠[97]) (hc2:(cutL [32] p.2).1≠[111]) (w:World) (hM:MaxAt w):Calls Tryz.prog 210 #[codeV p op] w (RetWords w (wordsT p op)):=by
 unfold codeV
 obtain ⟨w0,hw0,b0,Z0,c0⟩:=words_start w p op
 have hM0:=hM.below b0
 have hcut:=cut_any p.2 [32] hf w0 hM0
 have k0:=Lib.cell_of_heap c0 0
 have k1:=Lib.cell_of_heap c0 1
 have k2:=Lib.cell_of_heap c0 2
 have B0:=Lib.hid b0
 have C0:=Lib.hid c0
 clear b0 c0
 obtain ⟨m,hm⟩:∃ m,(cutL [32] p.2).1=m:=⟨_,rfl⟩
 obtain ⟨a,ha⟩:∃ a,(cutL [32] p.2).2.1=a:=⟨_,rfl⟩
 obtain ⟨f,hf3⟩:∃ f,(cutL [32] p.2).2.2=f:=⟨_,rfl⟩
 rw [hm,ha,hf3] at hcut
 have E:Hid (wordsT p op=(m,[],a)):=by show wordsT p op=_;unfold wordsT;rw [if_neg hc,if_neg hc2,hm,ha]
 have ht:((sB m).toList == [97])=false:=by rw [sB_eq,← hm];exact decide_eq_false hc
 have ht2:((sB m).toList == [111])=false:=by rw [sB_eq,← hm];exact decide_eq_false hc2
 clear ha hf3 hc hc2 hm
 go_enter Tryz.func210,Tryz.ntmps210
 go_wp2_with fail
 refine hcut.mono ?_
 rintro e w1 ⟨rfl,q,rfl⟩
 have B1:Hid (Below w.heap.size w (w0.drewN q)):=below_dn B0.out q
 have D1:(w0.drewN q).heap[w.heap.size]?=some (.cells #[.string (sB p.1),.string (sB p.2),.int .u8 op] 242 (0,0)):=C0.out
 have Z1:(w0.drewN q).heap.size=w.heap.size+1:=Z0
 obtain ⟨w1,hw1⟩:∃ w1,w0.drewN q=w1:=⟨_,rfl⟩
 rw [hw1] at B1 D1 Z1 ⊢
 clear hw1 hcut hw0 k0 k1 k2 B0 C0 Z0 hM0 w0 hM
 have k0:=Lib.cell_of_heap D1 0
 have k1:=Lib.cell_of_heap D1 1
 have k2:=Lib.cell_of_heap D1 2
 clear D1
 go_wp2
 go_ret3
 exact ⟨by rw [E.out];rfl,B1.out⟩
theorem words_any (p:Pat) (hl:p.1.length=8) (hf:p.2.length≤100000) (op:Int) (h0:0≤op) (h1:op≤255) (hn:numP p.1 op 97≤7) (hn2:numP p.1 op 111≤7) (w:World) (hM:MaxAt w):Calls Tryz.prog 210 #[codeV p op] w (RetWords w (wordsT p op)):=by
 by_cases hc:(cutL [32] p.2).1=[97]
 ·exact words_a p hl hf op h0 h1 hn hc w hM
 ·by_cases hc2:(cutL [32] p.2).1=[111]
  ·rcases lt8 (numP_bd p.1 op h0 h1 111).1 hn2 with h | h | h | h | h | h | h | h
   ·exact words_of p hl hf op h0 h1 0 (roN 0) h rfl (fun _=>by kernel_rfl) hc2 w hM
   ·exact words_of p hl hf op h0 h1 1 (roN 1) h rfl (fun _=>by kernel_rfl) hc2 w hM
   ·exact words_of p hl hf op h0 h1 2 (roN 2) h rfl (fun _=>by kernel_rfl) hc2 w hM
   ·exact words_of p hl hf op h0 h1 3 (roN 3) h rfl (fun _=>by kernel_rfl) hc2 w hM
   ·exact words_of p hl hf op h0 h1 4 (roN 4) h rfl (fun _=>by kernel_rfl) hc2 w hM
   ·exact words_of p hl hf op h0 h1 5 (roN 5) h rfl (fun _=>by kernel_rfl) hc2 w hM
   ·exact words_of p hl hf op h0 h1 6 (roN 6) h rfl (fun _=>by kernel_rfl) hc2 w hM
   ·exact words_of p hl hf op h0 h1 7 (roN 7) h rfl (fun _=>by kernel_rfl) hc2 w hM
  ·exact words_m p hl hf op h0 h1 hc hc2 w hM
end Go.Proofs.YtajlleeonddinaaGreatDoor
namespace Go.Proofs.YtajlleeonddinaaGreatDoor
open Go.RowKit Go.Shelf
theorem wpList_appT {wr:World} {base:Nat} {v:Value} {xs:List Tr} (R:OwnT wr base v xs) (hbase:base≤wr.heap.size) {ops:Array Oper} {rest:List Oper} {o:Oper} {a:Act} {Q:Exit→Act→World→Prop} (hgd:o.guard=none) (s x:Operand)
  (ho:o.op=.call {callee:=.builtin .append,args:=#[s,x],argTypes:=#[22,22]}) (hs:a.eval s=v) (nb:Nat) (hnb:nb=wr.heap.size) (hx:a.eval x=.slice (some ⟨nb,0,none⟩) 1 1)
  (y:Tr) (k:Nat) (hk:xs.length=k) (hlen:k<10000)
  (h:∀ A' cap' w1,OwnT w1 base (.slice A' (k+1) cap') (xs++[y])→Below base wr w1→wpList Tryz.prog ops Q rest (a.put o.dst (.slice A' (k+1) cap')) w1):wpList Tryz.prog ops Q (o :: rest) a (wr.alloc (.cells #[.int .i64 y.1,.int .i64 y.2.1,.int .i64 y.2.2] 55)):=by
 subst hnb
 obtain ⟨i0,hi,hz0,hz1,hz2⟩:=info_parts info_opd
 have hb:Below base wr (wr.alloc (.cells #[.int .i64 y.1,.int .i64 y.2.1,.int .i64 y.2.2] 55)):=(Below.refl base wr).alloc hbase _
 have hown:=World.ownsRow.alloc R (.cells #[.int .i64 y.1,.int .i64 y.2.1,.int .i64 y.2.2] 55)
 refine wpList_append_own _ hgd s x 22 ho base 55 i0 (.agg #[.int .i64 0,.int .i64 0,.int .i64 0]) 3 24 Tryz.underlying22 hi hz0 hz1 hz2 rfl (by decide) v xs.length _ hs hown ⟨wr.heap.size,0,none⟩ 1 1 [.int .i64 y.1,.int .i64 y.2.1,.int .i64 y.2.2] hx rfl ?_ ?_ ?_ ?_ ?_ ?_
 ·intro j u hj
  match j,hj with
  | 0,hj=>simp at hj;subst hj;simp [Addr.add,go_sem]
  | 1,hj=>simp at hj;subst hj;simp [Addr.add,go_sem]
  | 2,hj=>simp at hj;subst hj;simp [Addr.add,go_sem]
 ·intro u hu
  simp at hu
  rcases hu with rfl | rfl | rfl <;> rfl
 ·unfold maxLen;omega
 ·omega
 ·simp;omega
 ·intro v' w1 hown' hgrow _
  have hO:OwnT w1 base v' (xs++[y]):=by
   unfold OwnT
   rw [List.length_append,cellsT_append]
   exact hown'
  obtain ⟨A',cap',rfl,-,-⟩:=hO.ops
  rw [List.length_append,hk] at hO ⊢
  exact h A' cap' w1 hO (hb.grown hgrow (by simp;omega) fun k hk=>(hown.lt k hk).1)
def isAliasT (m:Str) (op:Int):Bool:=
 if m=[78,69,71] then op != 68 else if m=[82,69,84,78] then op != 69 else if m=[73,77] then op != 70&&op != 86&&op != 94 else op == 99||op == 107
theorem isAlias_any (m:Str) (op:Int) (w:World):Calls Tryz.prog 232 #[.string (sB m),.int .u8 op] w fun e w'=>e=.returned (.bool (isAliasT m op))∧w'=w:=by
 by_cases h1:m=[78,69,71]
 ·have E:Hid (isAliasT m op=(op != 68)):=by show isAliasT m op=_;unfold isAliasT;rw [if_pos h1]
  have t1:((sB m).toList == [78,69,71])=true:=by rw [sB_eq];exact decide_eq_true h1
  clear h1
  go_enter Tryz.func232,Tryz.ntmps232
  go_wp2
  go_ret
  exact ⟨ret_bool E.out.symm,rfl⟩
 ·have t1:((sB m).toList == [78,69,71])=false:=by rw [sB_eq];exact decide_eq_false h1
  by_cases h2:m=[82,69,84,78]
  ·have E:Hid (isAliasT m op=(op != 69)):=by show isAliasT m op=_;unfold isAliasT;rw [if_neg h1,if_pos h2]
   have t2:((sB m).toList == [82,69,84,78])=true:=by rw [sB_eq];exact decide_eq_true h2
   clear h1 h2
   go_enter Tryz.func232,Tryz.ntmps232
   go_wp2
   go_ret
   exact ⟨ret_bool E.out.symm,rfl⟩
  ·have t2:((sB m).toList == [82,69,84,78])=false:=by rw [sB_eq];exact decide_eq_false h2
   by_cases h3:m=[73,77]
   ·have E:Hid (isAliasT m op=(op != 70&&op != 86&&op != 94)):=by show isAliasT m op=_;unfold isAliasT;rw [if_neg h1,if_neg h2,if_pos h3]
    have t3:((sB m).toList == [73,77])=true:=by rw [sB_eq];exact decide_eq_true h3
    clear h1 h2 h3
    by_cases a1:op=70
    ·subst a1
     go_enter Tryz.func232,Tryz.ntmps232
     go_wp2
     go_ret
     exact ⟨ret_bool E.out.symm,rfl⟩
    ·by_cases a2:op=86
     ·subst a2
      go_enter Tryz.func232,Tryz.ntmps232
      go_wp2
      go_ret
      exact ⟨ret_bool E.out.symm,rfl⟩
     ·have b1:(op != 70)=true:=by simpa using a1
      have b2:(op != 86)=true:=by simpa using a2
      have F:Hid (isAliasT m op=(op != 94)):=by have h:=E.out;rw [b1,b2] at h;show isAliasT m op=_;simpa using h
      clear a1 a2
      go_enter Tryz.func232,Tryz.ntmps232
      go_wp2
      go_ret
      exact ⟨ret_bool F.out.symm,rfl⟩
   ·have E:Hid (isAliasT m op=(op == 99||op == 107)):=by show isAliasT m op=_;unfold isAliasT;rw [if_neg h1,if_neg h2,if_neg h3]
    have t3:((sB m).toList == [73,77])=false:=by rw [sB_eq];exact decide_eq_false h3
    clear h1 h2 h3
    by_cases a1:op=99
    ·subst a1
     go_enter Tryz.func232,Tryz.ntmps232
     go_wp2
     go_ret
     exact ⟨ret_bool E.out.symm,rfl⟩
    ·have b1:(op == 99)=false:=by simpa using a1
     have F:Hid (isAliasT m op=(op == 107)):=by have h:=E.out;rw [b1] at h;show isAliasT m op=_;simpa using h
     clear a1
     go_enter Tryz.func232,Tryz.ntmps232
     go_wp2
     go_ret
     exact ⟨ret_bool F.out.symm,rfl⟩
end Go.Proofs.YtajlleeonddinaaGreatDoor
namespace Go.Proofs.YtajlleeonddinaaGreatDoor
open Go.RowKit Go.Shelf
def wordsF:Nat→Str→List Str
 | 0,_=>[]
 | n+1,l=>if l.isEmpty then [] else (cutL [44] l).1 :: wordsF n (cutL [44] l).2.1
theorem wordsF_nil (n:Nat):wordsF n []=[]:=by cases n <;> rfl
def splitW (l:Str):List Str:=wordsF l.length l
abbrev En:=Str×List Tr×Str×Bool
def argsT (p:Pat) (op:Int) (ws:List Str):List Tr:=ws.map fun w=>(opT p op w).1
def extraT (p:Pat) (op:Int) (ws:List Str):Str:=(ws.map fun w=>(opT p op w).2).flatten
def wordsOf (p:Pat) (op:Int):List Str:=splitW ((wordsT p op).2.1++(wordsT p op).2.2)
def plainT (p:Pat) (page op:Int):En:=((wordsT p op).1,argsT p op (wordsOf p op),extraT p op (wordsOf p op),page == 2&&isAliasT (wordsT p op).1 op)
structure Good (p:Pat) (op:Int):Prop where
 len:p.1.length=8
 form:p.2.length≤100
 op0:0≤op
 op1:op≤255
 na:numP p.1 op 97≤7
 no:numP p.1 op 111≤7
 args:((wordsT p op).2.1++(wordsT p op).2.2).length≤100
 words:∀ w∈wordsOf p op,w∈wordsAll
def EnAt (w:World) (b:Nat) (page op:Int) (m:Str) (v:Value) (ex:Str) (al:Bool):Prop:=w.heap[b]?=some (.cells #[.int .i64 page,.int .u8 op,.string (sB m),v,.string (sB ex),.bool al] 134 (0,0))
def enV (page op:Int) (m:Str) (v:Value) (ex:Str) (al:Bool):Value:=.agg #[.int .i64 page,.int .u8 op,.string (sB m),v,.string (sB ex),.bool al]
def RetEn (w:World) (page op:Int) (x:En) (e:Ending) (w':World):Prop:=∃ v,e=.returned (enV page op x.1 v x.2.2.1 x.2.2.2)∧OwnT w' w.heap.size v x.2.1∧Below w.heap.size w w'
theorem argsT_snoc (p:Pat) (op:Int) (a:List Str) (x:Str):argsT p op (a++[x])=argsT p op a++[(opT p op x).1]:=by unfold argsT;simp
theorem extraT_snoc (p:Pat) (op:Int) (a:List Str) (x:Str):extraT p op (a++[x])=extraT p op a++(opT p op x).2:=by unfold extraT;simp
theorem sB_append (a b:Str):sB a++sB b=sB (a++b):=by
 refine ByteArray.ext ?_
 show (sB a++sB b).data=(a++b).toArray
 rw [ByteArray.data_append]
 simp [sB]
theorem opT_len (p:Pat) (op:Int) (w:Str):(opT p op w).2.length≤w.length:=by
 unfold opT
 split
 ·exact Nat.le_refl _
 ·split
  ·exact Nat.le_refl _
  ·split
   ·simp;omega
   ·split <;> simp
theorem cutL_sum (sep l:Str):(cutL sep l).1.length+(cutL sep l).2.1.length≤l.length:=by
 unfold cutL
 split
 ·simp
 ·simp;omega
section
variable {w w':World} {b:Nat} {page op:Int} {m ex:Str} {v:Value} {al:Bool}
theorem EnAt.lt (h:EnAt w b page op m v ex al):b<w.heap.size:=(Array.getElem?_eq_some_iff.1 h).1
theorem EnAt.below {B:Nat} (h:EnAt w b page op m v ex al) (hb:Below B w w') (hB:b<B):EnAt w' b page op m v ex al:=(hb.block b hB).trans h
theorem EnAt.all (h:EnAt w b page op m v ex al) (hb:Below w.heap.size w w'):EnAt w' b page op m v ex al:=h.below hb h.lt
theorem EnAt.cells (h:EnAt w b page op m v ex al):w.cell? ⟨b,0,none⟩=some (.int .i64 page)∧w.cell? ⟨b,1,none⟩=some (.int .u8 op)∧w.cell? ⟨b,2,none⟩=some (.string (sB m))∧w.cell? ⟨b,3,none⟩=some v∧w.cell? ⟨b,4,none⟩=some (.string (sB ex))∧w.cell? ⟨b,5,none⟩=some (.bool al)∧∀ j,w.frozen? ⟨b,j,none⟩=false:=
 ⟨Lib.cell_of_heap h 0,Lib.cell_of_heap h 1,Lib.cell_of_heap h 2,Lib.cell_of_heap h 3,Lib.cell_of_heap h 4,Lib.cell_of_heap h 5,Lib.frozen_of_heap h⟩
theorem EnAt.set_args (h:EnAt w b page op m v ex al) (v':Value):EnAt (w.setCell ⟨b,3,none⟩ v') b page op m v' ex al:=heap_setCell_same w b 3 _ _ v' h
theorem EnAt.set_extra (h:EnAt w b page op m v ex al) (ex':Str):EnAt (w.setCell ⟨b,4,none⟩ (.string (sB ex'))) b page op m v ex' al:=heap_setCell_same w b 4 _ _ _ h
theorem EnAt.set_alias (h:EnAt w b page op m v ex al) (al':Bool):EnAt (w.setCell ⟨b,5,none⟩ (.bool al')) b page op m v ex al':=heap_setCell_same w b 5 _ _ _ h
theorem EnAt.set_code (h:EnAt w b page op m v ex al) (op':Int):EnAt (w.setCell ⟨b,1,none⟩ (.int .u8 op')) b page op' m v ex al:=heap_setCell_same w b 1 _ _ _ h
theorem EnAt.set_page (h:EnAt w b page op m v ex al) (page':Int):EnAt (w.setCell ⟨b,0,none⟩ (.int .i64 page')) b page' op m v ex al:=heap_setCell_same w b 0 _ _ _ h
theorem EnAt.set_mn (h:EnAt w b page op m v ex al) (m':Str):EnAt (w.setCell ⟨b,2,none⟩ (.string (sB m'))) b page op m' v ex al:=heap_setCell_same w b 2 _ _ _ h
theorem EnAt.put (h:EnAt w b page op m v ex al) (page' op':Int) (m':Str) (v':Value) (ex':Str) (al':Bool) :
  ∃ w',(((((w.setCell ⟨b,0,none⟩ (.int .i64 page')).setCell ⟨b,1,none⟩ (.int .u8 op')).setCell ⟨b,2,none⟩ (.string (sB m'))).setCell ⟨b,3,none⟩ v').setCell ⟨b,4,none⟩ (.string (sB ex'))).setCell ⟨b,5,none⟩ (.bool al')=w'∧
   EnAt w' b page' op' m' v' ex' al'∧Below b w w'∧w'.heap.size=w.heap.size∧(∀ B u L,b<B→OwnT w B u L→OwnT w' B u L)∧∀ k,k≠b→w'.heap[k]?=w.heap[k]?:=by
 refine ⟨_,rfl,(((((h.set_page page').set_code op').set_mn m').set_args v').set_extra ex').set_alias al',?_,by simp,fun B u L hB hO=>?_,fun k hk=>?_⟩
 ·exact ((((((Below.refl b w).setCell (p:=⟨b,0,none⟩) (Nat.le_refl _) _).setCell (p:=⟨b,1,none⟩) (Nat.le_refl _) _).setCell (p:=⟨b,2,none⟩) (Nat.le_refl _) _).setCell (p:=⟨b,3,none⟩) (Nat.le_refl _) _).setCell (p:=⟨b,4,none⟩) (Nat.le_refl _) _).setCell (p:=⟨b,5,none⟩) (Nat.le_refl _) _
 ·exact row_set (row_set (row_set (row_set (row_set (row_set hO (p:=⟨b,0,none⟩) hB _) (p:=⟨b,1,none⟩) hB _) (p:=⟨b,2,none⟩) hB _) (p:=⟨b,3,none⟩) hB _) (p:=⟨b,4,none⟩) hB _) (p:=⟨b,5,none⟩) hB _
 ·exact (heap_setCell_other _ ⟨b,5,none⟩ k _ hk).trans ((heap_setCell_other _ ⟨b,4,none⟩ k _ hk).trans ((heap_setCell_other _ ⟨b,3,none⟩ k _ hk).trans ((heap_setCell_other _ ⟨b,2,none⟩ k _ hk).trans ((heap_setCell_other _ ⟨b,1,none⟩ k _ hk).trans (heap_setCell_other _ ⟨b,0,none⟩ k _ hk)))))
theorem EnAt.set_other (h:EnAt w b page op m v ex al) {g j:Nat} (hg:b≠g) (u:Value):EnAt (w.setCell ⟨g,j,none⟩ u) b page op m v ex al:=(heap_setCell_other w ⟨g,j,none⟩ b u hg).trans h
end
theorem tplain_any (p:Pat) (page op:Int) (G:Good p op) (w:World) (hM:MaxAt w):Calls Tryz.prog 203 #[codeV p op,.int .i64 page] w (RetEn w page op (plainT p page op)):=by
 unfold codeV
 obtain ⟨w0,hw0⟩:∃ w0,(w.alloc (.cells #[.string (sB p.1),.string (sB p.2),.int .u8 op] 242)).alloc (.cells #[.int .i64 0,.int .u8 0,.string ⟨#[]⟩,.slice none 0 0,.string ⟨#[]⟩,.bool false] 134)=w0:=⟨_,rfl⟩
 obtain ⟨n,hn⟩:∃ n,w.heap.size=n:=⟨_,rfl⟩
 have Z0:w0.heap.size=n+1+1:=by rw [← hw0,← hn];simp
 have B0:Below n w w0:=by rw [← hw0,← hn];exact ((Below.refl _ w).alloc (Nat.le_refl _) _).alloc (by simp) _
 have C0:w0.heap[n]?=some (.cells #[.string (sB p.1),.string (sB p.2),.int .u8 op] 242 (0,0)):=by rw [← hw0,← hn];exact (Below.heap_alloc _ _ _ (by simp)).trans (World.alloc_heap_new w _)
 have R0:EnAt w0 (n+1) 0 0 [] (.slice none 0 0) [] false:=by
  rw [← hw0,← hn]
  have h:=World.alloc_heap_new (w.alloc (.cells #[.string (sB p.1),.string (sB p.2),.int .u8 op] 242)) (.cells #[.int .i64 0,.int .u8 0,.string ⟨#[]⟩,.slice none 0 0,.string ⟨#[]⟩,.bool false] 134)
  rw [World.size_alloc] at h
  exact h
 have hgn:0 < n:=by rw [← hn];exact hM.lt
 have hM0:MaxAt w0:=hM.belowN (n:=n) B0 hgn
 have hwd:=words_any p G.len (by have:=G.form;omega) op G.op0 G.op1 G.na G.no w0 hM0
 have k0:=Lib.cell_of_heap C0 0
 have k1:=Lib.cell_of_heap C0 1
 have k2:=Lib.cell_of_heap C0 2
 have GG:=Lib.hid G
 have HN:=Lib.hid hn
 simp only [codeV] at hwd
 obtain ⟨mn,hmn⟩:∃ m,(wordsT p op).1=m:=⟨_,rfl⟩
 obtain ⟨bf,hbf⟩:∃ m,(wordsT p op).2.1=m:=⟨_,rfl⟩
 obtain ⟨ar,har⟩:∃ m,(wordsT p op).2.2=m:=⟨_,rfl⟩
 have HW:Hid ((wordsT p op).1=mn∧wordsOf p op=splitW (bf++ar)∧(bf++ar).length≤100):=⟨hmn,by unfold wordsOf;rw [hbf,har],by rw [← hbf,← har];exact G.args⟩
 unfold RetWords at hwd
 rw [hmn,hbf,har] at hwd
 clear hmn hbf har G hM
 go_enter Tryz.func203,Tryz.ntmps203
 go_wp2_with fail
 refine hwd.mono ?_
 rintro e w1 ⟨rfl,hb1⟩
 have C1:=(hb1.block n (by omega)).trans C0
 have R1:EnAt w1 (n+1) 0 0 [] (.slice none 0 0) [] false:=(hb1.block (n+1) (by omega)).trans R0
 have B1:Below n w w1:=B0.trans (hb1.mono (by omega))
 have Z1:n+1+1≤w1.heap.size:=by have:=hb1.size;omega
 have M1:MaxAt w1:=hM0.below hb1
 clear hb1 hwd k0 k1 k2 C0 R0 B0 hw0 Z0 hM0 w0
 have k0:=Lib.cell_of_heap C1 0
 have k1:=Lib.cell_of_heap C1 1
 have k2:=Lib.cell_of_heap C1 2
 obtain ⟨b,hb⟩:∃ b,w1.heap.size=b:=⟨_,rfl⟩
 have K:=Lib.hid (And.intro C1 (And.intro R1 (And.intro B1 M1)))
 have hbn:n+1+1≤b:=by omega
 clear Z1 C1 R1 B1 M1
 have hlen:(sB bf).size+(sB ar).size≤100:=by have h:=HW.out.2.2;rw [sB_size,sB_size];simpa using h
 go_wp2
 obtain ⟨w2,hw2⟩:∃ w2,w1.alloc (.cells #[.int .i64 page,.int .u8 op,.string (sB mn),.slice none 0 0,.string ⟨#[]⟩,.bool false] 134)=w2:=⟨_,rfl⟩
 have E2:EnAt w2 b page op mn (.slice none 0 0) [] false:=by rw [← hw2,← hb];exact World.alloc_heap_new w1 _
 have Z2:w2.heap.size=b+1:=by rw [← hw2,← hb];simp
 have K2:Below b w1 w2:=by rw [← hw2,← hb];exact (Below.refl _ _).alloc (Nat.le_refl _) _
 rw [hw2]
 have E2:=Lib.hid E2
 have K2:=Lib.hid K2
 have Z2:=Lib.hid Z2
 clear hw2 k0 k1 k2 hlen
 rw [sB_append]
 have hl0:(bf++ar).length≤100:=HW.out.2.2
 obtain ⟨l0,hl0e⟩:∃ l,bf++ar=l:=⟨_,rfl⟩
 have HL0:=Lib.hid hl0e
 rw [hl0e] at hl0 ⊢
 go_loopw [7] (fun x wr=>∃ (done:List Str) (k:Nat) (l':Str) (v:Value),x=.string (sB l')∧l'.length≤k∧done.length+l'.length≤100∧(extraT p op done).length+l'.length≤100∧Hid (done++wordsF k l'=wordsOf p op)∧Hid (EnAt wr b page op mn v (extraT p op done) false)∧Hid (OwnT wr (b+1) v (argsT p op done))∧Hid (Below b w1 wr)∧b+1≤wr.heap.size) (fun x _=>strSz x)
 case atStart=>exact ⟨[],l0.length,l0,_,rfl,Nat.le_refl _,by simpa using hl0,by simpa [extraT] using hl0,by show []++_=_;rw [HW.out.2.1,HL0.out];rfl,E2.out,World.ownsRow_nil _ _ _ _,K2.out,by rw [Z2.out];exact Nat.le_refl _⟩
 case round=>
  clear E2 K2 Z2
  obtain ⟨done,k,l',v,rfl,hk,hd,hx,EQ,EE,OO,BB,hsz⟩:=hrel
  by_cases hemp:l'=[]
  ·subst hemp
   have hn0:=sB_nil []
   have EQ2:Hid (done=wordsOf p op):=by
    have h:=EQ.out
    rw [wordsF_nil,List.append_nil] at h
    exact h
   have RB:Hid (EnAt wr (n+1) 0 0 [] (.slice none 0 0) [] false):=K.out.2.1.below BB.out (by omega)
   have BN:Hid (Below n w wr):=K.out.2.2.1.trans (BB.out.mono (by omega))
   have k3:=(BB.out.block n (by omega)).trans K.out.1
   have k0:=Lib.cell_of_heap k3 0
   have k1:=Lib.cell_of_heap k3 1
   have k2:=Lib.cell_of_heap k3 2
   obtain ⟨A,cap,rfl,-,-⟩:=OO.out.ops
   obtain ⟨e0,e1,e2,e3,e4,e5,e6⟩:=EE.out.cells
   obtain ⟨r0,r1,r2,r3,r4,r5,r6⟩:=RB.out.cells
   have PL:Hid (plainT p page op=(mn,argsT p op done,extraT p op done,page == 2&&isAliasT mn op)):=by
    show plainT p page op=_
    unfold plainT
    rw [HW.out.1,EQ2.out]
   have hia:=isAlias_any mn op wr
   obtain ⟨ia,hia2⟩:∃ x,isAliasT mn op=x:=⟨_,rfl⟩
   rw [hia2] at hia PL
   clear EQ hk hd hia2 k3
   have hb1:b≠n+1:=by omega
   by_cases hp:page=2
   ·subst hp
    go_wp2_with fail
    refine hia.mono ?_
    rintro e w' ⟨rfl,h9⟩
    rw [h9]
    clear hia h9
    go_wp2
    have E3:=Lib.hid (EE.out.set_alias ia)
    have O3:Hid (OwnT (wr.setCell ⟨b,5,none⟩ (.bool ia)) (b+1) (.slice A (argsT p op done).length cap) (argsT p op done)):=row_set OO.out (p:=⟨b,5,none⟩) (by simp) _
    have R3:Hid (EnAt (wr.setCell ⟨b,5,none⟩ (.bool ia)) (n+1) 0 0 [] (.slice none 0 0) [] false):=RB.out.set_other hb1.symm _
    have B3:Hid (Below n w (wr.setCell ⟨b,5,none⟩ (.bool ia))):=BN.out.setCell (p:=⟨b,5,none⟩) (by simp;omega) _
    obtain ⟨w7,hw7,h1,h2,h3,h4,-⟩:=R3.out.put 2 op mn (.slice A (argsT p op done).length cap) (extraT p op done) ia
    rw [hw7]
    obtain ⟨q0,q1,q2,q3,q4,q5,-⟩:=h1.cells
    refine bodyPost_ret (v:=enV 2 op mn (.slice A (argsT p op done).length cap) (extraT p op done) ia) ?_ rfl ?_
    ·simp [results,Tryz.results203,go_sem,q0,q1,q2,q3,q4,q5,enV]
    ·refine ⟨.slice A (argsT p op done).length cap,by rw [PL.out];rfl,?_,?_⟩
     ·rw [PL.out,HN.out];exact (h4 _ _ _ (by omega) O3.out).lift (by omega)
     ·rw [HN.out];exact B3.out.trans (h2.mono (by omega))
   ·have hp2:(page == 2)=false:=by simpa using hp
    clear hia
    go_wp2
    have E3:=Lib.hid (EE.out.set_alias false)
    have O3:Hid (OwnT (wr.setCell ⟨b,5,none⟩ (.bool false)) (b+1) (.slice A (argsT p op done).length cap) (argsT p op done)):=row_set OO.out (p:=⟨b,5,none⟩) (by simp) _
    have R3:Hid (EnAt (wr.setCell ⟨b,5,none⟩ (.bool false)) (n+1) 0 0 [] (.slice none 0 0) [] false):=RB.out.set_other hb1.symm _
    have B3:Hid (Below n w (wr.setCell ⟨b,5,none⟩ (.bool false))):=BN.out.setCell (p:=⟨b,5,none⟩) (by simp;omega) _
    obtain ⟨w7,hw7,h1,h2,h3,h4,-⟩:=R3.out.put page op mn (.slice A (argsT p op done).length cap) (extraT p op done) false
    rw [hw7]
    obtain ⟨q0,q1,q2,q3,q4,q5,-⟩:=h1.cells
    refine bodyPost_ret (v:=enV page op mn (.slice A (argsT p op done).length cap) (extraT p op done) false) ?_ rfl ?_
    ·simp [results,Tryz.results203,go_sem,q0,q1,q2,q3,q4,q5,enV]
    ·refine ⟨.slice A (argsT p op done).length cap,by rw [PL.out,hp2];rfl,?_,?_⟩
     ·rw [PL.out,HN.out];exact (h4 _ _ _ (by omega) O3.out).lift (by omega)
     ·rw [HN.out];exact B3.out.trans (h2.mono (by omega))
  ·have hne:=sB_nil l'
   rw [List.isEmpty_eq_false_iff.2 hemp] at hne
   have h0':0<l'.length:=List.length_pos_iff.2 hemp
   obtain ⟨k,rfl⟩:∃ j,k=j+1:=⟨k - 1,by omega⟩
   have c1:=cutL_lt [44] l' (by decide) h0'
   have c2:=cutL_sum [44] l'
   have M1:MaxAt wr:=K.out.2.2.2.belowN BB.out (by omega)
   have hcut:=cut_any l' [44] (by omega) wr M1
   obtain ⟨wd,hwd⟩:∃ r,(cutL [44] l').1=r:=⟨_,rfl⟩
   obtain ⟨rest,hrest⟩:∃ r,(cutL [44] l').2.1=r:=⟨_,rfl⟩
   obtain ⟨fl,hfl⟩:∃ r,(cutL [44] l').2.2=r:=⟨_,rfl⟩
   have EQ2:Hid ((done++[wd])++wordsF k rest=wordsOf p op):=by
    have h:=EQ.out
    rw [wordsF,if_neg (by simpa using hemp),hwd,hrest] at h
    rw [List.append_assoc]
    exact h
   have MEM:Hid (wd∈wordsAll):=GG.out.words wd (by rw [← EQ2.out];simp)
   rw [hwd,hrest] at c2
   rw [hrest] at c1
   have LT:Hid (rest.length<l'.length):=c1.1
   have LS:Hid (wd.length+rest.length≤l'.length):=c2
   have S0:Hid (strSz (.string (sB l'))=l'.length):=sB_size l'
   have S1:Hid (strSz (.string (sB rest))=rest.length):=sB_size rest
   rw [hwd,hrest,hfl] at hcut
   clear EQ c1 c2 hwd hrest hfl hemp M1
   go_wp2_with fail
   refine hcut.mono ?_
   rintro e w' ⟨rfl,q,rfl⟩
   have hbq:=below_drewN wr wr.heap.size q
   have E3:=Lib.hid (EE.out.all hbq)
   have O3:=Lib.hid (OO.out.below hbq)
   have B3:Hid (Below b w1 (wr.drewN q)):=BB.out.trans (hbq.mono (by omega))
   have z3:b+1≤(wr.drewN q).heap.size:=hsz
   obtain ⟨w3,hw3⟩:∃ w3,wr.drewN q=w3:=⟨_,rfl⟩
   rw [hw3] at E3 O3 B3 z3 ⊢
   clear hw3 hbq hcut EE OO BB hsz wr
   have k3:=(B3.out.block n (by omega)).trans K.out.1
   have k0:=Lib.cell_of_heap k3 0
   have k1:=Lib.cell_of_heap k3 1
   have k2:=Lib.cell_of_heap k3 2
   clear k3
   have hop:=operand_any p GG.out.len op GG.out.op0 GG.out.op1 wd MEM.out w3
   obtain ⟨⟨⟨y0,y1,y2⟩,xs⟩,hy⟩:∃ y,opT p op wd=y:=⟨_,rfl⟩
   have HY:=Lib.hid hy
   have HX:Hid (xs.length≤wd.length):=by have h:=opT_len p op wd;rw [hy] at h;exact h
   rw [hy] at hop
   simp only [codeV,trV] at hop
   clear hy
   go_wp2_with fail
   refine hop.mono ?_
   rintro e w4 ⟨rfl,hb4⟩
   have E4:=Lib.hid (E3.out.all hb4)
   have O4:=Lib.hid (O3.out.below hb4)
   have B4:Hid (Below b w1 w4):=B3.out.trans (hb4.mono (by omega))
   have z4:b+1≤w4.heap.size:=by have:=hb4.size;omega
   clear hb4 hop E3 O3 B3 z3 k0 k1 k2
   obtain ⟨e0,e1,e2,e3,e4,e5,e6⟩:=E4.out.cells
   have O5:Hid (OwnT (w4.alloc (.cells #[.int .i64 y0,.int .i64 y1,.int .i64 y2] 55)) (b+1) v (argsT p op done)):=O4.out.below ((Below.refl _ _).alloc (Nat.le_refl _) _)
   have HD:Hid ((argsT p op done).length=done.length):=by show (argsT p op done).length=_;unfold argsT;simp
   obtain ⟨j,hj⟩:∃ j,done.length=j:=⟨_,rfl⟩
   rw [hj] at HD
   have hj1:j<10000:=by omega
   have hbne:b≠w4.heap.size:=by omega
   have ea:∀ o,(w4.alloc o).cell? ⟨b,3,none⟩=some v:=fun o=>(((Below.refl (b+1) w4).alloc z4 o).cell (show b<b+1 by omega)).trans e3
   have hsx:(sB (extraT p op done)).size+(sB xs).size≤100:=by have h:=HX.out;have h2:=LS.out;rw [sB_size,sB_size];omega
   clear e0 e1 e2 e3 e4 e5 e6
   go_wp2_with (at_builtin;refine wpList_appT O5.out (by simp;omega) rfl _ _ rfl rfl (w4.heap.size+1) (by simp) rfl (y0,y1,y2) j HD.out hj1 ?_;intro A' cap' w5 hO5 hB5;have E5:=Lib.hid ((E4.out.all ((Below.refl w4.heap.size w4).alloc (Nat.le_refl _) _)).below hB5 (by omega));have O6:=Lib.hid hO5;have B5:Hid (Below b w1 w5):=(B4.out.trans ((Below.refl b w4).alloc (by omega) _)).trans (hB5.mono (by omega));have z5:b+1≤w5.heap.size:=(by have:=hB5.size;simp at this;omega);obtain ⟨f0,f1,f2,f3,f4,f5,f6⟩:=E5.out.cells;clear hO5 hB5)
   rw [sB_append]
   have EX:Hid (extraT p op (done++[wd])=extraT p op done++xs):=by show _=_;rw [extraT_snoc,HY.out]
   have AX:Hid (argsT p op (done++[wd])=argsT p op done++[(y0,y1,y2)]):=by show _=_;rw [argsT_snoc,HY.out]
   go_roundw
   case rel=>
    have h1:=LT.out
    have h2:=LS.out
    have h3:=HX.out
    refine ⟨done++[wd],k,rest,.slice A' (j+1) cap',rfl,by omega,by rw [List.length_append];simp;omega,by rw [EX.out,List.length_append];omega,EQ2.out,?_,?_,?_,by simp;omega⟩
    ·rw [EX.out];exact (E5.out.set_args _).set_extra _
    ·rw [AX.out];exact row_set (row_set O6.out (p:=⟨b,3,none⟩) (by simp) _) (p:=⟨b,4,none⟩) (by simp) _
    ·exact (B5.out.setCell (p:=⟨b,3,none⟩) (Nat.le_refl _) _).setCell (p:=⟨b,4,none⟩) (Nat.le_refl _) _
   case measure=>rw [S0.out,S1.out];exact LT.out
end Go.Proofs.YtajlleeonddinaaGreatDoor
namespace Go.Proofs.YtajlleeonddinaaGreatDoor
open Go.RowKit Go.Shelf
def Box (w:World) (b:Nat) (k r n:Int):Prop:=w.cell? ⟨b,0,none⟩=some (.int .i64 k)∧w.cell? ⟨b,1,none⟩=some (.int .i64 r)∧w.cell? ⟨b,2,none⟩=some (.int .i64 n)
theorem Box.new (w:World) (k r n:Int) (t:TypeId):Box (w.alloc (.cells #[.int .i64 k,.int .i64 r,.int .i64 n] t)) w.heap.size k r n:=⟨by simp [go_sem],by simp [go_sem],by simp [go_sem]⟩
theorem Box.below {w w':World} {b:Nat} {k r n:Int} (h:Box w b k r n) (hb:Below w.heap.size w w'):Box w' b k r n:=
 ⟨(hb.cell (World.block_lt_of_cell? w _ h.1)).trans h.1,(hb.cell (World.block_lt_of_cell? w _ h.2.1)).trans h.2.1,(hb.cell (World.block_lt_of_cell? w _ h.2.2)).trans h.2.2⟩
def RetIx (w:World) (L:List Tr) (t:Tr) (e:Ending) (w':World):Prop:=
 ((t∉L∧e=.returned (.int .i64 (-1)))∨∃ j:Nat,(∃ h:j<L.length,L[j]=t)∧(∀ k,k<j→∀ (a:k<L.length),L[k]≠t)∧e=.returned (.int .i64 j))∧Below w.heap.size w w'
def RetIb (w:World) (q:Bool) (e:Ending) (w':World):Prop:=∃ i:Int,e=.returned (.int .i64 i)∧decide (0≤i)=q∧Below w.heap.size w w'
theorem retIb {w w':World} {L:List Tr} {t:Tr} {e:Ending} (h:RetIx w L t e w'):RetIb w (decide (t∈L)) e w':=by
 obtain ⟨h | ⟨j,⟨hj,he⟩,-,rfl⟩,hb⟩:=h
 ·exact ⟨-1,h.2,by rw [decide_eq_false h.1];rfl,hb⟩
 ·have hm:t∈L:=by rw [← he];exact List.getElem_mem hj
  exact ⟨j,rfl,(decide_eq_true (by omega)).trans (decide_eq_true hm).symm,hb⟩
theorem indexO_any (A:Option Addr) (c:Nat) (L:List Tr) (hL:L.length≤maxLen) (t:Tr) (w:World) (H:OpsP w A L) :
  Calls Tryz.prog 242 #[.slice A L.length c,.agg #[.int .i64 t.1,.int .i64 t.2.1,.int .i64 t.2.2]] w (RetIx w L t):=by
 unfold maxLen at hL
 obtain ⟨t0,t1,t2⟩:=t
 simp only
 have hal:Below w.heap.size w (w.alloc (.cells #[.int .i64 t0,.int .i64 t1,.int .i64 t2] 55)):=(Below.refl _ _).alloc (Nat.le_refl _) _
 have X:=Lib.hid (H.below hal)
 have B0:=Lib.hid hal
 have TB:=Lib.hid (Box.new w t0 t1 t2 55)
 obtain ⟨wa,hwa⟩:∃ wa,w.alloc (.cells #[.int .i64 t0,.int .i64 t1,.int .i64 t2] 55)=wa:=⟨_,rfl⟩
 rw [hwa] at X B0 TB
 have HWA:=Lib.hid hwa
 clear H hal hwa
 obtain ⟨n,hn⟩:∃ n,L.length=n:=⟨_,rfl⟩
 have HN:=Lib.hid hn
 rw [hn] at hL ⊢
 clear hn
 go_enter Tryz.func242,Tryz.ntmps242
 go_wp2
 rw [HWA.out]
 go_loopw [8] (fun i wr=>∃ j:Nat,j≤n∧i=.int .i64 j∧Hid (∀ k,k<j→∀ (a:k<L.length),L[k]≠(t0,t1,t2))∧Hid (Below wa.heap.size wa wr)) (fun i _=>n - (intOf i).toNat)
 case atStart=>exact ⟨0,Nat.zero_le _,rfl,fun k h=>by omega,Below.refl _ _⟩
 case round=>
  obtain ⟨j,hj,rfl,R,B⟩:=hrel
  obtain ⟨z0,z1,z2⟩:=TB.out.below B.out
  by_cases hlt:j<n
  ·have hj1:j<L.length:=by have:=HN.out;omega
   obtain ⟨b1,o1,hA1,-,p0,p1,p2⟩:=(X.out.below B.out).at_ hj1
   subst hA1
   have B2:=fun q=>Lib.hid (B0.out.trans ((B.out.trans (below_drewN wr wa.heap.size q)).mono B0.out.size))
   have B3:=fun q=>Lib.hid (B.out.trans (below_drewN wr wa.heap.size q))
   by_cases he:L[j]=(t0,t1,t2)
   ·have FD:Hid ((∃ h:j<L.length,L[j]=(t0,t1,t2))∧∀ k,k<j→∀ (a:k<L.length),L[k]≠(t0,t1,t2)):=⟨⟨hj1,he⟩,R.out⟩
    rw [he] at p0 p1 p2
    simp only at p0 p1 p2
    clear he hj1 R
    go_wp2
    go_quiet (fail)
    go_wp2
    go_ret
    exact ⟨.inr ⟨j,FD.out.1,FD.out.2,rfl⟩,(B2 _).out⟩
   ·have R2:Hid (∀ k,k<j+1→∀ (a:k<L.length),L[k]≠(t0,t1,t2)):=fun k hk a=>by
     by_cases e:k=j
     ·subst e;exact he
     ·exact R.out k (by omega) a
    have hne:=tr_ne (fun e=>he e.symm)
    obtain ⟨⟨x0,x1,x2⟩,hx⟩:∃ x,L[j]=x:=⟨_,rfl⟩
    rw [hx] at p0 p1 p2 hne
    simp only at p0 p1 p2 hne
    clear he hx hj1 R
    have d0:x0=t0→t0=x0:=fun h=>h.symm
    clear d0
    rcases hne with hne | ⟨e1,hne⟩ | ⟨e1,e2,hne⟩
    ·go_wp2
     go_quiet (fail)
     go_wp2
     go_roundw
     case rel=>exact ⟨j+1,by omega,by go_num,R2.out,(B3 _).out⟩
     case measure=>simp [intOf];omega
    ·subst e1
     go_wp2
     go_quiet (fail)
     go_wp2
     go_roundw
     case rel=>exact ⟨j+1,by omega,by go_num,R2.out,(B3 _).out⟩
     case measure=>simp [intOf];omega
    ·subst e1
     subst e2
     go_wp2
     go_quiet (fail)
     go_wp2
     go_roundw
     case rel=>exact ⟨j+1,by omega,by go_num,R2.out,(B3 _).out⟩
     case measure=>simp [intOf];omega
  ·have T:Hid ((t0,t1,t2)∉L):=fun hm=>by
    obtain ⟨k,hk,he⟩:=List.getElem_of_mem hm
    exact R.out k (by have:=HN.out;omega) hk he
   have B2:=Lib.hid (B0.out.trans (B.out.mono B0.out.size))
   clear R
   go_wp2
   go_ret
   exact ⟨.inl ⟨T.out,rfl⟩,B2.out⟩
theorem containsO_any (A:Option Addr) (c:Nat) (L:List Tr) (hL:L.length≤maxLen) (t:Tr) (w:World) (H:OpsP w A L) :
  Calls Tryz.prog 244 #[.slice A L.length c,.agg #[.int .i64 t.1,.int .i64 t.2.1,.int .i64 t.2.2]] w fun e w'=>e=.returned (.bool (decide (t∈L)))∧Below w.heap.size w w':=by
 obtain ⟨t0,t1,t2⟩:=t
 have hal:Below w.heap.size w (w.alloc (.cells #[.int .i64 t0,.int .i64 t1,.int .i64 t2] 55)):=(Below.refl _ _).alloc (Nat.le_refl _) _
 have IX:=Lib.hid (indexO_any A c L hL (t0,t1,t2) _ (H.below hal))
 have B0:=Lib.hid hal
 have IX2:=Lib.hid (IX.out.mono (R':=fun e w'=>RetIb (w.alloc (.cells #[.int .i64 t0,.int .i64 t1,.int .i64 t2] 55)) (decide ((t0,t1,t2)∈L)) e w') (fun e w' h=>retIb h))
 clear IX
 obtain ⟨q,hq⟩:∃ q,decide ((t0,t1,t2)∈L)=q:=⟨_,rfl⟩
 rw [hq] at IX2 ⊢
 clear hal H hq
 go_enter Tryz.func244,Tryz.ntmps244
 go_wp2_with fail
 refine IX2.out.mono ?_
 rintro e w1 ⟨i,rfl,hi,hb⟩
 have N:=Lib.hid (B0.out.trans (hb.mono B0.out.size))
 have T:=Lib.hid hi
 clear hb hi
 go_wp2
 go_ret
 exact ⟨ret_bool T.out,N.out⟩
end Go.Proofs.YtajlleeonddinaaGreatDoor
namespace Go.Proofs.YtajlleeonddinaaGreatDoor
open Go.RowKit Go.Shelf
theorem opd_eql (x y:Tr) (w:World):(binOp .eql 55 (trV x) (trV y)).run Tryz.prog w=.ok (.bool (decide (x=y))) w:=by
 obtain ⟨a,b,c⟩:=x
 obtain ⟨d,e,f⟩:=y
 simp only [trV]
 go_simp
 by_cases h1:a=d
 ·by_cases h2:b=e
  ·by_cases h3:c=f
   ·simp [h1,h2,h3]
   ·simp [h1,h2,h3]
  ·simp [h1,h2]
 ·simp [h1]
theorem opd_neq (x y:Tr) (w:World):(binOp .neq 55 (trV x) (trV y)).run Tryz.prog w=.ok (.bool (!decide (x=y))) w:=by
 obtain ⟨a,b,c⟩:=x
 obtain ⟨d,e,f⟩:=y
 simp only [trV]
 go_simp
 by_cases h1:a=d
 ·by_cases h2:b=e
  ·by_cases h3:c=f
   ·simp [h1,h2,h3]
   ·simp [h1,h2,h3]
  ·simp [h1,h2]
 ·simp [h1]
def opX (ix:Int) (o:Tr):Tr:=
 if o=(1,4,0) then (2,if ix=6 then 2 else 0,0) else if o=(1,5,0) then (2,if ix=6 then 3 else 1,0) else if o=(3,2,0) then (3,ix,0) else if o=(4,2,0) then (4,ix,0) else o
theorem opx_start (w:World) (o:Tr):∃ w0,(w.alloc (.cells #[.int .i64 o.1,.int .i64 o.2.1,.int .i64 o.2.2] 55)).alloc (.cells #[.int .i64 0,.int .i64 0,.int .i64 0] 55)=w0∧
  OpdAt w0 (w.heap.size+1)∧Below w.heap.size w w0∧w0.heap.size=w.heap.size+2∧w0.heap[w.heap.size]?=some (.cells #[.int .i64 o.1,.int .i64 o.2.1,.int .i64 o.2.2] 55 (0,0)):=by
 refine ⟨_,rfl,?_,((Below.refl _ w).alloc (Nat.le_refl _) _).alloc (by simp) _,by simp,(Below.heap_alloc _ _ _ (by simp)).trans (World.alloc_heap_new w _)⟩
 have h:=World.alloc_heap_new (w.alloc (.cells #[.int .i64 o.1,.int .i64 o.2.1,.int .i64 o.2.2] 55)) (.cells #[.int .i64 0,.int .i64 0,.int .i64 0] 55)
 rw [World.size_alloc] at h
 exact h
theorem opx_of (b:Nat) (ix:Int) (hix:ix=5∨ix=6) (a c d:Int) (t0 t1 t2 t3:Bool) (q0:∀ w,(binOp .eql 55 (.agg #[.int .i64 a,.int .i64 c,.int .i64 d]) (.agg #[.int .i64 1,.int .i64 4,.int .i64 0])).run Tryz.prog w=.ok (.bool t0) w) (q1:∀ w,(binOp .eql 55 (.agg #[.int .i64 a,.int .i64 c,.int .i64 d]) (.agg #[.int .i64 1,.int .i64 5,.int .i64 0])).run Tryz.prog w=.ok (.bool t1) w) (q2:∀ w,(binOp .eql 55 (.agg #[.int .i64 a,.int .i64 c,.int .i64 d]) (.agg #[.int .i64 3,.int .i64 2,.int .i64 0])).run Tryz.prog w=.ok (.bool t2) w) (q3:∀ w,(binOp .eql 55 (.agg #[.int .i64 a,.int .i64 c,.int .i64 d]) (.agg #[.int .i64 4,.int .i64 2,.int .i64 0])).run Tryz.prog w=.ok (.bool t3) w) (w:World) (hx:w.cell? ⟨b,6,none⟩=some (.int .i64 ix)):Calls Tryz.prog 246 #[.pointer (some ⟨b,0,none⟩),.agg #[.int .i64 a,.int .i64 c,.int .i64 d]] w (RetTr w (if t0 then ((2,if ix=6 then 2 else 0,0):Tr) else if t1 then (2,if ix=6 then 3 else 1,0) else if t2 then (3,ix,0) else if t3 then (4,ix,0) else (a,c,d))):=by
 obtain ⟨w0,hw0,S0,B0,Z0,C0⟩:=opx_start w (a,c,d)
 have hbl:=World.block_lt_of_cell? w _ hx
 have x0:=(B0.cell hbl).trans hx
 obtain ⟨n,hn⟩:∃ n,w.heap.size=n:=⟨_,rfl⟩
 rw [hn] at S0 B0 Z0 C0
 have hbn:b<n:=by rw [← hn];exact hbl
 have k0:=Lib.cell_of_heap C0 0
 have k1:=Lib.cell_of_heap C0 1
 have k2:=Lib.cell_of_heap C0 2
 obtain ⟨y0,hy0⟩:∃ y,w0=y:=⟨_,rfl⟩
 rw [hy0] at hw0 S0 B0 Z0 k0 k1 k2 x0
 clear C0 hy0
 have S0:=Lib.hid S0
 have B0:=Lib.hid B0
 have HN:=Lib.hid hn
 have HB:=Lib.hid hbn
 obtain ⟨u,hu⟩:∃ z:Int,(if ix=6 then 2 else 0)=z:=⟨_,rfl⟩
 obtain ⟨v,hv⟩:∃ z:Int,(if ix=6 then 3 else 1)=z:=⟨_,rfl⟩
 obtain ⟨i,hi⟩:∃ z:Int,ix=z:=⟨_,rfl⟩
 rw [hu,hv,hi]
 have HI:=Lib.hid hi
 obtain ⟨rr,hrr⟩:∃ z,(if t0 then ((2,u,0):Tr) else if t1 then (2,v,0) else if t2 then (3,i,0) else if t3 then (4,i,0) else (a,c,d))=z:=⟨_,rfl⟩
 rw [hrr]
 have HR:=Lib.hid hrr
 clear hrr
 have HU:=Lib.hid hu
 have HV:=Lib.hid hv
 clear hbl hx hu hv hi
 rcases hix with rfl | rfl
 all_goals
  go_enter Tryz.func246,Tryz.ntmps246
  go_wp2_with fail
  refine (register_any _ y0).mono ?_
  rintro e y1 ⟨rfl,hb⟩
  have S1:Hid (OpdAt y1 (n+1)):=S0.out.below hb
  have B1:Hid (Below n w y1):=B0.out.trans (hb.mono (by omega))
  have Z1:n+2≤y1.heap.size:=by have:=hb.size;omega
  have x1:=(hb.cell (show b<y0.heap.size by omega)).trans x0
  have m0:=(hb.cell (show n<y0.heap.size by omega)).trans k0
  have m1:=(hb.cell (show n<y0.heap.size by omega)).trans k1
  have m2:=(hb.cell (show n<y0.heap.size by omega)).trans k2
  clear k0 k1 k2
  have k0:=m0
  have k1:=m1
  have k2:=m2
  clear m0 m1 m2 hb S0 B0 Z0 x0 hw0
  simp only [trV]
  cases t0
  rotate_left
  ·go_wp2_with fail
   refine Calls.mono (?_:Calls _ _ _ _ (RetTr y1 (2,u,0))) ?_
   ·rw [← HU.out];exact half_any _ y1
   rintro e y2 ⟨rfl,hb⟩
   have S2:Hid (OpdAt y2 (n+1)):=S1.out.below hb
   have B2:Hid (Below n w y2):=B1.out.trans (hb.mono (by omega))
   clear hb S1 B1 x1 k0 k1 k2
   simp only [trV]
   obtain ⟨c0,c1,c2,c3⟩:=S2.out.cells
   go_wp2
   obtain ⟨w3,hw3,hc3,hb3,-⟩:=opd_set S2.out 2 u 0
   rw [hw3]
   have r0:=Lib.cell_of_heap hc3 0
   have r1:=Lib.cell_of_heap hc3 1
   have r2:=Lib.cell_of_heap hc3 2
   refine bodyPost_ret (v:=trV (2,u,0)) ?_ rfl ?_
   ·simp [results,Tryz.results246,go_sem,r0,r1,r2,trV]
   ·exact ⟨by rw [← HR.out];rfl,by rw [HN.out];exact B2.out.trans (hb3.mono (by omega))⟩
  go_wp2_with fail
  refine (register_any _ y1).mono ?_
  rintro e y2 ⟨rfl,hb⟩
  have S2:Hid (OpdAt y2 (n+1)):=S1.out.below hb
  have B2:Hid (Below n w y2):=B1.out.trans (hb.mono (by omega))
  have Z2:n+2≤y2.heap.size:=by have:=hb.size;omega
  have x2:=(hb.cell (show b<y1.heap.size by omega)).trans x1
  have m0:=(hb.cell (show n<y1.heap.size by omega)).trans k0
  have m1:=(hb.cell (show n<y1.heap.size by omega)).trans k1
  have m2:=(hb.cell (show n<y1.heap.size by omega)).trans k2
  clear k0 k1 k2
  have k0:=m0
  have k1:=m1
  have k2:=m2
  clear m0 m1 m2 hb S1 B1 Z1 x1
  simp only [trV]
  cases t1
  rotate_left
  ·go_wp2_with fail
   refine Calls.mono (?_:Calls _ _ _ _ (RetTr y2 (2,v,0))) ?_
   ·rw [← HV.out];exact half_any _ y2
   rintro e y3 ⟨rfl,hb⟩
   have S3:Hid (OpdAt y3 (n+1)):=S2.out.below hb
   have B3:Hid (Below n w y3):=B2.out.trans (hb.mono (by omega))
   clear hb S2 B2 x2 k0 k1 k2
   simp only [trV]
   obtain ⟨c0,c1,c2,c3⟩:=S3.out.cells
   go_wp2
   obtain ⟨w3,hw3,hc3,hb3,-⟩:=opd_set S3.out 2 v 0
   rw [hw3]
   have r0:=Lib.cell_of_heap hc3 0
   have r1:=Lib.cell_of_heap hc3 1
   have r2:=Lib.cell_of_heap hc3 2
   refine bodyPost_ret (v:=trV (2,v,0)) ?_ rfl ?_
   ·simp [results,Tryz.results246,go_sem,r0,r1,r2,trV]
   ·exact ⟨by rw [← HR.out];rfl,by rw [HN.out];exact B3.out.trans (hb3.mono (by omega))⟩
  go_wp2_with fail
  refine (pair_any _ y2).mono ?_
  rintro e y3 ⟨rfl,hb⟩
  have S3:Hid (OpdAt y3 (n+1)):=S2.out.below hb
  have B3:Hid (Below n w y3):=B2.out.trans (hb.mono (by omega))
  have Z3:n+2≤y3.heap.size:=by have:=hb.size;omega
  have x3:=(hb.cell (show b<y2.heap.size by omega)).trans x2
  have m0:=(hb.cell (show n<y2.heap.size by omega)).trans k0
  have m1:=(hb.cell (show n<y2.heap.size by omega)).trans k1
  have m2:=(hb.cell (show n<y2.heap.size by omega)).trans k2
  clear k0 k1 k2
  have k0:=m0
  have k1:=m1
  have k2:=m2
  clear m0 m1 m2 hb S2 B2 Z2 x2
  simp only [trV]
  cases t2
  rotate_left
  ·go_wp2_with fail
   refine Calls.mono (?_:Calls _ _ _ _ (RetTr y3 (3,i,0))) ?_
   ·rw [← HI.out];exact pair_any _ y3
   rintro e y4 ⟨rfl,hb⟩
   have S4:Hid (OpdAt y4 (n+1)):=S3.out.below hb
   have B4:Hid (Below n w y4):=B3.out.trans (hb.mono (by omega))
   clear hb S3 B3 x3 k0 k1 k2
   simp only [trV]
   obtain ⟨c0,c1,c2,c3⟩:=S4.out.cells
   go_wp2
   obtain ⟨w3,hw3,hc3,hb3,-⟩:=opd_set S4.out 3 i 0
   rw [hw3]
   have r0:=Lib.cell_of_heap hc3 0
   have r1:=Lib.cell_of_heap hc3 1
   have r2:=Lib.cell_of_heap hc3 2
   refine bodyPost_ret (v:=trV (3,i,0)) ?_ rfl ?_
   ·simp [results,Tryz.results246,go_sem,r0,r1,r2,trV]
   ·exact ⟨by rw [← HR.out];rfl,by rw [HN.out];exact B4.out.trans (hb3.mono (by omega))⟩
  go_wp2_with fail
  refine (tpointer_any _ y3).mono ?_
  rintro e y4 ⟨rfl,hb⟩
  have S4:Hid (OpdAt y4 (n+1)):=S3.out.below hb
  have B4:Hid (Below n w y4):=B3.out.trans (hb.mono (by omega))
  have Z4:n+2≤y4.heap.size:=by have:=hb.size;omega
  have x4:=(hb.cell (show b<y3.heap.size by omega)).trans x3
  have m0:=(hb.cell (show n<y3.heap.size by omega)).trans k0
  have m1:=(hb.cell (show n<y3.heap.size by omega)).trans k1
  have m2:=(hb.cell (show n<y3.heap.size by omega)).trans k2
  clear k0 k1 k2
  have k0:=m0
  have k1:=m1
  have k2:=m2
  clear m0 m1 m2 hb S3 B3 Z3 x3
  simp only [trV]
  cases t3
  rotate_left
  ·go_wp2_with fail
   refine Calls.mono (?_:Calls _ _ _ _ (RetTr y4 (4,i,0))) ?_
   ·rw [← HI.out];exact tpointer_any _ y4
   rintro e y5 ⟨rfl,hb⟩
   have S5:Hid (OpdAt y5 (n+1)):=S4.out.below hb
   have B5:Hid (Below n w y5):=B4.out.trans (hb.mono (by omega))
   clear hb S4 B4 x4 k0 k1 k2
   simp only [trV]
   obtain ⟨c0,c1,c2,c3⟩:=S5.out.cells
   go_wp2
   obtain ⟨w3,hw3,hc3,hb3,-⟩:=opd_set S5.out 4 i 0
   rw [hw3]
   have r0:=Lib.cell_of_heap hc3 0
   have r1:=Lib.cell_of_heap hc3 1
   have r2:=Lib.cell_of_heap hc3 2
   refine bodyPost_ret (v:=trV (4,i,0)) ?_ rfl ?_
   ·simp [results,Tryz.results246,go_sem,r0,r1,r2,trV]
   ·exact ⟨by rw [← HR.out];rfl,by rw [HN.out];exact B5.out.trans (hb3.mono (by omega))⟩
  obtain ⟨c0,c1,c2,c3⟩:=S4.out.cells
  go_wp2
  obtain ⟨w3,hw3,hc3,hb3,-⟩:=opd_set S4.out a c d
  rw [hw3]
  have r0:=Lib.cell_of_heap hc3 0
  have r1:=Lib.cell_of_heap hc3 1
  have r2:=Lib.cell_of_heap hc3 2
  refine bodyPost_ret (v:=trV (a,c,d)) ?_ rfl ?_
  ·simp [results,Tryz.results246,go_sem,r0,r1,r2,trV]
  ·exact ⟨by rw [← HR.out];rfl,by rw [HN.out];exact B4.out.trans (hb3.mono (by omega))⟩
theorem opx_any (b:Nat) (ix:Int) (hix:ix=5∨ix=6) (o:Tr) (w:World) (hx:w.cell? ⟨b,6,none⟩=some (.int .i64 ix)):Calls Tryz.prog 246 #[.pointer (some ⟨b,0,none⟩),trV o] w (RetTr w (opX ix o)):=by
 have h:=opx_of b ix hix o.1 o.2.1 o.2.2 _ _ _ _ (fun w=>opd_eql o (1,4,0) w) (fun w=>opd_eql o (1,5,0) w) (fun w=>opd_eql o (3,2,0) w) (fun w=>opd_eql o (4,2,0) w) w hx
 simp only [decide_eq_true_eq] at h
 exact h
end Go.Proofs.YtajlleeonddinaaGreatDoor
namespace Go.Proofs.YtajlleeonddinaaGreatDoor
open Go.RowKit Go.Shelf
attribute [local irreducible] Go.Mixed.wpMix
theorem cells_set3:∀ (L:List Tr) (k:Nat) (x:Tr) (h:k<L.length),(((cellsT L).set (k*3) (.int .i64 x.1)).set (k*3+1) (.int .i64 x.2.1)).set (k*3+2) (.int .i64 x.2.2)=cellsT (L.set k x)
 | y :: t,0,x,h=>rfl
 | y :: t,k+1,x,h=>by
  have ih:=cells_set3 t k x (by simpa using h)
  rw [show (k+1)*3+2=(k*3+2)+1+1+1 by omega,show (k+1)*3+1=(k*3+1)+1+1+1 by omega,show (k+1)*3=(k*3)+1+1+1 by omega]
  have e:∀ y:Tr,∀ z:List Tr,cellsT (y :: z)=.int .i64 y.1 :: .int .i64 y.2.1 :: .int .i64 y.2.2 :: cellsT z:=fun _ _=>rfl
  show _=cellsT (y :: t.set k x)
  rw [e,e,← ih]
  rfl
theorem OwnT.put3 {w:World} {B g cap n:Nat} {L:List Tr} (h:OwnT w B (.slice (some ⟨g,0,none⟩) n cap) L) (hn:L.length=n) (k:Nat) (hk:k<n) (x:Tr) :
  OwnT (((w.setCell ⟨g,k*3,none⟩ (.int .i64 x.1)).setCell ⟨g,k*3+1,none⟩ (.int .i64 x.2.1)).setCell ⟨g,k*3+2,none⟩ (.int .i64 x.2.2)) B (.slice (some ⟨g,0,none⟩) n cap) (L.set k x):=by
 unfold OwnT at h ⊢
 rw [hn] at h
 rw [List.length_set,hn,← cells_set3 L k x (by omega)]
 exact (World.ownsRow.stored (World.ownsRow.stored (World.ownsRow.stored h (k*3) _).1 (k*3+1) _).1 (k*3+2) _).1
theorem row_set_ne {w:World} {base:Nat} {e:TypeId} {size n:Nat} {v:Value} {xs:List Value} (h:w.ownsRow base e size v n xs) {p:Addr} (hp:∀ g,v.ownBlock=some g→g≠p.block) (u:Value):(w.setCell p u).ownsRow base e size v n xs:=
 World.ownsRow.kept h (row:=some p.block) ⟨rfl,rfl,rfl,by simp,fun k _ hk=>heap_setCell_other w p k u (fun e=>hk (by rw [e]))⟩ (by
  cases e:v.ownBlock with
  | none=>exact .inl rfl
  | some g=>exact .inr (fun e'=>hp g e (by cases e';rfl)))
def IxAt (w:World) (b:Nat) (page op:Int) (m:Str) (v:Value) (ex:Str) (al:Bool) (ix:Int):Prop:=
 w.heap[b]?=some (.cells #[.int .i64 page,.int .u8 op,.string (sB m),v,.string (sB ex),.bool al,.int .i64 ix] 288 (0,0))
section
variable {w w':World} {b:Nat} {page op ix:Int} {m ex:Str} {v:Value} {al:Bool}
theorem IxAt.lt (h:IxAt w b page op m v ex al ix):b<w.heap.size:=(Array.getElem?_eq_some_iff.1 h).1
theorem IxAt.below {B:Nat} (h:IxAt w b page op m v ex al ix) (hb:Below B w w') (hB:b<B):IxAt w' b page op m v ex al ix:=(hb.block b hB).trans h
theorem IxAt.all (h:IxAt w b page op m v ex al ix) (hb:Below w.heap.size w w'):IxAt w' b page op m v ex al ix:=h.below hb h.lt
theorem IxAt.cells (h:IxAt w b page op m v ex al ix):w.cell? ⟨b,0,none⟩=some (.int .i64 page)∧w.cell? ⟨b,1,none⟩=some (.int .u8 op)∧w.cell? ⟨b,2,none⟩=some (.string (sB m))∧w.cell? ⟨b,3,none⟩=some v∧w.cell? ⟨b,4,none⟩=some (.string (sB ex))∧w.cell? ⟨b,5,none⟩=some (.bool al)∧w.cell? ⟨b,6,none⟩=some (.int .i64 ix)∧∀ j,w.frozen? ⟨b,j,none⟩=false:=
 ⟨Lib.cell_of_heap h 0,Lib.cell_of_heap h 1,Lib.cell_of_heap h 2,Lib.cell_of_heap h 3,Lib.cell_of_heap h 4,Lib.cell_of_heap h 5,Lib.cell_of_heap h 6,Lib.frozen_of_heap h⟩
theorem IxAt.apart (h:IxAt w b page op m v ex al ix) {g:Nat} {cur:Array Value} (hg:w.heap[g]?=some (.cells cur 55 (0,0))):g≠b:=by
 rintro rfl
 rw [show w.heap[g]?=_ from h] at hg
 simp at hg
theorem IxAt.set_args (h:IxAt w b page op m v ex al ix) (v':Value):IxAt (w.setCell ⟨b,3,none⟩ v') b page op m v' ex al ix:=heap_setCell_same w b 3 _ _ v' h
theorem IxAt.set_extra (h:IxAt w b page op m v ex al ix) (ex':Str):IxAt (w.setCell ⟨b,4,none⟩ (.string (sB ex'))) b page op m v ex' al ix:=heap_setCell_same w b 4 _ _ _ h
theorem IxAt.set_alias (h:IxAt w b page op m v ex al ix) (al':Bool):IxAt (w.setCell ⟨b,5,none⟩ (.bool al')) b page op m v ex al' ix:=heap_setCell_same w b 5 _ _ _ h
theorem IxAt.set_code (h:IxAt w b page op m v ex al ix) (op':Int):IxAt (w.setCell ⟨b,1,none⟩ (.int .u8 op')) b page op' m v ex al ix:=heap_setCell_same w b 1 _ _ _ h
theorem IxAt.other (h:IxAt w b page op m v ex al ix) {g:Nat} (hg:b≠g) (j:Nat) (u:Value):IxAt (w.setCell ⟨g,j,none⟩ u) b page op m v ex al ix:=(heap_setCell_other w ⟨g,j,none⟩ b u hg).trans h
end
def repM (ix:Int):List Tr→List Tr
 | []=>[]
 | x :: t=>if x=(4,2,0) then (5,ix,0) :: t else x :: repM ix t
theorem repM_set (ix:Int):∀ (L:List Tr) (j:Nat),(∃ h:j<L.length,L[j]=(4,2,0))→(∀ k,k<j→∀ (a:k<L.length),L[k]≠(4,2,0))→repM ix L=L.set j (5,ix,0)
 | [],j,⟨h,_⟩,_=>by simp at h
 | x :: t,0,⟨_,e⟩,_=>by
  simp only [List.getElem_cons_zero] at e
  unfold repM
  rw [if_pos e]
  rfl
 | x :: t,j+1,⟨h,e⟩,hk=>by
  unfold repM
  have h0:x≠(4,2,0):=hk 0 (by omega) (by simp)
  rw [if_neg h0,repM_set ix t j ⟨by simpa using h,by simpa using e⟩ (fun k hkj a=>by
   have:=hk (k+1) (by omega) (by simpa using a)
   simpa using this)]
  rfl
theorem repM_len (ix:Int):∀ L:List Tr,(repM ix L).length=L.length
 | []=>rfl
 | x :: t=>by unfold repM;split <;> simp [repM_len ix t]
structure Fr (w:World) (b:Nat) (v:Value) (w':World):Prop where
 size:w.heap.size≤w'.heap.size
 same:∀ k,k<w.heap.size→k≠b→v.ownBlock≠some k→w'.heap[k]?=w.heap[k]?
theorem Fr.of_below {w w':World} {b:Nat} {v:Value} (h:Below w.heap.size w w'):Fr w b v w':=⟨h.size,fun k hk _ _=>h.block k hk⟩
theorem Fr.below {w w' w'':World} {b:Nat} {v:Value} (h:Fr w b v w') (hb:Below w'.heap.size w' w''):Fr w b v w'':=
 ⟨Nat.le_trans h.size hb.size,fun k hk h1 h2=>(hb.block k (Nat.lt_of_lt_of_le hk h.size)).trans (h.same k hk h1 h2)⟩
theorem Fr.set {w w':World} {b:Nat} {v:Value} (h:Fr w b v w') {p:Addr} (hp:p.block=b∨v.ownBlock=some p.block) (u:Value):Fr w b v (w'.setCell p u):=
 ⟨by simpa using h.size,fun k hk h1 h2=>(heap_setCell_other w' p k u (fun e=>by rcases hp with hp | hp;exact h1 (e.trans hp);exact h2 (by rw [hp,e]))).trans (h.same k hk h1 h2)⟩
def memB (m:Str) (L:List Tr):Bool:=decide ((4,2,0)∈L)&&!decide (m=[74,80])
def RetMem (w:World) (b B:Nat) (page op:Int) (m:Str) (v:Value) (ex:Str) (al:Bool) (ix:Int) (L:List Tr) (e:Ending) (w':World):Prop:=
 e=.returned (.bool (memB m L))∧IxAt w' b page op m v (if memB m L then 100 :: ex else ex) al ix∧OwnT w' B v (if memB m L then repM ix L else L)∧Below B w w'∧Fr w b v w'
theorem repMem_any (b B:Nat) (page op:Int) (m:Str) (v:Value) (ex:Str) (al:Bool) (ix:Int) (L:List Tr) (hL:L.length≤100) (hex:ex.length≤1000) (w:World)
  (X:IxAt w b page op m v ex al ix) (O:OwnT w B v L) (hB:B≤b):Calls Tryz.prog 229 #[.pointer (some ⟨b,0,none⟩)] w (RetMem w b B page op m v ex al ix L):=by
 obtain ⟨A,cap,rfl,hP,hcap⟩:=O.ops
 obtain ⟨n,hn⟩:∃ n,L.length=n:=⟨_,rfl⟩
 rw [hn] at X O hL hcap ⊢
 obtain ⟨x0,x1,x2,x3,x4,x5,x6,x7⟩:=X.cells
 have d3:w.drew.cell? ⟨b,3,none⟩=some (.slice A n cap):=x3
 have IX:=fun w' h=>indexO_any A cap L (by unfold maxLen;omega) (4,2,0) w' h
 rw [hn] at IX
 have XX:=Lib.hid X
 have OO:=Lib.hid O
 have PP:=Lib.hid hP
 have HN:=Lib.hid hn
 have HE:=Lib.hid hex
 have HBW:Hid (B≤w.heap.size):=by have:=X.lt;show B≤_;omega
 clear X O hP hn hex x0 x1 x2 x3 x4 x5 x6 x7
 go_enter Tryz.func229,Tryz.ntmps229
 go_wp2
 obtain ⟨w1,hw1⟩:∃ w1,w.drew=w1:=⟨_,rfl⟩
 rw [hw1] at d3
 have D3:=Lib.hid d3
 have X1:Hid (IxAt w1 b page op m (.slice A n cap) ex al ix):=by rw [← hw1];exact XX.out
 have O1:Hid (OwnT w1 B (.slice A n cap) L):=by rw [← hw1];exact OO.out.below (below_drewN w _ 1)
 have P1:Hid (OpsP w1 A L):=by rw [← hw1];exact PP.out.below (below_drewN w _ 1)
 have B1:Hid (Below w.heap.size w w1):=by rw [← hw1];exact below_drewN w _ 1
 refine Mixed.wp_region_mixed (fun w'=>w'.cell? ⟨b,3,none⟩=some (.slice A n cap)) 7 [(0,true),(1,true),(2,true),(3,true),(4,true),(5,true),(6,false)] (by kernel_rfl) (by kernel_rfl) (by rw [hw1];exact D3.out) ?_
 rw [hw1]
 clear XX OO PP hw1 D3 d3
 refine Mixed.wpMix_move rfl (by kernel_rfl) _ rfl _ rfl ?_
 refine Mixed.wpMix_pure rfl (by kernel_rfl) (.pointer (some ⟨b,0,none⟩)) (fun w h=>by go_simp;try rfl) ?_
 refine Mixed.wpMix_pure rfl (by kernel_rfl) (.pointer (some ⟨b,0,none⟩)) (fun w h=>by go_simp;try rfl) ?_
 refine Mixed.wpMix_pure rfl (by kernel_rfl) (.pointer (some ⟨b,2,none⟩)) (fun w h=>by go_simp;try rfl) ?_
 refine Mixed.wpMix_pure rfl (by kernel_rfl) (.pointer (some ⟨b,3,none⟩)) (fun w h=>by go_simp;try rfl) ?_
 refine Mixed.wpMix_pure rfl (by kernel_rfl) (.slice A n cap) (fun w h=>by go_simp;try rfl) ?_
 refine Mixed.wpMix_loudG rfl (by kernel_rfl) ?_
 go_wp2_with fail
 refine (tpointer_any 2 w1).mono ?_
 rintro e w2 ⟨rfl,hb2⟩
 have X2:=Lib.hid (X1.out.all hb2)
 have O2:=Lib.hid (O1.out.below hb2)
 have P2:=Lib.hid (P1.out.below hb2)
 have B2:Hid (Below w.heap.size w w2):=B1.out.trans (hb2.mono B1.out.size)
 have xx:=(X2.out.cells).2.2.2.1
 clear X1 O1 P1 B1 hb2
 go_wp2
 refine ⟨xx,?_⟩
 clear xx
 simp only [Mixed.wpMix,List.drop_succ_cons,List.drop_zero,trV]
 have IX2:=IX w2 P2.out
 clear IX
 go_wp2_with fail
 refine IX2.mono ?_
 rintro e w3 ⟨hres,hb3⟩
 have X3:=Lib.hid (X2.out.all hb3)
 have O3:=Lib.hid (O2.out.below hb3)
 have B3:Hid (Below w.heap.size w w3):=B2.out.trans (hb3.mono B2.out.size)
 clear X2 O2 P2 B2 hb3 IX2
 have hbw:b<w3.heap.size:=X3.out.lt
 rcases hres with ⟨hno,rfl⟩ | ⟨j,hj,hfirst,rfl⟩
 ·have M:Hid (memB m L=false):=by show memB m L=_;unfold memB;rw [decide_eq_false hno];rfl
  clear hno
  go_wp2
  go_ret
  refine ⟨ret_bool M.out.symm,?_,?_,B3.out.mono HBW.out,Fr.of_below B3.out⟩
  ·rw [M.out];exact X3.out
  ·rw [M.out];exact O3.out
 ·obtain ⟨hjL,hje⟩:=hj
  have hmem:(4,2,0)∈L:=by rw [← hje];exact List.getElem_mem hjL
  have RS:Hid (repM ix L=L.set j (5,ix,0)):=repM_set ix L j ⟨hjL,hje⟩ hfirst
  have hjn:j<n:=by rw [← HN.out];exact hjL
  obtain ⟨g,cap',hv,hBg,⟨cur,hcur⟩,-,hfz⟩:=O3.out.form (by omega)
  rw [HN.out] at hv
  cases hv
  obtain ⟨x0,x1,x2,x3,x4,x5,x6,x7⟩:=X3.out.cells
  have hgb:g≠b:=X3.out.apart hcur
  have HC:=Lib.hid hcur
  by_cases hm:m=[74,80]
  ·have M:Hid (memB m L=false):=by show memB m L=_;unfold memB;rw [decide_eq_true hm];simp
   have ht:((sB m).toList == [74,80])=true:=by rw [sB_eq];exact decide_eq_true hm
   clear hm hmem hje hjL hfirst hcur
   go_wp2
   go_ret
   refine ⟨ret_bool M.out.symm,?_,?_,B3.out.mono HBW.out,Fr.of_below B3.out⟩
   ·rw [M.out];exact X3.out
   ·rw [M.out];exact O3.out
  ·have M:Hid (memB m L=true):=by show memB m L=_;unfold memB;rw [decide_eq_true hmem,decide_eq_false hm];rfl
   have ht:((sB m).toList == [74,80])=false:=by rw [sB_eq];exact decide_eq_false hm
   have hsz:(⟨#[100]⟩:ByteArray).size+(sB ex).size≤2000:=by have:=HE.out;rw [sB_size];show 1+_≤_;omega
   clear hm hmem hje hjL hfirst hcur
   go_wp2
   go_still_tail 12,(by kernel_rfl)
   change wpList _ _ _ _ _ w3.drew
   obtain ⟨w4,hw4⟩:∃ w4,w3.drew=w4:=⟨_,rfl⟩
   have X4:Hid (IxAt w4 b page op m (.slice (some ⟨g,0,none⟩) n cap) ex al ix):=by rw [← hw4];exact X3.out
   have O4:Hid (OwnT w4 B (.slice (some ⟨g,0,none⟩) n cap) L):=by rw [← hw4];exact O3.out.below (below_drewN w3 _ 1)
   have B4:Hid (Below w.heap.size w w4):=by rw [← hw4];exact B3.out.trans (below_drewN w3 _ 1)
   rw [hw4]
   clear X3 O3 B3 x0 x1 x2 x3 x4 x5 x6 x7 hfz HC hw4 hbw
   obtain ⟨x0,x1,x2,x3,x4,x5,x6,x7⟩:=X4.out.cells
   obtain ⟨g',cap'',hv,-,-,hcs,hfz⟩:=O4.out.form (by have:=HN.out;omega)
   rw [HN.out] at hv
   cases hv
   obtain ⟨g0,g1,g2⟩:=hcs j (by rw [HN.out];exact hjn)
   clear hcs
   have O5:Hid (OwnT (((w4.setCell ⟨g,j*3,none⟩ (.int .i64 5)).setCell ⟨g,j*3+1,none⟩ (.int .i64 ix)).setCell ⟨g,j*3+2,none⟩ (.int .i64 0)) B (.slice (some ⟨g,0,none⟩) n cap) (L.set j (5,ix,0))):=O4.out.put3 HN.out j hjn (5,ix,0)
   have X5:Hid (IxAt (((w4.setCell ⟨g,j*3,none⟩ (.int .i64 5)).setCell ⟨g,j*3+1,none⟩ (.int .i64 ix)).setCell ⟨g,j*3+2,none⟩ (.int .i64 0)) b page op m (.slice (some ⟨g,0,none⟩) n cap) ex al ix):=((X4.out.other hgb.symm _ _).other hgb.symm _ _).other hgb.symm _ _
   have B5:Hid (Below B w (((w4.setCell ⟨g,j*3,none⟩ (.int .i64 5)).setCell ⟨g,j*3+1,none⟩ (.int .i64 ix)).setCell ⟨g,j*3+2,none⟩ (.int .i64 0))):=
    (((B4.out.mono HBW.out).setCell (p:=⟨g,j*3,none⟩) (by simp;omega) _).setCell (p:=⟨g,j*3+1,none⟩) (by simp;omega) _).setCell (p:=⟨g,j*3+2,none⟩) (by simp;omega) _
   go_wp2
   have EX:(⟨#[100]⟩:ByteArray)++sB ex=sB (100 :: ex):=sB_append [100] ex
   rw [EX]
   go_ret
   refine ⟨ret_bool M.out.symm,?_,?_,B5.out.setCell (p:=⟨b,4,none⟩) hB _,((((Fr.of_below B4.out).set (p:=⟨g,j*3,none⟩) (.inr rfl) _).set (p:=⟨g,j*3+1,none⟩) (.inr rfl) _).set (p:=⟨g,j*3+2,none⟩) (.inr rfl) _).set (p:=⟨b,4,none⟩) (.inl rfl) _⟩
   ·rw [M.out];exact X5.out.set_extra (100 :: ex)
   ·rw [M.out]
    show OwnT _ _ _ (repM ix L)
    rw [RS.out]
    exact row_set_ne O5.out (p:=⟨b,4,none⟩) (fun g' e=>by cases e;exact hgb) _
end Go.Proofs.YtajlleeonddinaaGreatDoor
