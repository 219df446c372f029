/-
  OpCqRSK, OpDqRSK, OpEqRSK, OpFqRSK, OpGqRSK, OpHqRSK, OpJqRSK, SeJqRSK, InMqRSK, InLqRSK, InRqRSK, InCqRSK, EvAqRSK, EvBqRSK.
-/
import Derived.Test.YtjafbmfcedijmaaGreatDoorKAC
import Derived.Deep.WholeRow
import Derived.Deep.RegionHeld3
import Derived.Deep.DrawnRows
set_option linter.all false
set_option maxRecDepth 100000
set_option maxHeartbeats 4000000
namespace Go.Proofs.YtjafbmfcedijmaaGreatDoor
open Tryz
open Go.RowKit
def qbT:Array Value:=#[.nilFunc,.int .i64 0,.int .i64 0,.nilFunc,
 .func (.func 250) #[] #[],.int .i64 0,.int .i64 0,.func (.func 251) #[] #[],
 .func (.func 252) #[] #[],.int .i64 0,.int .i64 0,.func (.func 251) #[] #[],
 .func (.func 253) #[] #[],.int .i64 0,.int .i64 0,.func (.func 251) #[] #[],
 .func (.func 254) #[] #[],.int .i64 0,.int .i64 0,.func (.func 255) #[] #[],
 .func (.func 256) #[] #[],.int .i64 (-128),.int .i64 127,.func (.func 257) #[] #[],
 .func (.func 258) #[] #[],.int .i64 (-32768),.int .i64 65535,.func (.func 259) #[] #[],
 .func (.func 258) #[] #[],.int .i64 0,.int .i64 65535,.func (.func 260) #[] #[],
 .func (.func 261) #[] #[],.int .i64 0,.int .i64 0,.func (.func 251) #[] #[],
 .func (.func 262) #[] #[],.int .i64 0,.int .i64 0,.func (.func 251) #[] #[],
 .func (.func 258) #[] #[],.int .i64 (-128),.int .i64 127,.func (.func 263) #[] #[]]
theorem wpList_build {P:Program} {ops:Array Oper} {Q:Exit->Act->World->Prop} {o:Oper} {l:List Oper} {a:Act} {w:World} (t:TypeId) (h:Array (Nat×Operand)) (E:o.op=.build t h) (G:o.guard=none) (z:Array Value)
  (y:P.built t (h.map fun (i,x)=>(i,a.eval x)).toList=some z) (J:wpList P ops Q l (a.put o.dst (.agg z)) w):wpList P ops Q (o :: l) a w:=by
 simp only [wpList];rw [Qk (by simp [Region.wanted,G])];left;exact wp_build t h E (by rw [y];rfl) (by rw [y];exact J)
theorem qhs:qbT.size=44:=rfl
theorem qhx (w:World) :
  Calls prog 222 #[] w fun h z=>h=.returned (.agg qbT)/\w.alloc (.cells qbT 282)=z:=by
 have E:∀ c:Array Value,c.size=44->(storeCells ⟨w.heap.size,0,none⟩ qbT.toList 0).run prog (w.alloc (.cells c 282))=.ok () (w.alloc (.cells qbT 282)):=fun c e=>
  run_storeCells_new w 282 c qbT (by kernel_rfl) (by rw [e,qhs]) (by kernel_rfl)
 have y:(loadVar 282 ⟨w.heap.size,0,none⟩).run prog (w.alloc (.cells qbT 282))=.ok (.agg qbT) (w.alloc (.cells qbT 282)):=
  run_loadVar_new w 282 qbT 11 241 (by kernel_rfl) (by kernel_rfl)
 have G:=qhs
 go_enter func222,ntmps222
 go_wp2_with (with_reducible refine wpList_build (o:=⟨some 11,_,_,_,_,_⟩) _ _ rfl rfl qbT (by kernel_rfl) ?_)
 refine bodyPost_ret (v:=.agg qbT) ?_ rfl ⟨rfl,rfl⟩;simp [results,results222,asAddr,y]
theorem qcC {W w1:World} (y:Below W.heap.size W w1):(∀ b o,b<W.heap.size->w1.cell? ⟨b,o,none⟩=W.cell? ⟨b,o,none⟩)/\(∀ b o,b<W.heap.size->w1.frozen? ⟨b,o,none⟩=W.frozen? ⟨b,o,none⟩):=
 ⟨fun b o h=>y.cell (p:=⟨b,o,none⟩) h,fun b o h=>y.frozen (p:=⟨b,o,none⟩) h⟩
attribute [local go_sem ↓] Go.wp_at_zero Go.wp_at_succ
theorem qs7 (k:Nat) (fn G:FuncId) (y h r n:Int) (s:ByteArray) (ak:1<=k) (ai:k<=10)
  (Z:∀ w,(Instr.index 282 (.agg qbT) (.int .i64 (k:Int))).run prog w=.ok (.agg #[.func (.func fn) #[] #[],.int .i64 y,.int .i64 h,.func (.func G) #[] #[]]) w)
  (V:∀ args w,(callFunc fn args).run prog w=.ok (.enter fn args) w)
  (N:∀ w,Calls prog fn #[.int .i64 r] w fun e w'=>e=.returned (.tuple #[.string s,.bool true])/\Below w.heap.size w w')
  (K:y<=n) (O:n<=h) (w:World) :
  Calls prog 181 #[.agg #[.int .i64 (k:Int),.int .i64 r,.int .i64 n]] w fun e w'=>
   e=.returned (.tuple #[.agg #[.func (.func fn) #[] #[],.int .i64 y,.int .i64 h,.func (.func G) #[] #[]],.string s,.bool true])/\Below w.heap.size w w':=by
 have J:=qcF 1 10 (k:Int) (by omega) (by omega);have aa:=J9 (qcF y h n K O);have af:=J9 N;clear N K O
 go_enter func181,ntmps181
 go_wp2_with fail
 refine (qcp 1 10 (k:Int) _ true J _ (by simp [go_sem])).mono ?_;rintro e w' ⟨rfl,rfl⟩;clear J;go_wp2
 go_region_held3 (fun w'=>w'.cell? ⟨w.heap.size,0,none⟩=some (.int .i64 (k:Int))) (simp [go_sem]) ((go_at_call 222;refine (qhx _).mono ?_;rintro e w' ⟨rfl,rfl⟩))
 all_goals
  go_wp2_with fail
  refine (af.o _).mono ?_;rintro e z ⟨rfl,E⟩;obtain ⟨U,ah⟩:=qcC E;have M:=E.size;simp at M;have ac:w.heap.size+1+1+1+1<z.heap.size:=by omega
  have ae:w.heap.size+1+1+1<z.heap.size:=by omega
  have ag:w.heap.size+1<z.heap.size:=by omega
  have ab:w.heap.size<z.heap.size:=by omega
  clear M;have ad:Hid (Below w.heap.size w z):=by
   refine Below.trans ?_ (E.mono (by simp;omega))
   repeat (first | exact Qc _ _ | refine Below.drew ?_ | refine Below.alloc ?_ (by simp <;> omega) _)
  clear E Z V
  go_wp2_with fail
  refine (qcp y h n _ true aa.o _ (by simp [go_sem])).mono ?_;rintro e aj ⟨rfl,rfl⟩;go_wp2;refine bodyPost_ret (v:=.tuple #[.agg #[.func (.func fn) #[] #[],.int .i64 y,.int .i64 h,.func (.func G) #[] #[]],.string s,.bool true]) (by simp [results,results181,go_sem,U,ah,ab,ag,ae,ac]) rfl ⟨rfl,?_⟩;exact ((((ad.o.setCell (by simp) _).setCell (by simp) _).setCell (by simp) _).setCell (by simp) _).alloc (by simp;omega) _
theorem qjG (k:Nat) (fn V:FuncId) (ac K r n:Int) (s:ByteArray) (ag:1<=k) (af:k<=10)
  (N:∀ w,(Instr.index 282 (.agg qbT) (.int .i64 (k:Int))).run prog w=.ok (.agg #[.func (.func fn) #[] #[],.int .i64 ac,.int .i64 K,.func (.func V) #[] #[]]) w)
  (M:∀ args w,(callFunc fn args).run prog w=.ok (.enter fn args) w)
  (G:∀ w,Calls prog fn #[.int .i64 r] w fun e w'=>e=.returned (.tuple #[.string s,.bool false])/\Below w.heap.size w w')
  (w:World) :
  Calls prog 181 #[.agg #[.int .i64 (k:Int),.int .i64 r,.int .i64 n]] w fun e w'=>
   e=.returned (.tuple #[.agg #[.nilFunc,.int .i64 0,.int .i64 0,.nilFunc],.string ⟨#[]⟩,.bool false])/\Below w.heap.size w w':=by
 have z:=qcF 1 10 (k:Int) (by omega) (by omega);have ab:=J9 G;clear G
 go_enter func181,ntmps181
 go_wp2_with fail
 refine (qcp 1 10 (k:Int) _ true z _ (by simp [go_sem])).mono ?_;rintro e w' ⟨rfl,rfl⟩;clear z;go_wp2
 go_region_held3 (fun w'=>w'.cell? ⟨w.heap.size,0,none⟩=some (.int .i64 (k:Int))) (simp [go_sem]) ((go_at_call 222;refine (qhx _).mono ?_;rintro e w' ⟨rfl,rfl⟩))
 all_goals
  go_wp2_with fail
  refine (ab.o _).mono ?_;rintro e h ⟨rfl,y⟩;obtain ⟨J,ae⟩:=qcC y;have E:=y.size;simp at E;have U:w.heap.size+1+1+1+1<h.heap.size:=by omega
  have aa:w.heap.size+1+1+1<h.heap.size:=by omega
  have ad:w.heap.size+1<h.heap.size:=by omega
  have O:w.heap.size<h.heap.size:=by omega
  clear E;have Z:Hid (Below w.heap.size w h):=by
   refine Below.trans ?_ (y.mono (by simp;omega))
   repeat (first | exact Qc _ _ | refine Below.drew ?_ | refine Below.alloc ?_ (by simp <;> omega) _)
  clear y N M;go_wp2;refine bodyPost_ret (v:=.tuple #[.agg #[.nilFunc,.int .i64 0,.int .i64 0,.nilFunc],.string ⟨#[]⟩,.bool false]) (by simp [results,results181,go_sem,J,ae,O,ad,aa,U]) rfl ⟨rfl,?_⟩;exact (((Z.o.setCell (by simp) _).setCell (by simp) _).setCell (by simp) _).setCell (by simp) _
theorem qqT (k:Nat) (fn ab:FuncId) (E y r n:Int) (s:ByteArray) (aj:1<=k) (ah:k<=10)
  (U:∀ w,(Instr.index 282 (.agg qbT) (.int .i64 (k:Int))).run prog w=.ok (.agg #[.func (.func fn) #[] #[],.int .i64 E,.int .i64 y,.func (.func ab) #[] #[]]) w)
  (O:∀ args w,(callFunc fn args).run prog w=.ok (.enter fn args) w)
  (M:∀ w,Calls prog fn #[.int .i64 r] w fun e w'=>e=.returned (.tuple #[.string s,.bool true])/\Below w.heap.size w w')
  (J:n<E\/y<n) (w:World) :
  Calls prog 181 #[.agg #[.int .i64 (k:Int),.int .i64 r,.int .i64 n]] w fun e w'=>
   e=.returned (.tuple #[.agg #[.nilFunc,.int .i64 0,.int .i64 0,.nilFunc],.string ⟨#[]⟩,.bool false])/\Below w.heap.size w w':=by
 have G:=qcF 1 10 (k:Int) (by omega) (by omega);have V:=J9 (qgo E y n J);have ae:=J9 M;clear M J
 go_enter func181,ntmps181
 go_wp2_with fail
 refine (qcp 1 10 (k:Int) _ true G _ (by simp [go_sem])).mono ?_;rintro e w' ⟨rfl,rfl⟩;clear G;go_wp2
 go_region_held3 (fun w'=>w'.cell? ⟨w.heap.size,0,none⟩=some (.int .i64 (k:Int))) (simp [go_sem]) ((go_at_call 222;refine (qhx _).mono ?_;rintro e w' ⟨rfl,rfl⟩))
 all_goals
  go_wp2_with fail
  refine (ae.o _).mono ?_;rintro e h ⟨rfl,z⟩;obtain ⟨N,ag⟩:=qcC z;have K:=z.size;simp at K;have aa:w.heap.size+1+1+1+1<h.heap.size:=by omega
  have ad:w.heap.size+1+1+1<h.heap.size:=by omega
  have af:w.heap.size+1<h.heap.size:=by omega
  have Z:w.heap.size<h.heap.size:=by omega
  clear K;have ac:Hid (Below w.heap.size w h):=by
   refine Below.trans ?_ (z.mono (by simp;omega))
   repeat (first | exact Qc _ _ | refine Below.drew ?_ | refine Below.alloc ?_ (by simp <;> omega) _)
  clear z U O
  go_wp2_with fail
  refine (qcp E y n _ false V.o _ (by simp [go_sem])).mono ?_;rintro e ai ⟨rfl,rfl⟩;go_wp2;refine bodyPost_ret (v:=.tuple #[.agg #[.nilFunc,.int .i64 0,.int .i64 0,.nilFunc],.string ⟨#[]⟩,.bool false]) (by simp [results,results181,go_sem,N,ag,Z,af,ad,aa]) rfl ⟨rfl,?_⟩;exact ((((ac.o.setCell (by simp) _).setCell (by simp) _).setCell (by simp) _).setCell (by simp) _).alloc (by simp;omega) _
theorem qu2 (k r n:Int) (y:k<1\/10<k) (w:World) :
  Calls prog 181 #[.agg #[.int .i64 k,.int .i64 r,.int .i64 n]] w fun e z=>
   e=.returned (.tuple #[.agg #[.nilFunc,.int .i64 0,.int .i64 0,.nilFunc],.string ⟨#[]⟩,.bool false])/\Below w.heap.size w z:=by
 have h:=qgo 1 10 k y;clear y
 go_enter func181,ntmps181
 go_wp2_with fail
 refine (qcp 1 10 k _ false h _ (by simp [go_sem])).mono ?_;rintro e z ⟨rfl,rfl⟩;clear h;go_wp2;refine bodyPost_ret (v:=.tuple #[.agg #[.nilFunc,.int .i64 0,.int .i64 0,.nilFunc],.string ⟨#[]⟩,.bool false]) (by simp [results,results181,go_sem]) rfl ⟨rfl,?_⟩
 repeat (first | exact Qc _ _ | refine Below.setCell ?_ (by simp) _ | refine Below.alloc ?_ (by simp <;> omega) _)
end Go.Proofs.YtjafbmfcedijmaaGreatDoor
namespace Go.Proofs.YtjafbmfcedijmaaGreatDoor
open Tryz
open Go.RowKit
def qeA (n:Int):ByteArray:=if n<0 then ⟨#[45]⟩++qaM (-n) else ⟨#[43]⟩++qaM n
def brS (s:ByteArray):ByteArray:=⟨#[40]⟩++s++⟨#[41]⟩
def qmf (k:Nat) (s:ByteArray) (n:Int):ByteArray:=match k with
 | 4=>brS s
 | 5=>brS (s++qeA n)
 | 6=>if n<0 then qeA n else qaM n
 | 7=>brS (qaM n)
 | 10=>⟨#[36]⟩++qeA (n+2)
 | _=>s
theorem qaz (n:Int):(qaM n).size<=6:=by
 have y:=qlR n;have h:(qdf n).data.toList.length=(qdf n).size:=by simp
 unfold qaM;split
 ·show (#[]:Array UInt8).size<=6;simp
 ·split
  ·show (#[_]:Array UInt8).size<=6;simp
  ·split
   ·show ((qdf n).data.toList++[72]).toArray.size<=6;rw [Zx,Qg,h];simp;omega
   ·show (48 :: (qdf n).data.toList++[72]).toArray.size<=6;rw [Zx,Qg,Qv,h];simp;omega
theorem qcw (n:Int):(qeA n).size<=7:=by
 unfold qeA;split
 ·have:=qaz (-n);rw [ByteArray.size_append];show 1+_<=7;omega
 ·have:=qaz n;rw [ByteArray.size_append];show 1+_<=7;omega
theorem qdA (s:ByteArray) (y:s.size<=100) (w:World) :
  Calls prog 283 #[.string s] w fun e h=>e=.returned (.string (brS s))/\w=h:=by
 go_enter func283,ntmps283
 go_wp2;go_ret;exact ⟨rfl,rfl⟩
theorem qfz (n:Int) (M : -100000<=n) (N:n<=100000) (w:World) :
  Calls prog 284 #[.int .i64 n] w fun h E=>h=.returned (.string (qeA n))/\Below w.heap.size w E:=by
 by_cases G:n<0
 ·have y:=J9 (show ⟨#[45]⟩++qaM (-n)=qeA n by unfold qeA;rw [Qk G])
  go_enter func284,ntmps284
  go_wp2_with fail
  refine (qfd _ _).mono ?_;rintro h E ⟨rfl,e⟩;have z:=J9 e;have J:=qaz n;have K:=qaz (-n);clear e;go_wp2;go_ret;exact ⟨qaw y.o,z.o⟩
 ·have y:=J9 (show ⟨#[43]⟩++qaM n=qeA n by unfold qeA;rw [Qd G])
  go_enter func284,ntmps284
  go_wp2_with fail
  refine (qfd _ _).mono ?_;rintro h E ⟨rfl,e⟩;have z:=J9 e;have J:=qaz n;have K:=qaz (-n);clear e;go_wp2;go_ret;exact ⟨qaw y.o,z.o⟩
theorem qdw (s:ByteArray) (n:Int) (w:World) :
  Calls prog 251 #[.string s,.int .i64 n] w fun e h=>e=.returned (.string s)/\Below w.heap.size w h:=by
 go_enter func251,ntmps251
 go_wp2;go_ret;exact ⟨rfl,Qc _ _⟩
theorem qmS (s:ByteArray) (n:Int) (y:s.size<=50) (w:World) :
  Calls prog 255 #[.string s,.int .i64 n] w fun e h=>e=.returned (.string (brS s))/\Below w.heap.size w h:=by
 go_enter func255,ntmps255
 go_wp2_with fail
 refine (qdA _ (by first | (rw [ByteArray.size_append];omega) | omega) _).mono ?_;rintro e h ⟨rfl,rfl⟩;go_wp2;go_ret;exact ⟨rfl,Qc _ _⟩
theorem qms (s:ByteArray) (n:Int) (M:s.size<=50) (E : -100000<=n) (G:n<=100000) (w:World) :
  Calls prog 257 #[.string s,.int .i64 n] w fun e h=>e=.returned (.string (brS (s++qeA n)))/\Below w.heap.size w h:=by
 go_enter func257,ntmps257
 go_wp2_with fail
 refine (qfz _ E G _).mono ?_;rintro e h ⟨rfl,y⟩;have z:=J9 y;have N:=qaz n;have J:=qcw n;have K:=qcw (n+2);clear y
 go_wp2_with fail
 refine (qdA _ (by first | (rw [ByteArray.size_append];omega) | omega) _).mono ?_;rintro e h ⟨rfl,rfl⟩;go_wp2;go_ret;exact ⟨rfl,z.o⟩
theorem qji (s:ByteArray) (n:Int) (J : -100000<=n) (N:n<=100000) (w:World) :
  Calls prog 259 #[.string s,.int .i64 n] w fun h E=>h=.returned (.string (qmf 6 s n))/\Below w.heap.size w E:=by
 by_cases G:n<0
 ·have y:=J9 (show qeA n=qmf 6 s n by show _=if n<0 then qeA n else qaM n;rw [Qk G])
  go_enter func259,ntmps259
  go_wp2_with fail
  refine (qfz _ J N _).mono ?_;rintro h E ⟨rfl,e⟩;have z:=J9 e;have K:=qaz n;have M:=qaz (-n);clear e;go_wp2;go_ret;exact ⟨qaw y.o,z.o⟩
 ·have y:=J9 (show qaM n=qmf 6 s n by show _=if n<0 then qeA n else qaM n;rw [Qd G])
  go_enter func259,ntmps259
  go_wp2_with fail
  refine (qfd _ _).mono ?_;rintro h E ⟨rfl,e⟩;have z:=J9 e;have K:=qaz n;have M:=qaz (-n);clear e;go_wp2;go_ret;exact ⟨qaw y.o,z.o⟩
theorem qo1 (s:ByteArray) (n:Int) (w:World) :
  Calls prog 260 #[.string s,.int .i64 n] w fun e h=>e=.returned (.string (brS (qaM n)))/\Below w.heap.size w h:=by
 go_enter func260,ntmps260
 go_wp2_with fail
 refine (qfd _ _).mono ?_;rintro e h ⟨rfl,y⟩;have z:=J9 y;have J:=qaz n;have E:=qcw n;have G:=qcw (n+2);clear y
 go_wp2_with fail
 refine (qdA _ (by first | (rw [ByteArray.size_append];omega) | omega) _).mono ?_;rintro e h ⟨rfl,rfl⟩;go_wp2;go_ret;exact ⟨rfl,z.o⟩
theorem qkw (s:ByteArray) (n:Int) (J : -1000<=n) (M:n<=1000) (w:World) :
  Calls prog 263 #[.string s,.int .i64 n] w fun e y=>e=.returned (.string (⟨#[36]⟩++qeA (n+2)))/\Below w.heap.size w y:=by
 go_enter func263,ntmps263
 go_wp2_with fail
 refine (qfz (n+2) (by omega) (by omega) _).mono ?_;rintro e y ⟨rfl,h⟩;have z:=J9 h;have K:=qaz n;have E:=qcw n;have G:=qcw (n+2);clear h;go_wp2;go_ret;exact ⟨rfl,z.o⟩
def loK:Nat->Int
 | 5=>-128
 | 6=>-32768
 | 10=>-128
 | _=>0
def hiK:Nat->Int
 | 5=>127
 | 6=>65535
 | 7=>65535
 | 10=>127
 | _=>0
def qBJ (k:Nat) (r:Int):Bool:=match k with
 | 6=>r == 0
 | 7=>r == 0
 | 10=>r == 0
 | k=>neB (nmS k r)
def qaT (k r n:Int):Bool:=decide (1<=k)&&decide (k<=10)&&qBJ k.toNat r&&(decide (loK k.toNat<=n)&&decide (n<=hiK k.toNat))
def qd2 (k r n:Int):ByteArray:=if qaT k r n then qmf k.toNat (nmS k.toNat r) n else ⟨#[]⟩
theorem qAU:∀ k:Fin 11,∀ h∈nmL k.val,h.size<=3:=by decide +kernel
theorem qx2 (k:Fin 11) (r:Int):(nmS k.val r).size<=50:=by
 rcases qzb (nmL k.val) r with h | h
 ·unfold nmS;rw [h];decide
 ·have:=qAU k _ h;unfold nmS;omega
theorem qoA (k:Fin 11) (r:Int):(nmS k.val r).size<=50:=qx2 k r
def qbR (k r n:Int):Prop:=
 ∃ (G h:FuncId) (z E:Int) (y:ByteArray),
  (∀ e,Calls prog 181 #[.agg #[.int .i64 k,.int .i64 r,.int .i64 n]] e fun s w=>
   s=.returned (.tuple #[.agg #[.func (.func G) #[] #[],.int .i64 z,.int .i64 E,.func (.func h) #[] #[]],.string y,.bool true])/\Below e.heap.size e w)/\
  (∀ args e,(callFunc h args).run prog e=.ok (.enter h args) e)/\
  ∀ e,Calls prog h #[.string y,.int .i64 n] e fun s w=>s=.returned (.string (qd2 k r n))/\Below e.heap.size e w
def qdd (k r n:Int):Prop:=
 ∀ e,Calls prog 181 #[.agg #[.int .i64 k,.int .i64 r,.int .i64 n]] e fun h w=>
   h=.returned (.tuple #[.agg #[.nilFunc,.int .i64 0,.int .i64 0,.nilFunc],.string ⟨#[]⟩,.bool false])/\Below e.heap.size e w
theorem qcy (k:Nat) (fn a:FuncId) (r n:Int) (K:1<=k) (G:k<=10) (s:ByteArray)
  (E:∀ w,(Instr.index 282 (.agg qbT) (.int .i64 (k:Int))).run prog w=.ok (.agg #[.func (.func fn) #[] #[],.int .i64 (loK k),.int .i64 (hiK k),.func (.func a) #[] #[]]) w)
  (z:∀ args w,(callFunc fn args).run prog w=.ok (.enter fn args) w)
  (b:∀ w,Calls prog fn #[.int .i64 r] w fun e w'=>e=.returned (.tuple #[.string s,.bool (qBJ k r)])/\Below w.heap.size w w')
  (Z:∀ args w,(callFunc a args).run prog w=.ok (.enter a args) w)
  (V:loK k<=n->n<=hiK k->∀ w,Calls prog a #[.string s,.int .i64 n] w fun e w'=>e=.returned (.string (qmf k (nmS k r) n))/\Below w.heap.size w w') :
  (qaT k r n=true->qbR k r n)/\(qaT k r n=false->qdd k r n):=by
 have O:((k:Int)).toNat=k:=by omega
 have ab:decide ((1:Int)<=(k:Int))=true:=Qn (by omega);have aa:decide ((k:Int)<=10)=true:=Qn (by omega);have M:qaT k r n=(qBJ k r&&(decide (loK k<=n)&&decide (n<=hiK k))):=by unfold qaT;rw [O,ab,aa];simp
 rw [M];constructor
 ·intro h
  simp only [Qh,Ql] at h;obtain ⟨c,J,y⟩:=h;rw [c] at b;refine ⟨fn,a,loK k,hiK k,s,fun w=>qs7 k fn a _ _ r n s K G E z b J y w,Z,fun w=>?_⟩;have ac:qd2 k r n=qmf k (nmS k r) n:=by unfold qd2;rw [Qk (by rw [M,c,Qn J,Qn y];rfl),O]
  rw [ac];exact V J y w
 ·intro h w
  by_cases c:qBJ k r=true
  ·rw [c] at h b
   have:n<loK k\/hiK k<n:=by
    simp only [Bool.true_and,Bool.and_eq_false_iff,decide_eq_false_iff_not] at h;omega
   exact qqT k fn a _ _ r n s K G E z b this w
  ·have U:qBJ k r=false:=by simpa using c
   rw [U] at b;exact qjG k fn a _ _ r n s K G E z b w
theorem qcS {P:Program} {f:FuncId} {args:Array Value} {v:Value} {w:World} (h:Calls P f args w fun e w'=>e=.returned v/\w=w'):Calls P f args w fun e w'=>e=.returned v/\Below w.heap.size w w':=
 h.mono fun e w' ⟨z,y⟩=>⟨z,by rw [<- y];exact Qc _ _⟩
theorem qA0 (r n:Int):(qaT 1 r n=true->qbR 1 r n)/\(qaT 1 r n=false->qdd 1 r n):=
 qcy 1 250 251 r n (by omega) (by omega) (nmS 1 r) (fun _=>by kernel_rfl) (fun _ _=>by kernel_rfl) (fun h=>qrB r h) (fun _ _=>by kernel_rfl) (fun _ _ h=>qdw _ n h)
theorem qAC (r n:Int):(qaT 2 r n=true->qbR 2 r n)/\(qaT 2 r n=false->qdd 2 r n):=
 qcy 2 252 251 r n (by omega) (by omega) (nmS 2 r) (fun _=>by kernel_rfl) (fun _ _=>by kernel_rfl) (fun h=>qki r h) (fun _ _=>by kernel_rfl) (fun _ _ h=>qdw _ n h)
theorem qAD (r n:Int):(qaT 3 r n=true->qbR 3 r n)/\(qaT 3 r n=false->qdd 3 r n):=
 qcy 3 253 251 r n (by omega) (by omega) (nmS 3 r) (fun _=>by kernel_rfl) (fun _ _=>by kernel_rfl) (fun h=>qoZ r h) (fun _ _=>by kernel_rfl) (fun _ _ h=>qdw _ n h)
theorem qBN (r n:Int):(qaT 4 r n=true->qbR 4 r n)/\(qaT 4 r n=false->qdd 4 r n):=
 qcy 4 254 255 r n (by omega) (by omega) (nmS 4 r) (fun _=>by kernel_rfl) (fun _ _=>by kernel_rfl) (fun h=>qhb r h) (fun _ _=>by kernel_rfl) (fun _ _ h=>qmS _ n (qoA 4 r) h)
theorem qzZ (r n:Int):(qaT 5 r n=true->qbR 5 r n)/\(qaT 5 r n=false->qdd 5 r n):=
 qcy 5 256 257 r n (by omega) (by omega) (nmS 5 r) (fun _=>by kernel_rfl) (fun _ _=>by kernel_rfl) (fun a=>qi1 r a) (fun _ _=>by kernel_rfl) (fun b h a=>qms _ n (qoA 5 r) (by simp only [loK] at b;omega) (by simp only [hiK] at h;omega) a)
theorem qAy (r n:Int):(qaT 6 r n=true->qbR 6 r n)/\(qaT 6 r n=false->qdd 6 r n):=
 qcy 6 258 259 r n (by omega) (by omega) ⟨#[]⟩ (fun _=>by kernel_rfl) (fun _ _=>by kernel_rfl) (fun a=>qcS (qfF r a)) (fun _ _=>by kernel_rfl) (fun b h a=>qji _ n (by simp only [loK] at b;omega) (by simp only [hiK] at h;omega) a)
theorem qAW (r n:Int):(qaT 7 r n=true->qbR 7 r n)/\(qaT 7 r n=false->qdd 7 r n):=
 qcy 7 258 260 r n (by omega) (by omega) ⟨#[]⟩ (fun _=>by kernel_rfl) (fun _ _=>by kernel_rfl) (fun a=>qcS (qfF r a)) (fun _ _=>by kernel_rfl) (fun b h a=>qo1 _ n a)
theorem qAv (r n:Int):(qaT 8 r n=true->qbR 8 r n)/\(qaT 8 r n=false->qdd 8 r n):=
 qcy 8 261 251 r n (by omega) (by omega) (nmS 8 r) (fun _=>by kernel_rfl) (fun _ _=>by kernel_rfl) (fun h=>qfy r h) (fun _ _=>by kernel_rfl) (fun _ _ h=>qdw _ n h)
theorem qz9 (r n:Int):(qaT 9 r n=true->qbR 9 r n)/\(qaT 9 r n=false->qdd 9 r n):=
 qcy 9 262 251 r n (by omega) (by omega) (nmS 9 r) (fun _=>by kernel_rfl) (fun _ _=>by kernel_rfl) (fun h=>qhF r h) (fun _ _=>by kernel_rfl) (fun _ _ h=>qdw _ n h)
theorem qxJ (r n:Int):(qaT 10 r n=true->qbR 10 r n)/\(qaT 10 r n=false->qdd 10 r n):=
 qcy 10 258 263 r n (by omega) (by omega) ⟨#[]⟩ (fun _=>by kernel_rfl) (fun _ _=>by kernel_rfl) (fun a=>qcS (qfF r a)) (fun _ _=>by kernel_rfl) (fun b h a=>qkw _ n (by simp only [loK] at b;omega) (by simp only [hiK] at h;omega) a)
theorem qcX (k r n:Int):(qaT k r n=true->qbR k r n)/\(qaT k r n=false->qdd k r n):=by
 by_cases h:1<=k/\k<=10
 ·have w:k=1\/k=2\/k=3\/k=4\/k=5\/k=6\/k=7\/k=8\/k=9\/k=10:=by omega
  rcases w with rfl | rfl | rfl | rfl | rfl | rfl | rfl | rfl | rfl | rfl
  ·exact qA0 r n
  ·exact qAC r n
  ·exact qAD r n
  ·exact qBN r n
  ·exact qzZ r n
  ·exact qAy r n
  ·exact qAW r n
  ·exact qAv r n
  ·exact qz9 r n
  ·exact qxJ r n
 ·have z:qaT k r n=false:=by
   unfold qaT;by_cases E:1<=k
   ·rw [Qf (show ¬k<=10 by omega)];simp
   ·rw [Qf E];simp
  rw [z];exact ⟨(fun h=>Bool.noConfusion h),fun _ y=>qu2 k r n (by omega) y⟩
theorem qgR (k r n:Int) (w:World) :
  Calls prog 211 #[.agg #[.int .i64 k,.int .i64 r,.int .i64 n]] w fun E M=>E=.returned (.bool (qaT k r n))/\Below w.heap.size w M:=by
 obtain ⟨G,H⟩:=qcX k r n;cases s:qaT k r n
 ·have y:=J9 (H s)
  clear G H s
  go_enter func211,ntmps211
  go_wp2_with fail
  refine (y.o _).mono ?_;rintro E J ⟨rfl,h⟩;have e:Hid (Below w.heap.size w J):=(B0).trans (h.mono (by simp));have z:=e.o.size;clear h;go_wp2;go_ret;exact ⟨rfl,e.o.alloc z _⟩
 ·obtain ⟨U,V,Z,N,O,K,-,-⟩:=G s
  have y:=J9 K;clear G H s K
  go_enter func211,ntmps211
  go_wp2_with fail
  refine (y.o _).mono ?_;rintro E J ⟨rfl,h⟩;have e:Hid (Below w.heap.size w J):=(B0).trans (h.mono (by simp));have z:=e.o.size;clear h;go_wp2;go_ret;exact ⟨rfl,e.o.alloc z _⟩
def rnL:Nat->List ByteArray
 | 4=>[⟨#[40,66,67,41]⟩,⟨#[40,68,69,41]⟩,⟨#[40,72,76,41]⟩,⟨#[40,83,80,41]⟩,⟨#[]⟩,⟨#[40,73,88,41]⟩,⟨#[40,73,89,41]⟩,⟨#[]⟩,⟨#[40,67,41]⟩]
 | k=>nmL k
def qc4 (L:List ByteArray) (w:World) (e:Ending) (w':World):Prop:=
 (L=[]/\e=.returned (.slice none 0 0)/\w=w')\/(e=.returned (.slice (some ⟨w.heap.size,0,none⟩) L.length L.length)/\w.alloc (.cells (L.map Value.string).toArray 9)=w')
theorem qzK (w:World):Calls prog 212 #[.int .i64 1] w (qc4 (rnL 1) w):=by
 go_enter func212,ntmps212
 go_wp2;go_ret;exact .inr ⟨rfl,rfl⟩
theorem qA4 (w:World):Calls prog 212 #[.int .i64 2] w (qc4 (rnL 2) w):=by
 go_enter func212,ntmps212
 go_wp2;go_ret;exact .inr ⟨rfl,rfl⟩
theorem qAj (w:World):Calls prog 212 #[.int .i64 3] w (qc4 (rnL 3) w):=by
 go_enter func212,ntmps212
 go_wp2;go_ret;exact .inr ⟨rfl,rfl⟩
theorem qz7 (w:World):Calls prog 212 #[.int .i64 4] w (qc4 (rnL 4) w):=by
 go_enter func212,ntmps212
 go_wp2;go_ret;exact .inr ⟨rfl,rfl⟩
theorem qAh (w:World):Calls prog 212 #[.int .i64 5] w (qc4 (rnL 5) w):=by
 go_enter func212,ntmps212
 go_wp2;go_ret;exact .inr ⟨rfl,rfl⟩
theorem qBm (w:World):Calls prog 212 #[.int .i64 8] w (qc4 (rnL 8) w):=by
 go_enter func212,ntmps212
 go_wp2;go_ret;exact .inr ⟨rfl,rfl⟩
theorem qA1 (w:World):Calls prog 212 #[.int .i64 9] w (qc4 (rnL 9) w):=by
 go_enter func212,ntmps212
 go_wp2;go_ret;exact .inr ⟨rfl,rfl⟩
theorem qyX (k:Int) (h:k≠1/\k≠2/\k≠3/\k≠4/\k≠5/\k≠8/\k≠9) (w:World):Calls prog 212 #[.int .i64 k] w (qc4 [] w):=by
 have z:(k == 1)=false:=Qj.2 (by omega);have K:(k == 2)=false:=Qj.2 (by omega);have E:(k == 3)=false:=Qj.2 (by omega);have G:(k == 4)=false:=Qj.2 (by omega);have M:(k == 5)=false:=Qj.2 (by omega);have J:(k == 8)=false:=Qj.2 (by omega);have y:(k == 9)=false:=Qj.2 (by omega);clear h
 go_enter func212,ntmps212
 go_wp2;go_ret;exact .inl ⟨rfl,rfl,rfl⟩
def rnK (k:Int):List ByteArray:=if 0<=k then rnL k.toNat else []
theorem qxc (k:Int) (y:k≠1/\k≠2/\k≠3/\k≠4/\k≠5/\k≠8/\k≠9):rnK k=[]:=by
 unfold rnK;split
 ·rename_i m
  obtain ⟨h,rfl⟩:∃ h:Nat,k=h:=⟨k.toNat,by omega⟩;rw [Int.toNat_natCast];unfold rnL nmL;split
  ·omega
  ·split <;> first | omega | rfl
 ·rfl
theorem qvJ (k:Int) (w:World):Calls prog 212 #[.int .i64 k] w (qc4 (rnK k) w):=by
 by_cases h:k≠1/\k≠2/\k≠3/\k≠4/\k≠5/\k≠8/\k≠9
 ·rw [qxc k h];exact qyX k h w
 ·have y:k=1\/k=2\/k=3\/k=4\/k=5\/k=8\/k=9:=by omega
  rcases y with rfl | rfl | rfl | rfl | rfl | rfl | rfl
  ·exact qzK w
  ·exact qA4 w
  ·exact qAj w
  ·exact qz7 w
  ·exact qAh w
  ·exact qBm w
  ·exact qA1 w
theorem qyv (k:Int):(rnK k).length<=9:=by
 by_cases y:k≠1/\k≠2/\k≠3/\k≠4/\k≠5/\k≠8/\k≠9
 ·rw [qxc k y];decide
 ·have h:k=1\/k=2\/k=3\/k=4\/k=5\/k=8\/k=9:=by omega
  rcases h with rfl | rfl | rfl | rfl | rfl | rfl | rfl <;> decide
theorem qbp (k r:Int) (w:World) :
  Calls prog 154 #[.int .i64 k,.int .i64 r] w fun y O=>y=.returned (.string (atS (rnK k) r))/\Below w.heap.size w O:=by
 have HR:=J9 (qvJ k);have J:=qyv k;obtain ⟨e,j⟩:=N9 (rnK k);rw [j] at HR J |-;clear j;by_cases L:r<0
 ·have h:=J9 (qej e r (.inl L))
  go_enter func154,ntmps154
  go_wp2_with fail
  refine (HR.o _).mono ?_;rintro y K (⟨j,rfl,rfl⟩ | ⟨rfl,rfl⟩)
  ·clear j
   go_wp2;go_ret;exact ⟨qaw h.o.symm,Qc _ _⟩
  ·go_wp2
   go_ret;exact ⟨qaw h.o.symm,B0⟩
 ·by_cases G:(e.length:Int)<=r
  ·have h:=J9 (qej e r (.inr G))
   go_enter func154,ntmps154
   go_wp2_with fail
   refine (HR.o _).mono ?_;rintro y K (⟨j,rfl,rfl⟩ | ⟨rfl,rfl⟩)
   ·clear j
    have U:(0:Int)<=r:=(by omega);go_wp2;go_ret;exact ⟨qaw h.o.symm,Qc _ _⟩
   ·go_wp2
    go_ret;exact ⟨qaw h.o.symm,B0⟩
  ·obtain ⟨n,rfl⟩:∃ n:Nat,r=n:=⟨r.toNat,by omega⟩
   have z:n<e.length:=(by omega);have h:=J9 (qrj e n z);have M:=(fun (w:World)=>qb1 w e 9 n z);obtain ⟨T,E⟩:=N9 (e[n]);rw [E] at h;simp only [E] at M;obtain ⟨Z,s⟩:=N9 (e.length);have V:=J9 s;rw [s] at z J;clear L G E
   go_enter func154,ntmps154
   go_wp2_with fail
   refine (HR.o _).mono ?_;rintro y K (⟨j,rfl,rfl⟩ | ⟨rfl,rfl⟩)
   ·exfalso;rw [j] at s;simp at s;omega
   ·rw [s]
    clear s;go_wp2;go_ret;exact ⟨qaw h.o.symm,B0⟩
theorem neB_4 (r:Int):neB (atS (rnK 4) r)=neB (nmS 4 r):=by
 by_cases y:0<=r/\r<9
 ·obtain ⟨h,rfl⟩:∃ h:Nat,r=h:=⟨r.toNat,by omega⟩
  have j:∀ i:Fin 9,neB (atS (rnK 4) ((i.val:Nat):Int))=neB (nmS 4 ((i.val:Nat):Int)):=by decide +kernel
  exact j ⟨h,by omega⟩
 ·unfold nmS
  rw [qej _ r (by show r<0\/(9:Int)<=r;omega),qej _ r (by show r<0\/(9:Int)<=r;omega)]
theorem qA9 (k r n:Int) (e:k=1\/k=2\/k=3\/k=4\/k=8\/k=9):qaT k r n=(neB (atS (rnK k) r)&&(n == 0)):=by
 have h:qaT k r n=(neB (nmS k.toNat r)&&(decide (0<=n)&&decide (n<=0))):=by rcases e with rfl | rfl | rfl | rfl | rfl | rfl <;> rfl
 have y:neB (nmS k.toNat r)=neB (atS (rnK k) r):=by rcases e with rfl | rfl | rfl | rfl | rfl | rfl <;> first | rfl | exact (neB_4 r).symm
 rw [h,y]
 congr 1
 rw [Bool.eq_iff_iff];simp only [Qh,Ql,beq_iff_eq];omega
theorem qd1 (k r n:Int) (E:k=1\/k=2\/k=3\/k=4\/k=8\/k=9) (w:World) :
  Calls prog 111 #[.agg #[.int .i64 k,.int .i64 r,.int .i64 n]] w fun y M=>y=.returned (.bool (qaT k r n))/\Below w.heap.size w M:=by
 have HR:=J9 (qbp k r);rw [qA9 k r n E];obtain ⟨e,z⟩:=N9 (atS (rnK k) r);rw [z] at HR |-;clear z;rcases E with rfl | rfl | rfl | rfl | rfl | rfl
 all_goals
  cases K:e.toList.isEmpty
  all_goals
   have h:neB e=!e.toList.isEmpty:=rfl;rw [K] at h;rw [h];clear h
   go_enter func111,ntmps111
   go_wp2_with fail
   refine (HR.o _).mono ?_;rintro y J ⟨rfl,s⟩;have G:Hid (Below w.heap.size w J):=(B0).trans (s.mono (by simp));obtain ⟨N,-⟩:=qcC s;clear s;go_wp2;go_ret;exact ⟨rfl,G.o⟩
theorem qBH (r n:Int):qaT 5 r n=(neB (atS (rnK 5) r)&&(decide (-128<=n)&&decide (n<=127))):=rfl
theorem qtL (r n:Int) (w:World) :
  Calls prog 111 #[.agg #[.int .i64 5,.int .i64 r,.int .i64 n]] w fun E N=>E=.returned (.bool (qaT 5 r n))/\Below w.heap.size w N:=by
 have HR:=J9 (qbp 5 r);rw [qBH];obtain ⟨y,J⟩:=N9 (atS (rnK 5) r);rw [J] at HR |-;clear J;cases M:y.toList.isEmpty
 ·have h:neB y=!y.toList.isEmpty:=rfl
  rw [M] at h;rw [h];clear h;by_cases K : -128<=n
  ·rw [Qn K]
   go_enter func111,ntmps111
   go_wp2_with fail
   refine (HR.o _).mono ?_;rintro E z ⟨rfl,e⟩;have s:Hid (Below w.heap.size w z):=(B0).trans (e.mono (by simp));obtain ⟨G,-⟩:=qcC e;clear e;go_wp2;go_ret;exact ⟨rfl,s.o⟩
  ·rw [Qf K]
   have O:n < -128:=by omega
   go_enter func111,ntmps111
   go_wp2_with fail
   refine (HR.o _).mono ?_;rintro E z ⟨rfl,e⟩;have s:Hid (Below w.heap.size w z):=(B0).trans (e.mono (by simp));obtain ⟨G,-⟩:=qcC e;clear e;go_wp2;go_ret;exact ⟨rfl,s.o⟩
 ·have h:neB y=!y.toList.isEmpty:=rfl
  rw [M] at h;rw [h];clear h
  go_enter func111,ntmps111
  go_wp2_with fail
  refine (HR.o _).mono ?_;rintro E z ⟨rfl,e⟩;have s:Hid (Below w.heap.size w z):=(B0).trans (e.mono (by simp));obtain ⟨G,-⟩:=qcC e;clear e;go_wp2;go_ret;exact ⟨rfl,s.o⟩
theorem quO (r n:Int):qaT 6 r n=((r == 0)&&(decide (-32768<=n)&&decide (n<=65535))):=rfl
theorem qv9 (r n:Int) (w:World) :
  Calls prog 111 #[.agg #[.int .i64 6,.int .i64 r,.int .i64 n]] w fun y E=>y=.returned (.bool (qaT 6 r n))/\Below w.heap.size w E:=by
 rw [quO];by_cases e:r=0
 ·subst e
  by_cases h : -32768<=n
  ·rw [Qn h]
   go_enter func111,ntmps111
   go_wp2;go_ret;exact ⟨rfl,B0⟩
  ·rw [Qf h]
   have G:n < -32768:=by omega
   go_enter func111,ntmps111
   go_wp2;go_ret;exact ⟨rfl,B0⟩
 ·have z:(r == 0)=false:=Qj.2 e
  rw [z];clear e
  go_enter func111,ntmps111
  go_wp2;go_ret;exact ⟨rfl,B0⟩
theorem qCk (r n:Int):qaT 7 r n=((r == 0)&&(decide (0<=n)&&decide (n<=65535))):=rfl
theorem qvM (r n:Int) (w:World) :
  Calls prog 111 #[.agg #[.int .i64 7,.int .i64 r,.int .i64 n]] w fun y E=>y=.returned (.bool (qaT 7 r n))/\Below w.heap.size w E:=by
 rw [qCk];by_cases e:r=0
 ·subst e
  by_cases h:0<=n
  ·rw [Qn h]
   go_enter func111,ntmps111
   go_wp2;go_ret;exact ⟨rfl,B0⟩
  ·rw [Qf h]
   have G:n<0:=by omega
   go_enter func111,ntmps111
   go_wp2;go_ret;exact ⟨rfl,B0⟩
 ·have z:(r == 0)=false:=Qj.2 e
  rw [z];clear e
  go_enter func111,ntmps111
  go_wp2;go_ret;exact ⟨rfl,B0⟩
theorem qww (r n:Int):qaT 10 r n=((r == 0)&&(decide (-128<=n)&&decide (n<=127))):=rfl
theorem qrQ (r n:Int) (w:World) :
  Calls prog 111 #[.agg #[.int .i64 10,.int .i64 r,.int .i64 n]] w fun y E=>y=.returned (.bool (qaT 10 r n))/\Below w.heap.size w E:=by
 rw [qww];by_cases e:r=0
 ·subst e
  by_cases h : -128<=n
  ·rw [Qn h]
   go_enter func111,ntmps111
   go_wp2;go_ret;exact ⟨rfl,B0⟩
  ·rw [Qf h]
   have G:n < -128:=by omega
   go_enter func111,ntmps111
   go_wp2;go_ret;exact ⟨rfl,B0⟩
 ·have z:(r == 0)=false:=Qj.2 e
  rw [z];clear e
  go_enter func111,ntmps111
  go_wp2;go_ret;exact ⟨rfl,B0⟩
theorem qzJ (k r n:Int) (y:k<1\/10<k):qaT k r n=false:=by
 unfold qaT;by_cases h:1<=k
 ·rw [Qf (show ¬k<=10 by omega)];simp
 ·rw [Qf h];simp
theorem qsY (k r n:Int) (e:k<1\/10<k) (w:World) :
  Calls prog 111 #[.agg #[.int .i64 k,.int .i64 r,.int .i64 n]] w fun h y=>h=.returned (.bool (qaT k r n))/\Below w.heap.size w y:=by
 rw [qzJ k r n e];have G:(k == 1)=false:=Qj.2 (by omega);have V:(k == 2)=false:=Qj.2 (by omega);have J:(k == 3)=false:=Qj.2 (by omega);have K:(k == 4)=false:=Qj.2 (by omega);have Z:(k == 5)=false:=Qj.2 (by omega);have M:(k == 6)=false:=Qj.2 (by omega);have z:(k == 7)=false:=Qj.2 (by omega);have O:(k == 8)=false:=Qj.2 (by omega);have E:(k == 9)=false:=Qj.2 (by omega);have U:(k == 10)=false:=Qj.2 (by omega);clear e
 go_enter func111,ntmps111
 go_wp2;go_ret;exact ⟨rfl,B0⟩
theorem qaE (k r n:Int) (w:World) :
  Calls prog 111 #[.agg #[.int .i64 k,.int .i64 r,.int .i64 n]] w fun h y=>h=.returned (.bool (qaT k r n))/\Below w.heap.size w y:=by
 by_cases z:1<=k/\k<=10
 ·have e:k=1\/k=2\/k=3\/k=4\/k=5\/k=6\/k=7\/k=8\/k=9\/k=10:=by omega
  rcases e with rfl | rfl | rfl | rfl | rfl | rfl | rfl | rfl | rfl | rfl
  ·exact qd1 1 r n (by decide) w
  ·exact qd1 2 r n (by decide) w
  ·exact qd1 3 r n (by decide) w
  ·exact qd1 4 r n (by decide) w
  ·exact qtL r n w
  ·exact qv9 r n w
  ·exact qvM r n w
  ·exact qd1 8 r n (by decide) w
  ·exact qd1 9 r n (by decide) w
  ·exact qrQ r n w
 ·exact qsY k r n (by omega) w
def inP (a h l k r n:Int):Prop:=(k=3/\r=a/\n=0)\/(k=4/\r=a/\n=0)\/(k=5/\r=a)\/(k=2/\r=h/\n=0)\/(k=2/\r=l/\n=0)
instance (a h l k r n:Int):Decidable (inP a h l k r n):=by unfold inP;infer_instance
def inB (a h l k r n:Int):Bool:=decide (inP a h l k r n)
theorem qlj (a e l k r n:Int) (w:World) :
  Calls prog 276 #[.agg #[.int .i64 a,.int .i64 e,.int .i64 l],.agg #[.int .i64 k,.int .i64 r,.int .i64 n]] w fun h y=>h=.returned (.bool (inB a e l k r n))/\Below w.heap.size w y:=by
 go_enter func276,ntmps276
 go_wp2
 all_goals
  go_ret;exact ⟨qaa (by unfold inB;first | exact (Qn (by unfold inP;omega)).symm | exact (Qf (by unfold inP;omega)).symm),(B0).alloc (by simp) _⟩
def qkY (k r n:Int):Int:=if qaT k r n then (if inB 5 0 1 k r n then 5 else if inB 6 2 3 k r n then 6 else 0) else 0
theorem qBj (k r n:Int) (h:qaT k r n=false):qkY k r n=0:=by unfold qkY;rw [h];rfl
theorem qDc (k r n:Int) (h:qaT k r n=true) (y:inB 5 0 1 k r n=true):qkY k r n=5:=by unfold qkY;rw [h,y];rfl
theorem qCS (k r n:Int) (h:qaT k r n=true) (z:inB 5 0 1 k r n=false) (y:inB 6 2 3 k r n=true):qkY k r n=6:=by unfold qkY;rw [h,z,y];rfl
theorem qCJ (k r n:Int) (h:qaT k r n=true) (z:inB 5 0 1 k r n=false) (y:inB 6 2 3 k r n=false):qkY k r n=0:=by unfold qkY;rw [h,z,y];rfl
def qnD (w:World) (b:Nat) (k r n:Int):Prop:=w.cell? ⟨b,0,none⟩=some (.int .i64 k)/\w.cell? ⟨b,1,none⟩=some (.int .i64 r)/\w.cell? ⟨b,2,none⟩=some (.int .i64 n)
theorem qnD.below {w w':World} {b:Nat} {k r n:Int} (h:qnD w b k r n) (y:Below w.heap.size w w'):qnD w' b k r n:=
 ⟨(y.cell (Qp w _ h.1)).trans h.1,(y.cell (Qp w _ h.2.1)).trans h.2.1,(y.cell (Qp w _ h.2.2)).trans h.2.2⟩
theorem qnD.new (w:World) (k r n:Int) (t:TypeId):qnD (w.alloc (.cells #[.int .i64 k,.int .i64 r,.int .i64 n] t)) w.heap.size k r n:=⟨by simp [go_sem],by simp [go_sem],by simp [go_sem]⟩
theorem qnD.lt {w:World} {b:Nat} {k r n:Int} (h:qnD w b k r n):b<w.heap.size:=Qp w _ h.1
theorem qtY (k r n:Int) (e:qaT k r n=false) (w:World) :
  Calls prog 242 #[.agg #[.int .i64 k,.int .i64 r,.int .i64 n]] w fun h J=>h=.returned (.int .i64 (qkY k r n))/\Below w.heap.size w J:=by
 have y:=J9 (qgR k r n);rw [e] at y;rw [qBj k r n e];clear e
 go_enter func242,ntmps242
 go_wp2_with fail
 refine (y.o _).mono ?_;rintro h G ⟨rfl,z⟩;have E:Hid (Below w.heap.size w G):=(B0).trans (z.mono (by simp));clear z;go_wp2;go_ret;exact ⟨rfl,E.o⟩
theorem qtq (k r n:Int) (i:qaT k r n=true) (w:World) :
  Calls prog 242 #[.agg #[.int .i64 k,.int .i64 r,.int .i64 n]] w fun K ao=>K=.returned (.int .i64 (qkY k r n))/\Below w.heap.size w ao:=by
 have aa:=J9 (qgR k r n);have af:=J9 (qDc k r n i);have aj:=J9 (qCS k r n i);have ak:=J9 (qCJ k r n i);rw [i] at aa;clear i
 go_enter func242,ntmps242
 go_wp2_with fail
 refine (aa.o _).mono ?_;rintro K ad ⟨rfl,N⟩;have am:Hid (Below w.heap.size w ad):=(B0).trans (N.mono (by simp));have ai:Hid (qnD ad w.heap.size k r n):=(qnD.new w k r n _).below N;clear N;go_wp2
 go_loopw [11] (fun M wr=>∃ o:Int,(o=0\/o=1\/o=2)/\M=.int .i64 o/\Below w.heap.size w wr/\qnD wr w.heap.size k r n/\(0<o->inB 5 0 1 k r n=false)/\(1<o->inB 6 2 3 k r n=false)) (fun M _=>2 - (intOf M).toNat)
 case atStart=>exact ⟨0,.inl rfl,rfl,am.o,ai.o,fun i=>by omega,fun i=>by omega⟩
 case round=>
  obtain ⟨o,ag,rfl,ac,ab,Z,ae⟩:=hrel;have y:=J9 ac;have U:=J9 ab;obtain ⟨av,ap,ar⟩:=ab;have I1:=J9 Z;have I2:=J9 ae;have au:=U.o.lt;clear ac Z ae;have aw:∀ w,(Instr.index 322 (.agg #[.int .i64 5,.int .i64 0,.int .i64 1,.int .i64 6,.int .i64 2,.int .i64 3]) (.int .i64 0)).run prog w=.ok (.agg #[.int .i64 5,.int .i64 0,.int .i64 1]) w:=fun _=>by kernel_rfl
  have aq:∀ w,(Instr.index 322 (.agg #[.int .i64 5,.int .i64 0,.int .i64 1,.int .i64 6,.int .i64 2,.int .i64 3]) (.int .i64 1)).run prog w=.ok (.agg #[.int .i64 6,.int .i64 2,.int .i64 3]) w:=fun _=>by kernel_rfl
  rcases ag with rfl | rfl | rfl
  ·have G:∀ e,Below w.heap.size w (wr.alloc e):=fun e=>y.o.alloc y.o.size _
   have z:∀ e,qnD (wr.alloc e) w.heap.size k r n:=(fun e=>U.o.below (B0));have V:=J9 G;have O:=J9 z;clear G z
   go_wp2_with fail
   refine (qlj 5 0 1 k r n _).mono ?_;rintro K J ⟨rfl,h⟩;have E:Hid (Below w.heap.size w J):=(V.o _).trans (h.mono (by simp;have:=y.o.size;omega));have T:Hid (qnD J w.heap.size k r n):=(O.o _).below h;obtain ⟨ah,-⟩:=qcC h;clear h;cases j:inB 5 0 1 k r n
   ·go_wp2
    go_roundw
    case rel=>exact ⟨1,.inr (.inl rfl),rfl,E.o,T.o,fun _=>j,fun i=>by omega⟩
    case measure=>simp [intOf]
   ·have B:=J9 (af.o j)
    clear j;go_wp2;go_ret;exact ⟨qan B.o.symm,E.o⟩
  ·have G:∀ e,Below w.heap.size w (wr.alloc e):=fun e=>y.o.alloc y.o.size _
   have z:∀ e,qnD (wr.alloc e) w.heap.size k r n:=(fun e=>U.o.below (B0));have V:=J9 G;have O:=J9 z;clear G z
   go_wp2_with fail
   refine (qlj 6 2 3 k r n _).mono ?_;rintro K J ⟨rfl,h⟩;have E:Hid (Below w.heap.size w J):=(V.o _).trans (h.mono (by simp;have:=y.o.size;omega));have T:Hid (qnD J w.heap.size k r n):=(O.o _).below h;obtain ⟨ah,-⟩:=qcC h;clear h;cases j:inB 6 2 3 k r n
   ·have an:=J9 j
    clear j;go_wp2;go_roundw
    case rel=>exact ⟨2,.inr (.inr rfl),rfl,E.o,T.o,fun _=>I1.o (by omega),fun _=>an.o⟩
    case measure=>simp [intOf]
   ·have B:=J9 (aj.o (I1.o (by omega)) j)
    clear j;go_wp2;go_ret;exact ⟨qan B.o.symm,E.o⟩
  ·have B:=J9 (ak.o (I1.o (by omega)) (I2.o (by omega)))
   go_wp2;go_ret;exact ⟨qan B.o.symm,y.o⟩
theorem qg0 (k r n:Int) (w:World) :
  Calls prog 242 #[.agg #[.int .i64 k,.int .i64 r,.int .i64 n]] w fun h y=>h=.returned (.int .i64 (qkY k r n))/\Below w.heap.size w y:=by
 cases e:qaT k r n
 ·exact qtY k r n e w
 ·exact qtq k r n e w
end Go.Proofs.YtjafbmfcedijmaaGreatDoor
namespace Go.Proofs.YtjafbmfcedijmaaGreatDoor
open Tryz
open Go.RowKit
attribute [local go_sem] Oper.semAt_some
theorem up1 (w:World) (o:Obj):Below w.heap.size w (w.alloc o):=B0
theorem ql0 (a b:Tr) (w:World) :
  Calls prog 205 #[.agg #[.int .i64 a.1,.int .i64 a.2.1,.int .i64 a.2.2],.agg #[.int .i64 b.1,.int .i64 b.2.1,.int .i64 b.2.2]] w fun y Z=>y=.returned (.bool (decide (ks2 a=ks2 b)))/\Below w.heap.size w Z:=by
 obtain ⟨e,h,G⟩:=a;obtain ⟨M,z,K⟩:=b;simp only;have U:Hid (Below w.heap.size w ((w.alloc (.cells #[.int .i64 e,.int .i64 h,.int .i64 G] 57)).alloc (.cells #[.int .i64 M,.int .i64 z,.int .i64 K] 57))):=(B0).alloc (by simp) _;by_cases J:e=M
 ·subst J
  by_cases O:h=z
  ·subst O
   have E:Hid (true=decide (ks2 (e,h,G)=ks2 (e,h,K))):=(Qn rfl).symm
   go_enter func205,ntmps205
   go_wp2;go_ret;exact ⟨qaa E.o,U.o⟩
  ·have E:Hid (false=decide (ks2 (e,h,G)=ks2 (e,z,K))):=(Qf (fun y=>O (congrArg (fun T:Int×Int=>T.2) y))).symm
   have V:(h == z)=false:=Qj.2 O;clear O
   go_enter func205,ntmps205
   go_wp2;go_ret;exact ⟨qaa E.o,U.o⟩
 ·have E:Hid (false=decide (ks2 (e,h,G)=ks2 (M,z,K))):=(Qf (fun y=>J (congrArg (fun T:Int×Int=>T.1) y))).symm
  have V:(e == M)=false:=Qj.2 J;clear J
  go_enter func205,ntmps205
  go_wp2;go_ret;exact ⟨qaa E.o,U.o⟩
theorem qqs (A1 aF:Option Addr) (aM c2 i y:Nat) (e h:List Tr) (T:e.length=i) (V:h.length=y) (a5:i<=1000) (aR:y<=1000) (w:World) (aq:qaj w A1 e) (ao:qaj w aF h) :
  Calls prog 204 #[.slice A1 i aM,.slice aF y c2,.func (.func 205) #[] #[]] w fun j ag=>j=.returned (.bool (decide (e.map ks2=h.map ks2)))/\Below w.heap.size w ag:=by
 by_cases aG:i=y
 ·subst aG
  have aV:=J9 aq;have aS:=J9 ao;have aa:=J9 T;have aD:=J9 V;clear aq ao T V aR
  go_enter func204,ntmps204
  go_wp2
  go_loopw [17] (fun ak wr=>∃ a:Nat,a<=i/\ak=.int .i64 a/\Hid (∀ b,b<a->ks2 (e.getD b tr0)=ks2 (h.getD b tr0))/\Hid (Below w.heap.size w wr)) (fun ak _=>i - (intOf ak).toNat)
  case atStart=>exact ⟨0,Qs _,rfl,fun b x=>by omega,Qc _ _⟩
  case round=>
   obtain ⟨a,a4,rfl,G,z⟩:=hrel;by_cases a3:a<i
   ·have ad:a<e.length:=by have:=aa.o;omega
    have ai:a<h.length:=(by have:=aD.o;omega);obtain ⟨a0,a1,rfl,aK,ap,af,ah⟩:=(aV.o.below z.o).at_ ad;obtain ⟨ac,ab,rfl,U,M,R,E⟩:=(aS.o.below z.o).at_ ai;have az:e.getD a tr0=e[a]:=(by rw [Qo,Qi ad];rfl);have aJ:h.getD a tr0=h[a]:=(by rw [Qo,Qi ai];rfl);rw [<- az] at ap af ah;rw [<- aJ] at M R E;obtain ⟨au,am⟩:=N9 (e.getD a tr0);obtain ⟨aw,aj⟩:=N9 (h.getD a tr0);rw [am] at ap af ah;rw [aj] at M R E;have aA:=J9 am;have ax:=J9 aj;have k:=(fun ag=>ql0 au aw ag);obtain ⟨J,K,O⟩:=au;obtain ⟨aE,aH,ay⟩:=aw;simp only at ap af ah M R E k;have aZ:=((up1 wr (.cells #[.int .i64 J,.int .i64 K,.int .i64 O] 57)).cell (p:=⟨ac,ab+a*3,none⟩) U).trans M;have a2:=((up1 wr (.cells #[.int .i64 J,.int .i64 K,.int .i64 O] 57)).cell (p:=⟨ac,ab+a*3+1,none⟩) U).trans R;have aX:=((up1 wr (.cells #[.int .i64 J,.int .i64 K,.int .i64 O] 57)).cell (p:=⟨ac,ab+a*3+2,none⟩) U).trans E;clear M R E aK U;obtain ⟨an,Z⟩:=N9 ((wr.alloc (.cells #[.int .i64 J,.int .i64 K,.int .i64 O] 57)).alloc (.cells #[.int .i64 aE,.int .i64 aH,.int .i64 ay] 57));have aI:Below wr.heap.size wr an:=(by rw [<- Z];exact (B0).alloc (by simp) _);have aB:=J9 (z.o.trans (aI.mono z.o.size));have aU:Hid (w.heap.size<=an.heap.size):=aB.o.size;have k:=k an;rw [<- Z] at k;have aT:=J9 Z;obtain ⟨aQ,ae⟩:=N9 (decide (ks2 (J,K,O)=ks2 (aE,aH,ay)));rw [ae] at k;have aC:=J9 ae;clear am aj az aJ ad ai aI ae z Z
    go_wp2_with fail
    refine k.mono ?_;rintro j aY ⟨rfl,ar⟩;rw [aT.o] at ar;have av:=J9 (aB.o.trans (ar.mono aU.o));clear ar k;cases aQ with
    | true=>
     have R2:Hid (∀ b,b<a+1->ks2 (e.getD b tr0)=ks2 (h.getD b tr0)):=fun b a7=>by
      by_cases j:b=a
      ·subst j
       rw [aA.o,ax.o];exact Qt aC.o
      ·exact G.o b (by omega)
     clear G;go_wp2;go_roundw
     case rel=>exact ⟨a+1,by omega,by go_num,R2.o,av.o⟩
     case measure=>simp [intOf];omega
    | false=>
     have B:Hid (false=decide (e.map ks2=h.map ks2)):=(Qf (fun j=>by
      have x:=qbI j a (by have:=aa.o;omega);rw [aA.o,ax.o] at x;exact Q3 aC.o (Prod.ext x.1 x.2))).symm
     clear G;go_wp2;go_ret;exact ⟨qaa B.o,av.o⟩
   ·have B:Hid (true=decide (e.map ks2=h.map ks2)):=by
     refine (Qn (List.ext_getElem (by simp [aa.o,aD.o]) fun b aP aL=>?_)).symm;have aO:b<e.length:=(by simpa using aP);have aN:b<h.length:=(by simpa using aL);have x:=G.o b (by have:=aa.o;omega);rw [Zt,Zt];rw [Qo,Qi aO,Qo,Qi aN] at x;exact x
    clear G;go_wp2;go_ret;exact ⟨qaa B.o,z.o⟩
 ·have B:Hid (false=decide (e.map ks2=h.map ks2)):=(Qf (fun j=>aG (by rw [<- T,<- V];exact qat j))).symm
  have a6:((i:Int) == (y:Int))=false:=Qj.2 (by omega);have aW:¬((i:Int)=(y:Int)):=by omega
  clear aq ao T V
  go_enter func204,ntmps204
  go_wp2;go_ret;exact ⟨qaa B.o,Qc _ _⟩
def ixF (L:List Tr) (k:Nat):Int:=(L.take k).foldl (fun h a=>max h (qkY a.1 a.2.1 a.2.2)) 0
theorem quB (L:List Tr) (k:Nat) (h:k<L.length):ixF L (k+1)=max (ixF L k) (qkY L[k].1 L[k].2.1 L[k].2.2):=by
 unfold ixF;rw [Qx h,List.foldl_append];rfl
def ixC (L:List Tr):Int:=ixF L L.length
def qbG (L:List Tr):List Int:=if ixC L=5 then [3,5] else if ixC L=6 then [4,6] else [0,1,2]
def qCw (w:World) (l:List Int) (e:Ending) (w':World):Prop:=∃ a,e=.returned (.slice a l.length l.length)/\KsP w' a l/\Below w.heap.size w w'/\∀ h,a=some h->w.heap.size<=h.block
theorem qtC (w:World) (L:List Int) (cs:Array Value) (h:cs.toList=L.map fun n=>.int .i64 n) (t:TypeId):KsP (w.alloc (.cells cs t)) (some ⟨w.heap.size,0,none⟩) L:=by
 refine .inr ⟨_,0,rfl,fun y k=>?_⟩;rw [C9 (heap_alloc_new w _),QS,<- QV,h,Za,Qi k];rfl
theorem qsM (s:ByteArray) (A:Option Addr) (cap n:Nat) (L:List Tr) (ao:L.length=n) (aK:n<=1000) (w:World) (H:qaj w A L) :
  Calls prog 202 #[.agg #[.string s,.slice A n cap]] w (qCw w (qbG L)):=by
 have h:Below w.heap.size w (w.alloc (.cells #[.string s,.slice A n cap] 24)):=B0;obtain ⟨X,aq⟩:=N9 (w.alloc (.cells #[.string s,.slice A n cap] 24));have ad:X.heap[w.heap.size]?=some (.cells #[.string s,.slice A n cap] 24 (0,0)):=by rw [<- aq];exact World.alloc_heap_new w _
 rw [aq] at h;have aC:=J9 (H.below h);have aw:=J9 h;have ak:=J9 ao;have au:=C9 ad 0;have ay:=C9 ad 1;have am:Hid (ixF L 0=0):=rfl;clear H h ad ao
 go_enter func202,ntmps202
 go_wp2
 go_loopw [9,3] (fun V Z wr=>∃ a:Nat,a<=n/\V=.int .i64 a/\Z=.int .i64 (ixF L a)/\Hid (Below w.heap.size w wr)/\Hid (Below X.heap.size X wr)) (fun V _ _=>n - (intOf V).toNat)
 case atStart=>exact ⟨0,Qs _,rfl,by rw [am.o],aw.o,Qc _ _⟩
 case round=>
  clear au ay am;obtain ⟨a,aG,rfl,rfl,e,z⟩:=hrel;by_cases aJ:a<n
  ·have ac:a<L.length:=by have:=ak.o;omega
   obtain ⟨aD,aH,rfl,-,ai,aj,ah⟩:=(aC.o.below z.o).at_ ac;have i:=quB L a ac;obtain ⟨Z,ag⟩:=N9 (L[a]);rw [ag] at ai aj ah i;obtain ⟨M,O,G⟩:=Z;simp only at ai aj ah i;obtain ⟨ap,af⟩:=N9 (wr.alloc (.cells #[.int .i64 M,.int .i64 O,.int .i64 G] 57));have ab:Below wr.heap.size wr ap:=(by rw [<- af];exact B0);have U:=J9 (e.o.trans (ab.mono e.o.size));have aa:=J9 (z.o.trans (ab.mono z.o.size));have B:=World.alloc_heap_new wr (.cells #[.int .i64 M,.int .i64 O,.int .i64 G] 57);rw [af] at B;have aB:=C9 B 0;have az:=C9 B 1;have av:=C9 B 2;have ae:=qg0 M O G ap;obtain ⟨aI,ar⟩:=N9 (qkY M O G);rw [ar] at ae i;obtain ⟨u,E⟩:=N9 (ixF L a);rw [E] at i |-;have i:=J9 i;clear ag ac ab ar E e z B
   go_wp2_with fail
   refine ae.mono ?_;rintro aM aE ⟨rfl,h⟩;have aA:=J9 (U.o.trans (h.mono U.o.size));have ax:=J9 (aa.o.trans (h.mono aa.o.size));clear h ae U aa aB az av;go_wp2;go_roundw
   case rel=>exact ⟨a+1,by omega,by go_num,by rw [i.o],aA.o,ax.o⟩
   case measure=>simp [intOf];omega
  ·obtain rfl:a=n:=by omega
   have K:Hid (ixC L=ixF L a):=(by show ixC L=_;unfold ixC;rw [ak.o]);obtain ⟨u,E⟩:=N9 (ixF L a);rw [E] at K |-;clear E z;by_cases P:u=5
   ·subst P
    have y:Hid (qbG L=[3,5]):=(by show qbG L=_;unfold qbG;rw [K.o];rfl);have v:=J9 (qtC wr [3,5] #[.int .i64 3,.int .i64 5] rfl 3);have j:Hid (Below w.heap.size w (wr.alloc (.cells #[.int .i64 3,.int .i64 5] 3))):=e.o.alloc e.o.size _;go_wp2;go_ret;rw [y.o];exact ⟨_,rfl,v.o,j.o,fun an x=>by cases x;exact e.o.size⟩
   ·by_cases J:u=6
    ·subst J
     have y:Hid (qbG L=[4,6]):=(by show qbG L=_;unfold qbG;rw [K.o];rfl);have v:=J9 (qtC wr [4,6] #[.int .i64 4,.int .i64 6] rfl 3);have j:Hid (Below w.heap.size w (wr.alloc (.cells #[.int .i64 4,.int .i64 6] 3))):=e.o.alloc e.o.size _;go_wp2;go_ret;rw [y.o];exact ⟨_,rfl,v.o,j.o,fun an x=>by cases x;exact e.o.size⟩
    ·have y:Hid (qbG L=[0,1,2]):=by show qbG L=_;unfold qbG;rw [K.o,Qd P,Qd J]
     have v:=J9 (qtC wr [0,1,2] #[.int .i64 0,.int .i64 1,.int .i64 2] rfl 3);have j:Hid (Below w.heap.size w (wr.alloc (.cells #[.int .i64 0,.int .i64 1,.int .i64 2] 3))):=e.o.alloc e.o.size _;have aL:(u == 5)=false:=Qj.2 P;have aF:(u == 6)=false:=Qj.2 J;clear P J;go_wp2;go_ret;rw [y.o];exact ⟨_,rfl,v.o,j.o,fun an x=>by cases x;exact e.o.size⟩
end Go.Proofs.YtjafbmfcedijmaaGreatDoor
namespace Go.Proofs.YtjafbmfcedijmaaGreatDoor
open Tryz
open Go.RowKit Go.Maps
def qDR:List (List UInt8):=[[65,68,67],[65,68,68],[65,78,68],[66,73,84],[67,65,76,76],[67,67,70],[67,80],[67,80,68],[67,80,68,82],[67,80,73],[67,80,73,82],[67,80,76],[68,65,65],[68,69,67],[68,73],[68,74,78,90],[69,73],[69,88],[69,88,88],[72,65,76,84],[73,77],[73,78],[73,78,67],[73,78,68],[73,78,68,82],[73,78,73],[73,78,73,82],[74,80],[74,82],[76,68],[76,68,68],[76,68,68,82],[76,68,73],[76,68,73,82],[78,69,71],[78,79,80],[79,82],[79,84,68,82],[79,84,73,82],[79,85,84],[79,85,84,68],[79,85,84,73],[80,79,80],[80,85,83,72],[82,69,83],[82,69,84],[82,69,84,73],[82,69,84,78],[82,76],[82,76,65],[82,76,67],[82,76,67,65],[82,76,68],[82,82],[82,82,65],[82,82,67],[82,82,67,65],[82,82,68],[82,83,84],[83,66,67],[83,67,70],[83,69,84],[83,76,65],[83,76,76],[83,82,65],[83,82,76],[83,85,66],[88,79,82]]
def opsL:List ByteArray:=qDR.map fun h=>⟨h.toArray⟩
def opsOf:Option Code->List Oper
 | some (.seq _ (.seq (.region _ ops _) _))=>ops.toList
 | _=>[]
def qzw:Option Code->List Oper
 | some (.seq (.region _ ops _) _)=>ops.toList
 | _=>[]
def qrx (p:String) (k:ByteArray):Oper:=⟨none,.insert 271 (.tmp 1) (.const (.string k)) (.const (.bool true)),0,p,#[⟨0,.data⟩],none⟩
theorem qyo:∃ (p:String) (r y h z:Oper),f210.body=some (.seq (.region 0 #[r] false) (.seq (.region 1 (y :: (opsL.map (qrx p)++[h,z])).toArray false) .ret))/\(r.op=.assign (.const (.map none))/\r.dst=some 0/\r.guard=none)/\
  (y.op=.makeMap 271 none/\y.dst=some 1/\y.guard=none)/\(h.op=.move (.tmp 1)/\h.dst=some 2/\h.guard=none)/\(z.op=.assign (.tmp 2)/\z.dst=some 0/\z.guard=none):=
 ⟨((opsOf f210.body).getD 1 default).pos,(qzw f210.body).getD 0 default,(opsOf f210.body).getD 0 default,(opsOf f210.body).getD 69 default,(opsOf f210.body).getD 70 default,by kernel_rfl,
  ⟨by kernel_rfl,by kernel_rfl,by kernel_rfl⟩,⟨by kernel_rfl,by kernel_rfl,by kernel_rfl⟩,⟨by kernel_rfl,by kernel_rfl,by kernel_rfl⟩,⟨by kernel_rfl,by kernel_rfl,by kernel_rfl⟩⟩
theorem qDC:Keyed prog 9:=string_keyed underlying9
def klit (s:ByteArray):Lit:=.string s.data.toList
abbrev qlJ:DataW Unit:=.lit (.bool true)
theorem qee {p:String} {ops:Array Oper} {rest:List Oper} {a:Act} {Q:Exit->Act->World->Prop} (b:Nat) (J:a.eval (.tmp 1)=.map (some b)) :
  ∀ (e:List ByteArray) (D:DataW Unit) (n:Nat) (w:World),(∀ s∈e,s.size<=maxLen)->n+e.length<=1000->w.ownsMap prog 9 (plainElem prog 4) b n D->
   (∀ w',w'.ownsMap prog 9 (plainElem prog 4) b (n+e.length) ((e.map klit).foldl (fun m x=>m.put x qlJ) D)->w.grownBy w' (some b)->wpList prog ops Q rest a w')->
   wpList prog ops Q (e.map (qrx p)++rest) a w
 | [],D,n,w,_,_,E,y=>y w E (World.grownBy.refl _ _)
 | s :: e,D,n,w,G,ad,E,y=>by
  have O:s.size<=maxLen:=G s (QY ..);simp only [Qv] at ad;show wpList prog ops Q (qrx p s :: (e.map (qrx p)++rest)) a w;obtain ⟨w',aa,Z,ag⟩:=E.update qDC underlying271 (show n<maxLen by unfold maxLen;omega) (WideMaps.keyOf_string_mk underlying9 O) (plainElem_bool underlying4 true);have U:=qee (p:=p) (ops:=ops) (rest:=rest) (Q:=Q) b J e _ (n+1) w' (fun x z=>G x (QZ _ z)) (by omega) Z fun ae K ah=>y ae (by rw [show n+1+e.length=n+(s :: e).length by rw [Qv];omega] at K;exact K) (ag.trans ah)
  obtain ⟨h,o⟩:=N9 (qrx p s);have M:h.op=.insert 271 (.tmp 1) (.const (.string s)) (.const (.bool true)):=by rw [<- o];rfl
  have ai:h.dst=none:=by rw [<- o];rfl
  have V:h.guard=none:=by rw [<- o];rfl
  rw [o];have z:a.eval (.const (.string s))=.string s:=rfl;have af:a.eval (.const (.bool true))=.bool true:=rfl;refine wpList_plain V fun aj ab=>?_
  unfold Oper.wp;simp [execOp,M,J,z,af,aa,Result.andThen];have ac:a.put h.dst undef=a:=by rw [ai];rfl
  unfold Oper.upon;rw [ac];exact ab _ _ U
theorem qhy:opsL.length=68:=by decide +kernel
theorem qsF:∀ h∈opsL,h.size<=4:=by decide +kernel
def mnD:DataW Unit:=setOf qlJ (opsL.map klit)
attribute [local irreducible] opsL
theorem qAi (w:World) :
  Calls prog 210 #[] w fun af V=>af=.returned (.map (some w.heap.size))/\V.ownsMap prog 9 (plainElem prog 4) w.heap.size 68 mnD/\Below w.heap.size w V:=by
 obtain ⟨aq,⟨ar,ax,aH,aI,aF,aL⟩,⟨az,aE,av,an,ap,ao⟩,⟨ak,aG,ai,aJ,ay,aj⟩,⟨aw,aB,aD,aA,aC,aK⟩,K,⟨E,s,Z⟩,⟨G,U,J⟩,⟨M,h,O⟩,⟨p,k,y⟩⟩:=qyo;simp only at G U J M h O p k y E s Z;subst G U J M h O p k y E s Z;have au:=@run_makeMap prog;have B0:=J9 ((Qc w.heap.size w).alloc (Qa _) (.map #[] 0));have ab:=J9 (World.ownsMap_made (H:=Unit) w prog 9 (plainElem prog 4));refine calls_of_wp func210 K ?_;clear K;simp only [ntmps210,Zx,Qv,QH,Nat.reduceAdd,Nat.reduceSub,Array.replicate_succ,Array.replicate_zero,List.push_toArray,List.append_toArray,Zk,List.cons_append];go_wp2;refine qee w.heap.size rfl opsL (.map []) 0 _ (fun ac ad=>Qm (qsF ac ad) (by unfold maxLen;omega)) (by rw [qhy];omega) ab.o ?_;intro ag e z;have aa:Hid (ag.ownsMap prog 9 (plainElem prog 4) w.heap.size 68 mnD):=by rw [qhy] at e;exact e
 have ae:=J9 (B0.o.grown z (by simp) fun am ah=>by cases ah;exact Qa _);clear e z;go_wp2;go_ret;exact ⟨rfl,aa.o,ae.o⟩
end Go.Proofs.YtjafbmfcedijmaaGreatDoor
namespace Go.Proofs.YtjafbmfcedijmaaGreatDoor
open Tryz
open Go.RowKit Go.Maps
def knB (s:ByteArray):Bool:=opsL.any fun h=>h.toList == s.toList
theorem qcm {H:Type} {P:Program} {e:TypeId} (z:P.underlying e=some .bool) {v:Value} {y:DataW H×List MemPlace} (h:plainElem P e v=some y):∃ x,v=.bool x/\y=(.lit (.bool x),[]):=by
 unfold plainElem at h;rw [z] at h;cases v <;> simp at h;rename_i x;exact ⟨x,rfl,h.symm⟩
theorem quc (s:ByteArray):WideAt.IsKeyLit (klit s):=by first | trivial | exact ⟨_,rfl⟩ | simp [klit,WideAt.IsKeyLit]
theorem qlu (a b:ByteArray):(klit a).sameKey (klit b)=(a.toList == b.toList):=by rw [Qe,Qe];rfl
theorem qtr (h:DataW Unit) (s:ByteArray):∀ (l:List ByteArray) (m:DataW Unit),IsMap m->((l.map klit).foldl (fun m x=>m.put x qlJ) m).atKey (klit s) h=if (l.any fun x=>x.toList == s.toList) then qlJ else m.atKey (klit s) h
 | [],m,_=>rfl
 | x :: l,m,z=>by
  have G:=qtr h s l (m.put (klit x) qlJ) (z.put _ _);show ((l.map klit).foldl (fun m x=>m.put x qlJ) (m.put (klit x) qlJ)).atKey (klit s) h=_;rw [G,List.any_cons];by_cases e:klit s=klit x
  ·have y:(x.toList == s.toList)=true:=by rw [<- qlu,e];show (x.data.toList == x.data.toList)=true;exact beq_self_eq_true _
   rw [e,atKey_put_same z (quc x)];simp [y]
  ·have y:(x.toList == s.toList)=false:=by rw [<- qlu];exact sameKey_ne fun E=>e E.symm
   rw [atKey_put_other e];simp [y]
theorem qtN (h:DataW Unit) (s:ByteArray) (l:List ByteArray):(setOf qlJ (l.map klit)).atKey (klit s) h=if (l.any fun x=>x.toList == s.toList) then qlJ else h:=qtr h s l (.map []) isMap_empty
theorem qBw (s:ByteArray):mnD.atKey (klit s) (.lit (.bool false))=.lit (.bool (knB s)):=by
 unfold mnD;rw [qtN];unfold knB;split <;> simp_all
theorem qlB (w:World):(zeroValue 4).run prog w=.ok (.bool false) w:=by kernel_rfl
def Mn (w:World) (b:Nat):Prop:=w.ownsMap prog 9 (plainElem prog 4) b 68 mnD
theorem Mn.below {w w':World} {b:Nat} (y:Mn w b) (k:Below w.heap.size w w'):Mn w' b:=World.ownsMap.kept y (row:=none) ⟨k.os,k.tape,k.output,k.size,fun i h _=>k.block i h⟩ (by simp)
theorem qy1 {w:World} {b:Nat} (G:Mn w b) (s:ByteArray) (v:s.size<=maxLen):(Instr.lookup 271 (.map (some b)) (.string s) false).run prog w=.ok (.bool (knB s)) w:=by
 obtain ⟨J,K,x,z⟩:=World.ownsMap.lookup G qDC underlying271 (qlB w) (plainElem_bool underlying4 false) (WideMaps.keyOf_string_mk underlying9 v);obtain ⟨h,rfl,y⟩:=qcm underlying4 z;have e:mnD.atKey (klit s) (.lit (.bool false))=.lit (.bool h):=(Zq .. ▸ y).1;rw [qBw] at e;have E:knB s=h:=by simpa using e
 rw [E];exact x
theorem qjh (w:World):Calls prog 210 #[] w fun h e=>∃ b,h=.returned (.map (some b))/\Mn e b/\Below w.heap.size w e:=(qAi w).mono fun h e y=>⟨_,y⟩
theorem quI (w:World):Calls prog 153 #[] w (ql1 w opsL):=by
 go_enter func153,ntmps153
 go_wp2;go_ret;exact ⟨_,68,rfl,qaJ w opsL 9,B0⟩
theorem qAx (s:ByteArray) (j:Nat) (h:j<opsL.length) (e:(opsL[j].toList == s.toList)=true):true=knB s:=
 (Zr.2 ⟨_,QB h,e⟩).symm
theorem qCs (s:ByteArray) (y:∀ k,k<68->∀ (a:k<opsL.length),(opsL[k].toList == s.toList)=false):false=knB s:=by
 refine (List.any_eq_false.2 fun z x=>?_).symm;obtain ⟨k,h,rfl⟩:=Zg x;rw [y k (by rw [qhy] at h;exact h) h];exact Bool.false_ne_true
theorem qo7 (s:ByteArray) (w:World) :
  Calls prog 110 #[.string s] w fun q V=>q=.returned (.bool (knB s))/\Below w.heap.size w V:=by
 go_enter func110,ntmps110
 go_wp2_with fail
 refine (quI _).mono ?_;rintro q T ⟨ac,Z,rfl,J,A⟩;have U:=J9 J;have E:=J9 A;clear J A;rw [qhy];go_wp2
 go_loopw [4] (fun x wr=>∃ a:Nat,a<=68/\x=.int .i64 a/\Hid (∀ e,e<a->∀ (z:e<opsL.length),(opsL[e].toList == s.toList)=false)/\wr=T) (fun x _=>68 - (intOf x).toNat)
 case atStart=>exact ⟨0,Qs _,rfl,fun e ae=>by omega,rfl⟩
 case round=>
  obtain ⟨a,aa,rfl,h,rfl⟩:=hrel;by_cases G:a<68
  ·have k:a<opsL.length:=by rw [qhy];exact G
   obtain ⟨X,ab,M,K⟩:=U.o.at_ k;subst M;cases j:(opsL[a].toList == s.toList)
   ·have R2:Hid (∀ e,e<a+1->∀ (z:e<opsL.length),(opsL[e].toList == s.toList)=false):=fun e ad z=>by
     by_cases q:e=a
     ·subst q;exact j
     ·exact h.o e (by omega) z
    obtain ⟨O,i⟩:=N9 (opsL[a]);rw [i] at K j;clear i h k;go_wp2;go_roundw
    case rel=>exact ⟨a+1,by omega,by go_num,R2.o,trivial⟩
    case measure=>simp [intOf];omega
   ·have y:Hid (true=knB s):=qAx s a k j
    obtain ⟨O,i⟩:=N9 (opsL[a]);rw [i] at K j;clear i h k;go_wp2;go_ret;exact ⟨qaa y.o,E.o⟩
  ·have R:a=68:=by omega
   subst R;have y:Hid (false=knB s):=qCs s h.o;clear h G;go_wp2;go_ret;exact ⟨qaa y.o,E.o⟩
end Go.Proofs.YtjafbmfcedijmaaGreatDoor
namespace Go.Proofs.YtjafbmfcedijmaaGreatDoor
open Tryz
open Go.RowKit
def vT (t:Tr):Bool:=qaT t.1 t.2.1 t.2.2
def qa6 (s:ByteArray) (L:List Tr):Int:=if knB s=false then 12 else if 3<L.length then 11 else if L.all vT then 0 else 2
theorem qrR (s:ByteArray) (L:List Tr) (h:knB s=false):(12:Int)=qa6 s L:=by unfold qa6;rw [Qk h]
theorem qtf (s:ByteArray) (L:List Tr) (h:knB s=true) (y:3<L.length):(11:Int)=qa6 s L:=by unfold qa6;rw [Qd (by simp [h]),Qk y]
theorem qqS (s:ByteArray) (L:List Tr) (E:knB s=true) (x:¬3<L.length) (z:∀ k,k<L.length->∀ (a:k<L.length),vT L[k]=true):(0:Int)=qa6 s L:=by
 unfold qa6;rw [Qd (by simp [E]),Qd x,Qk];refine QR.2 fun G y=>?_
 obtain ⟨k,h,rfl⟩:=Zg y;exact z k h h
theorem qxb (s:ByteArray) (L:List Tr) (E:knB s=true) (h:¬3<L.length) (k:Nat) (z:k<L.length) (y:vT L[k]=false):(2:Int)=qa6 s L:=by
 unfold qa6;rw [Qd (by simp [E]),Qd h,Qd];intro G;have:=QR.1 G _ (QB z);rw [y] at this;cases this
attribute [local irreducible] Go.Mixed.qD8
theorem qsE (s:ByteArray) (A:Option Addr) (cap:Nat) (L:List Tr) (az:s.size<=maxLen) (ak:L.length<=maxLen) (w:World) (H:qaj w A L) :
  Calls prog 152 #[.agg #[.string s,.slice A L.length cap]] w fun y aa=>y=.returned (.int .i64 (qa6 s L))/\Below w.heap.size w aa:=by
 unfold maxLen at ak;have aI:=J9 H;have aA:=J9 (qrR s L);have aG:=J9 (qtf s L);have aD:=J9 (qqS s L);have aH:=J9 (qxb s L);obtain ⟨h,Z⟩:=N9 (L.length);have E:=J9 Z;obtain ⟨aE,ai⟩:=N9 (knB s);have i:=J9 ai;rw [Z] at ak |-;have U:=J9 (Bx.new w s A h cap 24);have B0:Hid (Below w.heap.size w (w.alloc (.cells #[.string s,.slice A h cap] 24))):=B0;clear H Z ai
 go_enter func152,ntmps152
 go_wp2;refine Mixed.qD5 (fun aa=>Bx aa w.heap.size s A h cap) 3 [(1,true),(2,true),(0,false)] (by kernel_rfl) (by kernel_rfl) U.o ?_;refine Mixed.mo rfl (.pointer (some ⟨w.heap.size,0,none⟩)) (fun w J=>by obtain ⟨k,aC⟩:=J;go_simp;try rfl) ?_;refine Mixed.mo rfl (.string s) (fun w J=>by obtain ⟨k,aC⟩:=J;go_simp;try rfl) ?_;refine Mixed.qD6 rfl (by kernel_rfl) ?_
 go_wp2_with fail
 refine (qjh _).mono ?_;rintro y au ⟨aN,rfl,aw,k⟩;have af:Hid (Bx au w.heap.size s A h cap):=U.o.all (((below_drewN _ _ 1)).trans k);have R:Hid (Below w.heap.size w au):=(B0.o.trans (below_drewN _ _ 1)).trans (k.mono (by simp));have aF:=qy1 aw s az;rw [i.o] at aF;have G:=af.o;clear aw k U B0;go_wp2;refine ⟨G,?_⟩;simp only [Mixed.qD8,Qq,Qy];clear G;cases aE with
 | false=>
  have q:=J9 (aA.o i.o);go_wp2;go_ret;exact ⟨qan q.o,R.o⟩
 | true=>
  have G:=af.o;obtain ⟨aQ,aR⟩:=G;by_cases O:3<h
  ·have q:=J9 (aG.o i.o (by rw [E.o];exact O))
   have ah:(3:Int)<(h:Int):=(by omega);go_wp2;go_ret;exact ⟨qan q.o,R.o⟩
  ·have ad:Hid (¬3<L.length):=by rw [E.o];exact O
   have ah:¬(3:Int)<(h:Int):=(by omega);go_wp2;clear ah O
   go_loopw [17] (fun M wr=>∃ a:Nat,a<=h/\M=.int .i64 a/\Hid (∀ e,e<a->∀ (z:e<L.length),vT L[e]=true)/\Hid (Below w.heap.size w wr)) (fun M _=>h - (intOf M).toNat)
   case atStart=>exact ⟨0,Qs _,rfl,fun e J=>by omega,R.o⟩
   case round=>
    obtain ⟨a,aM,rfl,B,n⟩:=hrel;by_cases aP:a<h
    ·have X:a<L.length:=by have:=E.o;omega
     obtain ⟨aK,aO,aB,-,an,ap,aj⟩:=(aI.o.below n.o).at_ X;subst aB;have j:Hid (vT L[a]=qaT L[a].1 L[a].2.1 L[a].2.2):=rfl;have R2:Hid (vT L[a]=true->∀ e,e<a+1->∀ (z:e<L.length),vT L[e]=true):=fun V e aJ z=>by
      by_cases y:e=a
      ·subst y;exact V
      ·exact B.o e (by omega) z
     have ag:Hid (vT L[a]=false->2=qa6 s L):=(fun V=>aH.o i.o ad.o a X V);obtain ⟨ay,ab⟩:=N9 (vT L[a]);rw [ab] at j R2 ag;obtain ⟨⟨ac,ao,ae⟩,av⟩:=N9 (L[a]);rw [av] at an ap aj j;simp only at an ap aj j;have ar:=J9 (qgR ac ao ae);rw [<- j.o] at ar;have ax:Below wr.heap.size wr (wr.alloc (.cells #[.int .i64 ac,.int .i64 ao,.int .i64 ae] 57)):=B0;have K:=J9 (n.o.trans (ax.mono n.o.size));clear av ab X B j ax n
     go_wp2_with fail
     refine (ar.o _).mono ?_;rintro y aS ⟨rfl,aq⟩;have am:=J9 (K.o.trans (aq.mono K.o.size));clear aq K;cases ay with
     | true=>
      go_wp2;go_roundw
      case rel=>exact ⟨a+1,by omega,by go_num,R2.o trivial,am.o⟩
      case measure=>simp [intOf];omega
     | false=>
      go_wp2;go_ret;exact ⟨qan (ag.o trivial),am.o⟩
    ·have aL:a=h:=by omega
     have q:Hid (0=qa6 s L):=aD.o i.o ad.o fun e aJ z=>B.o e (by have:=E.o;omega) z
     clear B;go_wp2;go_ret;exact ⟨qan q.o,n.o⟩
theorem qpB (s:ByteArray) (A:Option Addr) (cap:Nat) (L:List Tr) (ai:L.length<=maxLen) (w:World) (H:qaj w A L) :
  Calls prog 69 #[.agg #[.string s,.slice A L.length cap]] w fun n aG=>n=.returned (.int .i64 (qa6 s L))/\Below w.heap.size w aG:=by
 unfold maxLen at ai;have aD:=J9 H;have av:=J9 (qrR s L);have aA:=J9 (qtf s L);have ax:=J9 (qqS s L);have aB:=J9 (qxb s L);have U:=J9 (qo7 s);obtain ⟨h,aa⟩:=N9 (L.length);have B:=J9 aa;obtain ⟨ay,R⟩:=N9 (knB s);have z:=J9 R;rw [R] at U;rw [aa] at ai |-;have ad:=J9 (Bx.new w s A h cap 24);have B0:Hid (Below w.heap.size w (w.alloc (.cells #[.string s,.slice A h cap] 24))):=B0;clear H aa R
 go_enter func69,ntmps69
 go_wp2_with fail
 refine (U.o _).mono ?_;rintro n aC ⟨rfl,G⟩;have ae:Hid (Bx aC w.heap.size s A h cap):=ad.o.all G;have M:=J9 (B0.o.trans (G.mono (by simp)));clear G ad B0 U;cases ay with
 | false=>
  have k:=J9 (av.o z.o);go_wp2;go_ret;exact ⟨qan k.o,M.o⟩
 | true=>
  have aE:=ae.o;obtain ⟨T,X⟩:=aE;by_cases K:3<h
  ·have k:=J9 (aA.o z.o (by rw [B.o];exact K))
   have ag:(3:Int)<(h:Int):=(by omega);go_wp2;go_ret;exact ⟨qan k.o,M.o⟩
  ·have ac:Hid (¬3<L.length):=by rw [B.o];exact K
   have ag:¬(3:Int)<(h:Int):=(by omega);go_wp2;clear ag K T X
   go_loopw [3] (fun E wr=>∃ a:Nat,a<=h/\E=.int .i64 a/\Hid (∀ e,e<a->∀ (q:e<L.length),vT L[e]=true)/\Hid (Bx wr w.heap.size s A h cap)/\Hid (Below w.heap.size w wr)) (fun E _=>h - (intOf E).toNat)
   case atStart=>exact ⟨0,Qs _,rfl,fun e aN=>by omega,ae.o,M.o⟩
   case round=>
    obtain ⟨a,aJ,rfl,y,J,j⟩:=hrel;obtain ⟨T,X⟩:=J.o;by_cases aL:a<h
    ·have V:a<L.length:=by have:=B.o;omega
     obtain ⟨aH,aK,aw,-,ak,am,ah⟩:=(aD.o.below j.o).at_ V;subst aw;have i:Hid (vT L[a]=qaT L[a].1 L[a].2.1 L[a].2.2):=rfl;have R2:Hid (vT L[a]=true->∀ e,e<a+1->∀ (q:e<L.length),vT L[e]=true):=fun O e aF q=>by
      by_cases n:e=a
      ·subst n;exact O
      ·exact y.o e (by omega) q
     have af:Hid (vT L[a]=false->2=qa6 s L):=(fun O=>aB.o z.o ac.o a V O);obtain ⟨aq,ab⟩:=N9 (vT L[a]);rw [ab] at i R2 af;obtain ⟨⟨ar,az,au⟩,ao⟩:=N9 (L[a]);rw [ao] at ak am ah i;simp only at ak am ah i;have an:=J9 (qaE ar az au);rw [<- i.o] at an;clear ao ab V y i
     go_wp2_with fail
     refine (an.o _).mono ?_;rintro n aM ⟨rfl,Z⟩;have aj:=J9 (j.o.trans (Z.mono j.o.size));have ap:=J9 (J.o.all Z);clear Z j T X J;cases aq with
     | true=>
      go_wp2;go_roundw
      case rel=>exact ⟨a+1,by omega,by go_num,R2.o trivial,ap.o,aj.o⟩
      case measure=>simp [intOf];omega
     | false=>
      go_wp2;go_ret;exact ⟨qan (af.o trivial),aj.o⟩
    ·have aI:a=h:=by omega
     have k:Hid (0=qa6 s L):=ax.o z.o ac.o fun e aF q=>y.o e (by have:=B.o;omega) q
     clear y;go_wp2;go_ret;exact ⟨qan k.o,j.o⟩
theorem qsj (s:ByteArray) (A:Option Addr) (cap:Nat) (L:List Tr) (h:s.size<=maxLen) (z:L.length<=1000) (w:World) (H:qaj w A L) :
  Calls prog 152 #[.agg #[.string s,.slice A L.length cap]] w fun e y=>e=.returned (.int .i64 (qa6 s L))/\Below w.heap.size w y:=qsE s A cap L h (by unfold maxLen;omega) w H
theorem qoN (s:ByteArray) (A:Option Addr) (cap:Nat) (L:List Tr) (y:L.length<=1000) (w:World) (H:qaj w A L) :
  Calls prog 69 #[.agg #[.string s,.slice A L.length cap]] w fun e h=>e=.returned (.int .i64 (qa6 s L))/\Below w.heap.size w h:=qpB s A cap L (by unfold maxLen;omega) w H
end Go.Proofs.YtjafbmfcedijmaaGreatDoor
namespace Go.Ev
open Go Go.RowKit
inductive AC where
 | bool (b:Bool)
 | int (k:IntKind) (n:Int)
 | str (s:List UInt8)
 | nilp
 | ptr (b o:Nat)
 | nils
 | sl (b o l:Nat) (c:Option Nat)
abbrev Ren:=Nat->Option (Nat×Nat)
def AC.rel (n:Ren):AC->Value->Prop
 | .bool h,b=>b=.bool h
 | .int k y,b=>b=.int k y
 | .str v,b=>b=.string ⟨v.toArray⟩
 | .nilp,b=>b=.pointer none
 | .ptr h o,b=>∃ k l,n h=some (k,l)/\b=.pointer (some ⟨k,o,none⟩)
 | .nils,b=>b=.slice none 0 0
 | .sl h o s c,b=>∃ k l,n h=some (k,l)/\b=.slice (some ⟨k,o,none⟩) s (c.getD l)
def qry:IntKind->Nat
 | .i8=>0 | .i16=>1 | .i32=>2 | .i64=>3 | .u8=>4 | .u16=>5 | .u32=>6 | .u64=>7
def intB:Int->Int->Bool
 | .ofNat a,.ofNat b=>Nat.beq a b
 | .negSucc a,.negSucc b=>Nat.beq a b
 | _,_=>false
def strB:List UInt8->List UInt8->Bool
 | [],[]=>true
 | a :: b,h :: s=>Nat.beq a.toNat h.toNat&&strB b s
 | _,_=>false
def AC.eqb:AC->AC->Bool
 | .bool a,.bool b=>match a,b with | true,true=>true | false,false=>true | _,_=>false
 | .int k a,.int l b=>Nat.beq (qry k) (qry l)&&intB a b
 | .str t,.str E=>strB t E
 | .nilp,.nilp=>true
 | .ptr a b,.ptr c y=>Nat.beq a c&&Nat.beq b y
 | .nils,.nils=>true
 | .sl a b l (some c),.sl h d s (some z)=>Nat.beq a h&&Nat.beq b d&&Nat.beq l s&&Nat.beq c z
 | .sl a b l none,.sl h d s none=>Nat.beq a h&&Nat.beq b d&&Nat.beq l s
 | _,_=>false
theorem qr2 {k l:IntKind} (h:qry k=qry l):k=l:=by cases k <;> cases l <;> simp_all [qry]
theorem qEz {a b:Int} (h:intB a b=true):a=b:=by
 cases a <;> cases b <;> simp only [intB] at h
 ·rw [QG h]
 ·cases h
 ·cases h
 ·rw [QG h]
theorem qEp:∀ {a b:List UInt8},strB a b=true->a=b
 | [],[],_=>rfl
 | [],_ :: _,h=>by cases h
 | _ :: _,[],h=>by cases h
 | a :: s,b :: t,h=>by
  simp only [strB,Qh] at h;rw [qEp h.2,UInt8.toNat_inj.1 (QG h.1)]
theorem AC.qEQ {x G:AC} (h:x.eqb G=true):x=G:=by
 unfold AC.eqb at h;split at h
 ·split at h <;> first | rfl | cases h
 ·simp only [Qh] at h
  rw [qr2 (QG h.1),qEz h.2]
 ·rw [qEp h]
 ·rfl
 ·simp only [Qh] at h
  rw [QG h.1,QG h.2]
 ·rfl
 ·simp only [Qh] at h
  obtain ⟨⟨⟨E,z⟩,y⟩,J⟩:=h;rw [QG E,QG z,QG y,QG J]
 ·simp only [Qh] at h
  obtain ⟨⟨E,z⟩,y⟩:=h;rw [QG E,QG z,QG y]
 ·cases h
def cellsB:List AC->List AC->Bool
 | [],[]=>true
 | a :: b,h :: s=>a.eqb h&&cellsB b s
 | _,_=>false
theorem qEE:∀ {a b:List AC},cellsB a b=true->a=b
 | [],[],_=>rfl
 | [],_ :: _,h=>by cases h
 | _ :: _,[],h=>by cases h
 | a :: s,b :: t,h=>by
  simp only [cellsB,Qh] at h;rw [AC.qEQ h.1,qEE h.2]
def R2 (t:Ren):List AC->List Value->Prop
 | [],h=>h=[]
 | x :: y,h=>∃ v u,h=v :: u/\x.rel t v/\R2 t y u
structure A1 where
 g:Bool
 l:List AC
def A1.rel (y:Ren) (x:A1) (v:Value):Prop:=
 match x.g with
 | true=>∃ h,v=.agg h/\R2 y x.l h.toList
 | false=>∃ c,x.l=[c]/\c.rel y v
def A1.eqb (x h:A1):Bool:=(match x.g,h.g with | true,true=>true | false,false=>true | _,_=>false)&&cellsB x.l h.l
theorem A1.qEQ {x g:A1} (h:x.eqb g=true):x=g:=by
 obtain ⟨l,G⟩:=x;obtain ⟨y,J⟩:=g;simp only [A1.eqb,Qh] at h;obtain ⟨E,z⟩:=h;rw [qEE z];cases l <;> cases y <;> first | rfl | cases E
def qn9:List A1->List A1->Bool
 | [],[]=>true
 | a :: b,h :: s=>a.eqb h&&qn9 b s
 | _,_=>false
theorem qkJ:∀ {a b:List A1},qn9 a b=true->a=b
 | [],[],_=>rfl
 | [],_ :: _,h=>by cases h
 | _ :: _,[],h=>by cases h
 | a :: s,b :: t,h=>by
  simp only [qn9,Qh] at h;rw [A1.qEQ h.1,qkJ h.2]
inductive AV where
 | one (x:A1)
 | tup (l:List A1)
def R1 (t:Ren):List A1->List Value->Prop
 | [],h=>h=[]
 | x :: y,h=>∃ v u,h=v :: u/\x.rel t v/\R1 t y u
def AV.rel (l:Ren):AV->Value->Prop
 | .one y,h=>y.rel l h
 | .tup x,h=>∃ v,h=.tuple v/\R1 l x v.toList
def AV.eqb:AV->AV->Bool
 | .one h,.one x=>h.eqb x
 | .tup h,.tup x=>qn9 h x
 | _,_=>false
theorem AV.qEQ {x y:AV} (h:x.eqb y=true):x=y:=by
 cases x <;> cases y <;> simp only [AV.eqb] at h
 ·rw [A1.qEQ h]
 ·cases h
 ·cases h
 ·rw [qkJ h]
def Ext (k y:Ren):Prop:=∀ b h,k b=some h->y b=some h
theorem Ext.refl (h:Ren):Ext h h:=fun _ _ y=>y
theorem Ext.trans {a b c:Ren} (y:Ext a b) (k:Ext b c):Ext a c:=fun e h x=>k e h (y e h x)
theorem AC.rel.ext {y z:Ren} (e:Ext y z):∀ {x:AC} {v:Value},x.rel y v->x.rel z v
 | .bool _,_,b=>b
 | .int _ _,_,b=>b
 | .str _,_,b=>b
 | .nilp,_,b=>b
 | .ptr c E,_,⟨h,k,o,l⟩=>⟨h,k,e c _ o,l⟩
 | .nils,_,b=>b
 | .sl c E G J,_,⟨h,k,o,l⟩=>⟨h,k,e c _ o,l⟩
theorem R2.ext {h t:Ren} (e:Ext h t):∀ {l:List AC} {u:List Value},R2 h l u->R2 t l u
 | [],_,z=>z
 | x :: K,_,⟨J,y,G,E,v⟩=>⟨J,y,G,E.ext e,R2.ext e v⟩
theorem A1.rel.ext {h l:Ren} (e:Ext h l) {x:A1} {v:Value} (y:x.rel h v):x.rel l v:=by
 obtain ⟨z,J⟩:=x;cases z
 ·obtain ⟨E,g,c⟩:=y
  exact ⟨E,g,c.ext e⟩
 ·obtain ⟨G,g,c⟩:=y
  exact ⟨G,g,c.ext e⟩
theorem R1.ext {h t:Ren} (e:Ext h t):∀ {l:List A1} {u:List Value},R1 h l u->R1 t l u
 | [],_,z=>z
 | x :: K,_,⟨J,y,G,E,v⟩=>⟨J,y,G,E.ext e,R1.ext e v⟩
theorem AV.rel.ext {h y:Ren} (e:Ext h y) {x:AV} {v:Value} (z:x.rel h v):x.rel y v:=by
 cases x
 ·exact A1.rel.ext e z
 ·obtain ⟨E,J,G⟩:=z
  exact ⟨E,J,G.ext e⟩
theorem AC.rel.one {y:Ren} {x:AC} {v:Value} (h:x.rel y v):v.oneCell'=true/\v.cells=#[v]/\(∀ cs,v≠.agg cs):=by
 cases x <;> simp only [AC.rel] at h
 case ptr=>obtain ⟨k,z,-,rfl⟩:=h;exact ⟨rfl,rfl,fun cs e=>by cases e⟩
 case sl=>obtain ⟨k,z,-,rfl⟩:=h;exact ⟨rfl,rfl,fun cs e=>by cases e⟩
 all_goals subst h;exact ⟨rfl,rfl,fun cs e=>by cases e⟩
theorem R2.length {u:Ren}:∀ {l:List AC} {h:List Value},R2 u l h->h.length=l.length
 | [],_,v=>by rw [show _=_ from v];rfl
 | x :: z,_,⟨J,E,y,G,t⟩=>by rw [y,Qv,R2.length t,Qv]
theorem R2.at_ {v:Ren}:∀ {l:List AC} {z:List Value},R2 v l z->∀ {i:Nat} {x:AC},l[i]?=some x->∃ h,z[i]?=some h/\x.rel v h
 | [],_,_,i,x,e=>by simp at e
 | y :: G,_,⟨h,J,t,E,u⟩,0,x,e=>by simp at e;subst e;subst t;exact ⟨h,rfl,E⟩
 | y :: G,_,⟨h,J,t,E,u⟩,i+1,x,e=>by subst t;simpa using R2.at_ u (by simpa using e)
theorem R2.ones {E:Ren}:∀ {l:List AC} {v:List Value},R2 E l v->∀ t∈v,t.oneCell'=true
 | [],_,G,t,u=>by rw [show _=_ from G] at u;cases u
 | x :: M,_,⟨t,O,K,J,y⟩,z,h=>by
  subst K;rcases QI.1 h with rfl | h
  ·exact J.one.1
  ·exact R2.ones y z h
theorem A1.rel.cells {g:Ren} {x:A1} {v:Value} (h:x.rel g v):R2 g x.l v.cells.toList:=by
 obtain ⟨y,z⟩:=x;cases y
 ·obtain ⟨E,l,c⟩:=h
  simp only at l;subst l;rw [c.one.2.1];exact ⟨v,[],rfl,c,rfl⟩
 ·obtain ⟨G,rfl,c⟩:=h
  exact c
theorem R2.qEY {r:Ren}:∀ {l:List AC} {h:List Value},h.length=l.length->(∀ (i:Nat) (x:AC),l[i]?=some x->∃ v,h[i]?=some v/\x.rel r v)->R2 r l h
 | [],[],_,_=>rfl
 | [],_ :: _,e,_=>by simp at e
 | x :: G,[],e,_=>by simp at e
 | x :: G,v :: E,e,t=>by
  obtain ⟨J,k,z⟩:=t 0 x rfl;simp at k;subst k;exact ⟨v,E,rfl,z,R2.qEY (by simpa using e) fun i u y=>by simpa using t (i+1) u (by simpa using y)⟩
theorem R2.append {h:Ren}:∀ {l m:List AC} {t us:List Value},R2 h l t->R2 h m us->R2 h (l++m) (t++us)
 | [],_,_,_,v,k=>by rw [show _=_ from v];exact k
 | x :: G,_,_,_,⟨E,J,z,y,u⟩,k=>⟨E,_,by rw [z];rfl,y,R2.append u k⟩
def look {n:Type}:List (Nat×n)->Nat->Option n
 | [],_=>none
 | (k,x) :: t,h=>match Nat.beq k h with | true=>some x | false=>look t h
theorem qba {h:Type} (k:Nat) (x:h) (t:List (Nat×h)) (n:Nat):look ((k,x) :: t) n=if k=n then some x else look t n:=by
 show (match Nat.beq k n with | true=>some x | false=>look t n)=_;by_cases e:k=n
 ·subst e
  rw [Qk rfl];have:Nat.beq k k=true:=Nat.beq_refl k;rw [this]
 ·rw [Qd e]
  have:Nat.beq k n=false:=by
   cases y:Nat.beq k n
   ·rfl
   ·exact absurd (QG y) e
  rw [this]
structure AO where
 t:TypeId
 c:List AC
 s:Option Nat
abbrev Hp:=List (Nat×AO)
def qCh (s:Option Nat) (n l h:Nat):Prop:=match s with
 | none=>n=l
 | some y=>n=h*y/\h<=maxLen
def AO.rel (y:Ren) (o:AO) (w:World) (k z:Nat):Prop:=∃ h,w.heap[k]?=some (.cells h o.t (0,0))/\(∀ (v:Nat) (i:AC),o.c[v]?=some i->∃ x,h[v]?=some x/\i.rel y x)/\qCh o.s h.size o.c.length z
structure HR (w0:World) (ρ:Ren) (σ:Hp) (w:World):Prop where
 below:Below w0.heap.size w0 w
 dom:∀ b kc,ρ b=some kc->∃ o,look σ b=some o
 obj:∀ b o,look σ b=some o->∃ k cp,ρ b=some (k,cp)/\w0.heap.size<=k/\o.rel ρ w k cp
 inj:∀ b b' k c c',ρ b=some (k,c)->ρ b'=some (k,c')->b=b'
theorem HR.start (w:World):HR w (fun _=>none) [] w:=⟨Qc _ _,fun _ _ h=>by (cases h),fun _ _ h=>by (cases h),fun _ _ _ _ _ h=>by (cases h)⟩
theorem AO.rel.ext {h i:Ren} (e:Ext h i) {o:AO} {w w':World} {k v:Nat} (Z:o.rel h w k v) (x:w'.heap[k]?=w.heap[k]?):o.rel i w' k v:=by
 obtain ⟨y,G,O,K⟩:=Z;exact ⟨y,x.trans G,fun z U E=>by obtain ⟨J,M,V⟩:=O z U E;exact ⟨J,M,V.ext e⟩,K⟩
def Ren.add (x:Ren) (b:Nat) (k:Nat×Nat):Ren:=fun h=>if h=b then some k else x h
theorem HR.fresh {w0 w:World} {e:Ren} {h:Hp} (z:HR w0 e h w) {b:Nat} (E:look h b=none):e b=none:=by
 cases o:e b with
 | none=>rfl
 | some y=>obtain ⟨G,k⟩:=z.dom b y o;rw [E] at k;cases k
theorem HR.qE6 {w0 w:World} {h:Ren} {x:Hp} (z:HR w0 h x w) {b:Nat} {k:Nat×Nat} (E:look x b=none):Ext h (h.add b k):=fun G J e=>by
 unfold Ren.add;split
 ·rename_i y;subst y;rw [z.fresh E] at e;cases e
 ·exact e
theorem HR.lt {w0 w:World} {o:Ren} {E:Hp} (y:HR w0 o E w) {b k K:Nat} (e:o b=some (k,K)):k<w.heap.size:=by
 obtain ⟨z,J⟩:=y.dom b _ e;obtain ⟨U,M,h,-,O,G,-⟩:=y.obj b z J;rw [e] at h;cases h;exact (Qb.1 G).1
theorem HR.alloc {w0 w:World} {E:Ren} {K:Hp} (h:HR w0 E K w) {b:Nat} (af:look K b=none) (o:AO) (y:Nat) {cs:Array Value} (Z:∀ (i:Nat) (x:AC),o.c[i]?=some x->∃ v,cs[i]?=some v/\x.rel E v) (ab:qCh o.s cs.size o.c.length y) :
  HR w0 (E.add b (w.heap.size,y)) ((b,o) :: K) (w.alloc (.cells cs o.t)):=by
 have z:=h.qE6 (k:=(w.heap.size,y)) af;have ad:(E.add b (w.heap.size,y)) b=some (w.heap.size,y):=by unfold Ren.add;rw [Qk rfl]
 refine ⟨h.below.alloc h.below.size _,fun x k e=>?_,fun x U J=>?_,fun x ah k c aa e p=>?_⟩
 ·rw [qba]
  split
  ·exact ⟨_,rfl⟩
  ·rename_i V
   unfold Ren.add at e;rw [Qd fun z=>V z.symm] at e;exact h.dom x k e
 ·rw [qba] at J
  split at J
  ·rename_i O
   subst O;cases J;refine ⟨_,_,ad,h.below.size,cs,heap_alloc_new w _,fun i x e=>?_,ab⟩;obtain ⟨v,G,M⟩:=Z i x e;exact ⟨v,G,M.ext z⟩
  ·obtain ⟨k,c,G,M,ac⟩:=h.obj x U J
   exact ⟨k,c,z x _ G,M,ac.ext z (Below.heap_alloc w _ k (h.lt G))⟩
 ·unfold Ren.add at e p
  split at e
  ·rename_i ag
   split at p
   ·rename_i ae;rw [ag,ae]
   ·cases e;exact absurd (h.lt p) (Nat.lt_irrefl _)
  ·split at p
   ·cases p;exact absurd (h.lt e) (Nat.lt_irrefl _)
   ·exact h.inj x ah k c aa e p
theorem HR.drew {w0 w:World} {z:Ren} {y:Hp} (h:HR w0 z y w):HR w0 z y w.drew:=⟨h.below.drew,h.dom,h.obj,h.inj⟩
theorem HR.row {w0 w:World} {h:Ren} {z:Hp} (e:HR w0 h z w) {b k j:Nat} {o:AO} (E:h b=some (k,j)) (ah:look z b=some o) {l:List AC} {cur':Array Value} (ac:∀ (i:Nat) (x:AC),l[i]?=some x->∃ v,cur'[i]?=some v/\x.rel h v) (ad:qCh o.s cur'.size l.length j) :
  HR w0 h ((b,⟨o.t,l,o.s⟩) :: z) (w.setRow k cur'):=by
 obtain ⟨ak,am,M,aj,U,aa,-⟩:=e.obj b o ah;rw [E] at M;cases M;have J:∀ c,c≠k->(w.setRow k cur').heap[c]?=w.heap[c]?:=fun c y=>by simp [World.setRow,Array.getElem?_modify,Ne.symm y]
 refine ⟨⟨e.below.os,e.below.tape,e.below.output,by simpa [World.setRow] using e.below.size,fun c y=>?_⟩,fun x ai V=>?_,fun x Z p=>?_,e.inj⟩
 ·rw [J c (by omega)];exact e.below.block c y
 ·rw [qba]
  split
  ·exact ⟨_,rfl⟩
  ·exact e.dom x ai V
 ·rw [qba] at p
  split at p
  ·rename_i O
   subst O;cases p;exact ⟨k,j,E,aj,cur',setRow_heap w k U _ _ _ aa,ac,ad⟩
  ·rename_i ab
   obtain ⟨c,G,K,af,ae⟩:=e.obj x Z p;exact ⟨c,G,K,af,ae.ext (Ext.refl _) (J c fun ag=>ab (e.inj b x k j G E (ag ▸ K)))⟩
end Go.Ev
namespace Go.Ev
open Go Go.RowKit
def ofC:Value->Option AC
 | .bool b=>some (.bool b)
 | .int k n=>some (.int k n)
 | .string s=>some (.str s.data.toList)
 | .pointer none=>some .nilp
 | .slice none 0 0=>some .nils
 | _=>none
def qB7:List Value->Option (List AC)
 | []=>some []
 | v :: h=>match ofC v,qB7 h with
  | some x,some l=>some (x :: l)
  | _,_=>none
def ofV:Value->Option A1
 | .agg h=>match qB7 h.toList with
  | some l=>some ⟨true,l⟩
  | none=>none
 | v=>match ofC v with
  | some c=>some ⟨false,[c]⟩
  | none=>none
theorem qsR (y:Ren) {v:Value} {x:AC} (h:ofC v=some x):x.rel y v:=by
 unfold ofC at h;split at h <;> first | (cases h;rfl) | (cases h;done)
theorem qoa (t:Ren):∀ {x:List Value} {l:List AC},qB7 x=some l->R2 t l x
 | [],l,h=>by cases h;rfl
 | v :: E,l,h=>by
  simp only [qB7] at h;split at h
  ·rename_i G J z y
   cases h;exact ⟨v,E,rfl,qsR t z,qoa t y⟩
  ·cases h
theorem qhK (z:Ren) {v:Value} {x:A1} (h:ofV v=some x):x.rel z v:=by
 unfold ofV at h;split at h
 ·split at h
  ·rename_i y;cases h;exact ⟨_,rfl,qoa z y⟩
  ·cases h
 ·split at h
  ·rename_i y;cases h;exact ⟨_,rfl,qsR z y⟩
  ·cases h
def AC.val:AC->Option Value
 | .bool b=>some (.bool b)
 | .int k n=>some (.int k n)
 | .str s=>some (.string ⟨s.toArray⟩)
 | .nilp=>some (.pointer none)
 | .nils=>some (.slice none 0 0)
 | _=>none
def qCf:List AC->Option (List Value)
 | []=>some []
 | x :: h=>match x.val,qCf h with
  | some v,some l=>some (v :: l)
  | _,_=>none
def A1.val (x:A1):Option Value:=match x.g,x.l with
 | true,l=>match qCf l with
  | some c=>some (.agg c.toArray)
  | none=>none
 | false,[h]=>h.val
 | _,_=>none
theorem AC.qES {y:Ren} {x:AC} {u v:Value} (h:x.val=some v) (r:x.rel y u):u=v:=by cases x <;> simp only [AC.val] at h <;> first | (cases h;exact r) | (cases h;done)
theorem qos {v:Ren}:∀ {l:List AC} {r us:List Value},qCf l=some r->R2 v l us->us=r
 | [],r,us,h,u=>by cases h;exact u
 | x :: J,r,us,h,⟨K,O,E,z,t⟩=>by
  simp only [qCf] at h;split at h
  ·rename_i M U G y
   cases h;rw [E,AC.qES G z,qos y t]
  ·cases h
theorem A1.qES {y:Ren} {x:A1} {u v:Value} (c:x.val=some v) (r:x.rel y u):u=v:=by
 obtain ⟨l,z⟩:=x;cases l
 ·obtain ⟨E,g,e⟩:=r
  simp only at g;subst g;exact AC.qES c e
 ·obtain ⟨G,rfl,e⟩:=r
  simp only [A1.val] at c;split at c
  ·rename_i J h
   cases c;rw [<- qos h e]
  ·cases c
abbrev Tm:=List (Nat×Option AV)
def TR (x:Ren) (T:Tm) (a:Act):Prop:=∀ t h,look T t=some (some h)->h.rel x (a.tmps.getD t undef)
theorem TR.ext {h t:Ren} (e:Ext h t) {T:Tm} {a:Act} (z:TR h T a):TR t T a:=fun E x y=>(z E x y).ext e
def qlH (T:Tm):Operand->Option AV
 | .tmp t=>match look T t with
  | some h=>h
  | none=>none
 | .const h=>match ofV h with
  | some x=>some (.one x)
  | none=>none
 | _=>none
theorem qgh {h:Ren} {T:Tm} {a:Act} (y:TR h T a) {x:Operand} {v:AV} (e:qlH T x=some v):v.rel h (a.eval x):=by
 cases x with
 | tmp u=>
  simp only [qlH] at e;split at e
  ·rename_i z t
   subst e;exact y u v t
  ·cases e
 | const E=>
  simp only [qlH] at e;split at e
  ·rename_i x t;cases e;exact qhK h t
  ·cases e
 | _=>cases e
def op1 (T:Tm) (x:Operand):Option A1:=match qlH T x with
 | some (.one x)=>some x
 | _=>none
theorem qc0 {h:Ren} {T:Tm} {a:Act} (y:TR h T a) {x:Operand} {v:A1} (e:op1 T x=some v):v.rel h (a.eval x):=by
 unfold op1 at e;split at e
 ·rename_i E z;cases e;exact qgh y z
 ·cases e
def opc (T:Tm) (x:Operand):Option AC:=match op1 T x with
 | some ⟨false,[c]⟩=>some c
 | _=>none
theorem qaK {c:Ren} {T:Tm} {a:Act} (z:TR c T a) {x:Operand} {v:AC} (e:opc T x=some v):v.rel c (a.eval x):=by
 unfold opc at e;split at e
 ·rename_i G E
  cases e;obtain ⟨J,h,y⟩:=qc0 z E;cases h;exact y
 ·cases e
def qwY (T:Tm):List (Nat×Operand)->Option (List (Nat×A1))
 | []=>some []
 | (i,x) :: h=>match op1 T x,qwY T h with
  | some v,some l=>some ((i,v) :: l)
  | _,_=>none
def PR (t:Ren):List (Nat×A1)->List (Nat×Value)->Prop
 | [],h=>h=[]
 | (i,x) :: y,h=>∃ v u,h=(i,v) :: u/\x.rel t v/\PR t y u
theorem qjm {h:Ren} {T:Tm} {a:Act} (t:TR h T a):∀ {ps:List (Nat×Operand)} {l:List (Nat×A1)},qwY T ps=some l->PR h l (ps.map fun (i,x)=>(i,a.eval x))
 | [],l,e=>by cases e;rfl
 | (i,x) :: G,l,e=>by
  simp only [qwY] at e;split at e
  ·rename_i z E y v
   cases e;exact ⟨_,_,rfl,qc0 t y,qjm t v⟩
  ·cases e
def sizeT (P:Program) (t:TypeId):Option Nat:=match P.info? t with
 | some h=>some h.size
 | none=>none
def qgd (P:Program) (t:TypeId):Option A1:=match P.info? t with
 | some i=>match i.zero with
  | some h=>ofV h
  | none=>none
 | none=>none
def qCg (P:Program) (t:TypeId):Option Bool:=match P.underlying t with
 | some (.struct _)=>some true
 | some (.array _ _)=>some true
 | some _=>some false
 | none=>none
theorem qa7 {P:Program} {t:TypeId} {n:Nat} (e:sizeT P t=some n) (w:World):(sizeOf t).run P w=.ok n w:=by
 unfold sizeT at e;split at e
 ·rename_i i h;cases e;simp [Go.sizeOf,typeInfo,h]
 ·cases e
theorem qkS {P:Program} {t:TypeId} {x:A1} (e:qgd P t=some x) (w:Ren):∃ h,x.rel w h/\∀ i,(zeroValue t).run P i=.ok h i:=by
 unfold qgd at e;split at e
 ·rename_i E y
  split at e
  ·rename_i h z;exact ⟨h,qhK w e,fun i=>by simp [zeroValue,typeInfo,y,z]⟩
  ·cases e
 ·cases e
theorem qcB {P:Program} {t:TypeId} {d:TypeDesc} (h:P.underlying t=some d) (w:World):(underlying t).run P w=.ok d w:=by simp [Go.underlying,h]
theorem qgr {P:Program} {t:TypeId} {b:Bool} (d:qCg P t=some b) (w:World):(isAgg t).run P w=.ok b w:=by
 unfold qCg at d;split at d
 ·rename_i e;cases d;simp [isAgg,Go.underlying,e]
 ·rename_i e;cases d;simp [isAgg,Go.underlying,e]
 ·rename_i h z y e
  cases d;simp only [isAgg,Go.underlying,Sem.run_bind,run_program,Result.andThen_ok,e,Sem.run_pure]
 ·cases d
def qob (P:Program) {a:Type}:Sem a->Option a
 | .pure h=>some h
 | .program k=>qob P (k P)
 | .mark _ k=>qob P k
 | _=>none
theorem qfm {P:Program} {w:Type}:∀ {s:Sem w} {a:w},qob P s=some a->∀ h,s.run P h=.ok a h
 | .pure y,a,b,h=>by cases b;rfl
 | .program k,a,b,h=>qfm (s:=k P) b h
 | .mark _ k,a,b,h=>qfm (s:=k) b h
 | .load ..,_,b,_=>by cases b
 | .store ..,_,b,_=>by cases b
 | .new ..,_,b,_=>by cases b
 | .shape ..,_,b,_=>by cases b
 | .freeze ..,_,b,_=>by cases b
 | .frozen ..,_,b,_=>by cases b
 | .getObj ..,_,b,_=>by cases b
 | .setObj ..,_,b,_=>by cases b
 | .choose ..,_,b,_=>by cases b
 | .sys ..,_,b,_=>by cases b
 | .halt ..,_,b,_=>by cases b
def qgM (T:Tm) (x:Operand):Option Value:=match x with
 | .func f=>some (.func (.func f) #[] #[])
 | x=>match op1 T x with
  | some h=>h.val
  | none=>none
theorem qp2 {h:Ren} {T:Tm} {a:Act} (y:TR h T a) {x:Operand} {v:Value} (e:qgM T x=some v):a.eval x=v:=by
 unfold qgM at e;split at e
 ·cases e;rfl
 ·split at e
  ·rename_i E z;exact A1.qES e (qc0 y z)
  ·cases e
def qeO (T:Tm):List Operand->Bool
 | []=>true
 | x :: h=>match qgM T x with
  | some _=>qeO T h
  | none=>false
theorem qfT {z:Ren} {T:Tm} {a:Act} (t:TR z T a):∀ {l:List Operand},qeO T l=true->∀ x∈l,a.eval x=(qgM T x).getD undef
 | [],_,x,e=>by cases e
 | y :: E,h,x,e=>by
  simp only [qeO] at h;split at h
  ·rename_i G v
   rcases QI.1 e with rfl | e
   ·rw [v];exact qp2 t v
   ·exact qfT t h x e
  ·cases h
def qvy:Op->Bool
 | .select ..=>true
 | _=>false
def qf4 (P:Program) (T:Tm) (o:Oper):Option AV:=match qvy o.op,qeO T o.op.operands.toList with
 | false,true=>match qob P (execOp (fun h=>(qgM T h).getD undef) o) with
  | some (.value v)=>match ofV v with
   | some h=>some (.one h)
   | none=>none
  | _=>none
 | _,_=>none
theorem qh2 {P:Program} {h:Ren} {T:Tm} {a:Act} (M:TR h T a) {o:Oper} {x:AV} (e:qf4 P T o=some x):∃ v,x.rel h v/\∀ b,(execOp a.eval o).run P b=.ok (.value v) b:=by
 unfold qf4 at e;split at e
 ·rename_i w G
  split at e
  ·rename_i v E
   split at e
   ·rename_i V y
    cases e;refine ⟨v,qhK h y,fun b=>?_⟩;rw [execOp_congr o (fun O U z=>by rw [z] at w;cases w) (fun K J=>qfT M G K (by simpa using J))];exact qfm E b
   ·cases e
  ·cases e
 ·cases e
end Go.Ev
