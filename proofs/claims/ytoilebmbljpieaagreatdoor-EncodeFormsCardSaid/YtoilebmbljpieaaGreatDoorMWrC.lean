/-
  (*writer).parts: the map from letters to methods of a writer, and a look-up in it.
-/
import Derived.Test.YtoilebmbljpieaaGreatDoorGAG
import Derived.Maps.Own
import Derived.Maps.OwnOps
import Derived.Maps.OwnSet
import Derived.Maps.Views
import Derived.Laws.EntriesVeiled
set_option linter.all false
set_option maxRecDepth 100000
set_option maxHeartbeats 4000000
namespace Go.Proofs.YtoilebmbljpieaaGreatDoor
open Go.RowKit Go.Maps
def heldV (v:Value):Option (DataW Value×List MemPlace):=some (.held v,[])
def methV (f b:Nat):Value:=.func (.func f) #[.pointer (some ⟨b,0,none⟩)] #[]
def partsD (b:Nat):DataW Value:=((((DataW.map []).put (.int .i32 100) (.held (methV 80 b))).put (.int .i32 101) (.held (methV 114 b))).put (.int .i32 110) (.held (methV 114 b))).put (.int .i32 119) (.held (methV 115 b))
theorem keyI:Keyed Tryz.prog 21:=int_keyed Tryz.underlying21
def PtAt (w:World) (g b:Nat):Prop:=w.ownsMap Tryz.prog 21 heldV g 4 (partsD b)
theorem PtAt.lt {w:World} {g b:Nat} (h:PtAt w g b):g<w.heap.size:=World.ownsMap.lt h
theorem PtAt.below {w w':World} {g b:Nat} (h:PtAt w g b) (k:Below w.heap.size w w'):PtAt w' g b:=World.ownsMap.kept h (row:=none) ⟨k.os,k.tape,k.output,k.size,fun i hi _=>k.block i hi⟩ (by simp)
theorem PtAt.kept {w w':World} {g b:Nat} (h:PtAt w g b) (hg:g≠b) (k:WKp b w w'):PtAt w' g b:=by
 have hl:=h.lt
 obtain ⟨es,clock,hb,F,hs,hD⟩:=h
 exact ⟨es,clock,(k.same g hl hg (fun cur e=>by rw [hb] at e;cases e)).trans hb,F,hs,hD⟩
theorem wpList_insertW {ops:Array Oper} {rest:List Oper} {o:Oper} {a:Act} {Q:Exit→Act→World→Prop} {w:World} {g n:Nat} {D:DataW Value} (hgd:o.guard=none) (m x v:Operand)
  (ho:o.op=.insert 135 m x v) (hd:o.dst=none) (hown:w.ownsMap Tryz.prog 21 heldV g n D) (hn:n≤1000) (hm:a.eval m=.map (some g)) (key:Int) (hw:(Lit.int .i32 key).wf=true) (hx:a.eval x=.int .i32 key) (val:Value) (hv:a.eval v=val)
  (k:∀ w',w'.ownsMap Tryz.prog 21 heldV g (n+1) (D.put (.int .i32 key) (.held val))→w.grownBy w' (some g)→wpList Tryz.prog ops Q rest a w'):wpList Tryz.prog ops Q (o :: rest) a w:=by
 obtain ⟨w',hrun,r1,r2⟩:=hown.update keyI Tryz.underlying135 (show n<maxLen by unfold maxLen;omega) (keyOf_int_mk Tryz.underlying21 hw) (show heldV val=some (.held val,[]) from rfl)
 have ih:=k w' r1 r2
 refine wpList_plain hgd fun K' hK'=>?_
 unfold Oper.wp
 simp [execOp,ho,hm,hx,hv,hrun,Result.andThen]
 have e:a.put o.dst undef=a:=by rw [hd];rfl
 unfold Oper.upon
 rw [e]
 exact hK' _ _ ih
theorem zero_fn (w:World):∃ z,(zeroValue 1).run Tryz.prog w=.ok z w:=⟨.nilFunc,by kernel_rfl⟩
theorem look_part {w:World} {g b:Nat} (h:PtAt w g b) (c:Int) (f:Nat) (hw:(Lit.int .i32 c).wf=true) (hh:Maps.has (partsD b) (.int .i32 c)=true) (ha:∀ z,(partsD b).atKey (.int .i32 c) z=.held (methV f b)) :
  (Instr.lookup 135 (.map (some g)) (.int .i32 c) true).run Tryz.prog w=.ok (.tuple #[methV f b,.bool true]) w:=by
 obtain ⟨z,hz⟩:=zero_fn w
 obtain ⟨v,ps,hrun,hv⟩:=World.ownsMap.look_ok h keyI Tryz.underlying135 hz (show heldV z=some (.held z,[]) from rfl) (keyOf_int_mk Tryz.underlying21 hw)
 rw [ha] at hv
 rw [hh] at hrun
 have e:v=methV f b:=by
  unfold heldV at hv
  simp only [Option.some.injEq,Prod.mk.injEq,DataW.held.injEq] at hv
  exact hv.1
 rw [← e]
 exact hrun
theorem look_100 {w:World} {g b:Nat} (h:PtAt w g b):(Instr.lookup 135 (.map (some g)) (.int .i32 100) true).run Tryz.prog w=.ok (.tuple #[methV 80 b,.bool true]) w:=look_part h 100 _ (by decide) rfl fun z=>rfl
theorem look_101 {w:World} {g b:Nat} (h:PtAt w g b):(Instr.lookup 135 (.map (some g)) (.int .i32 101) true).run Tryz.prog w=.ok (.tuple #[methV 114 b,.bool true]) w:=look_part h 101 _ (by decide) rfl fun z=>rfl
theorem look_110 {w:World} {g b:Nat} (h:PtAt w g b):(Instr.lookup 135 (.map (some g)) (.int .i32 110) true).run Tryz.prog w=.ok (.tuple #[methV 114 b,.bool true]) w:=look_part h 110 _ (by decide) rfl fun z=>rfl
theorem look_119 {w:World} {g b:Nat} (h:PtAt w g b):(Instr.lookup 135 (.map (some g)) (.int .i32 119) true).run Tryz.prog w=.ok (.tuple #[methV 115 b,.bool true]) w:=look_part h 119 _ (by decide) rfl fun z=>rfl
theorem wparts_any (b:Nat) (w:World):Calls Tryz.prog 82 #[.pointer (some ⟨b,0,none⟩)] w fun e w'=>∃ g,e=.returned (.map (some g))∧PtAt w' g b∧w.heap.size≤g∧Below w.heap.size w w':=by
 have hmm:=@run_makeMap Tryz.prog
 have B0:=Lib.hid ((Below.refl w.heap.size w).alloc (Nat.le_refl _) (.map #[] 0))
 have M0:=Lib.hid (World.ownsMap_made (H:=Value) w Tryz.prog 21 heldV)
 have BF:=Lib.hid (show ∀ w1 w2:World,Below w.heap.size w w1→w1.grownBy w2 (some w.heap.size)→Below w.heap.size w w2 from fun w1 w2 h g=>h.grown g h.size fun k hk=>by cases hk;exact Nat.le_refl _)
 go_enter Tryz.func82,Tryz.ntmps82
 go_wp2_with (first | (refine wpList_insertW rfl _ _ _ rfl rfl M0.out (by decide) rfl 100 (by decide) rfl _ rfl ?_;intro w1 h1 g1;have M1:=Lib.hid h1;have B1:=Lib.hid (BF.out _ _ B0.out g1);clear h1 g1 M0 B0) | (refine wpList_insertW rfl _ _ _ rfl rfl M1.out (by decide) rfl 101 (by decide) rfl _ rfl ?_;intro w2 h1 g1;have M2:=Lib.hid h1;have B2:=Lib.hid (BF.out _ _ B1.out g1);clear h1 g1 M1 B1) | (refine wpList_insertW rfl _ _ _ rfl rfl M2.out (by decide) rfl 110 (by decide) rfl _ rfl ?_;intro w3 h1 g1;have M3:=Lib.hid h1;have B3:=Lib.hid (BF.out _ _ B2.out g1);clear h1 g1 M2 B2) | (refine wpList_insertW rfl _ _ _ rfl rfl M3.out (by decide) rfl 119 (by decide) rfl _ rfl ?_;intro w4 h1 g1;have M4:=Lib.hid h1;have B4:=Lib.hid (BF.out _ _ B3.out g1);clear h1 g1 M3 B3) | fail)
 go_ret
 exact ⟨_,rfl,M4.out,Nat.le_refl _,B4.out⟩
end Go.Proofs.YtoilebmbljpieaaGreatDoor
