/-
  ShowDecoded, for all bytes: the texts of their items are those of the reference, and none is empty; the law returns true.
  Conditions: none beyond the row's own (the world's shape).
-/
import Derived.Test.YtjafbmfcedijmaaGreatDoorKAX
import Derived.Test.YtjafbmfcedijmaaGreatDoorCards
import Derived.Test.YtjafbmfcedijmaaGreatDoorTie
import Derived.Lay
set_option linter.all false
set_option maxRecDepth 100000
set_option maxHeartbeats 4000000
namespace Go.Proofs.YtjafbmfcedijmaaGreatDoor.showDecodedDone
open Go.Proofs.Tryz
open Go.ChangeShapes Go.WideShapes Go.ChangeAt Go.RowKit
open Go.ChangeMaps (open_string shut_string)
theorem own:ownKnob prog.godebug=none:=by kernel_rfl
theorem laidOut:laidOutB prog=true:=by kernel_rfl
def qhI (k:IntKind) (w:World) (a:Option Addr) (x cap:Nat) (h:List Int):Prop:=
 (a=none/\x=0/\cap=0/\h=[])\/
 ∃ n,a=some n/\x<=cap/\cap<=maxLen/\h.length=cap/\(∀ i,i<h.length->w.cell? (n.add i)=some (.int k (h.getD i 0)))/\∀ y∈h,(Lit.int k y).wf=true
theorem walk (A:Option Addr) (cap:Nat) (b:Str) (w:World) (E:b.length<=maxLen) (H:BytesAt w A b) (e:b.length<=cap/\cap<=maxLen) (z:qac w) :
  Calls prog 6 #[.slice A b.length cap] w fun h y=>h=.returned (.bool true)/\Below w.heap.size w y:=qBl A cap b w H e z
theorem lifted (os:Os) (aw:os.Started) (H:Type) (enc:TypeId×Value->H) :
  ReturnsInHanded {} Tryz.checked os 6 .any (fun w args=>(Rows.showDecodedSpec.pre enc prog f6 [] false w args/\laidMetH prog Rows.showDecodedRow.laid w)/\sizedMet enc prog f6 (OpenSpec.ofChange Rows.showDecodedSpec) false w args)
   (Rows.showDecodedSpec.post enc prog f6 false true false false):=by
 refine qeh (C:=Tryz.checked) (X:=fun w _=>laidMetH prog Rows.showDecodedRow.laid w) (fun _ _ _ ay q=>q.of_heap ay) own aw (by kernel_rfl) func6
  (ChangeSpec.witness_shaped (enc:=enc) (C:=Tryz.checked) (os:=os) (X:=fun w _=>laidMetH prog Rows.showDecodedRow.laid w) false (World.laidAll prog os Rows.showDecodedRow.laid) #[.slice none 0 0] 8 (World.laidAll_os _ _ _)
   (World.shaped_of_ZipB (by kernel_rfl) (by kernel_rfl)) (by kernel_rfl) (by kernel_rfl) (by kernel_rfl)
   (by rw [MakeChecks.laidMetH_plain _ _ _ (by kernel_rfl)];exact laidMet_laidAll _ (by kernel_rfl) (by kernel_rfl))) ?_
 intro e au args ao aI aG x J aK ac;have U:∀ (A:Nat) y z,f6.params[A]?=some y->args[A]?=some z->Value.okWide prog e .any au y z:=x;have ar:=J;obtain ⟨ab,aD,v,am,rfl,_,_⟩:=J;have E:DataW.TrodAll enc prog e 0 (fun _=>true) true f6.params.toList args.toList ao ab:=v;rw [Tryz.params6] at E U;obtain ⟨O,aH,af,aL,G,aB,aF,rfl,rfl,M,aj⟩:=trodAll_cons E;obtain ⟨rfl,rfl,rfl⟩:=trodAll_nil aj;obtain rfl:args=#[O]:=by cases args;simp_all
 obtain ⟨rfl,rfl⟩:=trodVars_none am;have t:=M;have ax:∀ ak∈G,ak.block<e.heap.size:=by obtain ⟨Z,aA⟩:=t;exact DataW.trod_lt Z _ _ _ aA
 obtain ⟨p,h,m,rfl⟩:=okWide_slice underlying44 (U 0 44 O rfl rfl);obtain ⟨aa,az,ai,av,ah⟩:∃ j,h=j.length/\h<=maxLen/\BytesAt e p j/\h<=m/\m<=maxLen:=by
  obtain ⟨ag,ad⟩:=M;have ae:DataW.trod enc prog e 0 (fun _=>true) true ag 44 [.slice p h m]=some (af,G):=by simpa [Value.cells] using ad
  obtain ⟨aJ,aE,aC,j,K,an,ap,V,aq⟩:=qm9 ae;simp only [QC] at K;obtain ⟨rfl,rfl,rfl⟩:=K;exact ⟨j,an,ap,V,aq⟩
 subst az;clear v x;refine (walk p m aa e ai av ah (qcn ac)).mono fun aM aN ⟨W,bel⟩=>?_
 subst W;exact ⟨_,rfl,_,_,_,[],_,[],ar,trodAll_mk1 (shut_bool underlying4 _),(trodAll_cons_mk (Below.trod laidOut (by kernel_rfl) (Qt (by kernel_rfl)) t bel ax) trodAll_mk0),rfl,bel.frame _,fun q=>by cases q⟩
theorem over:Rows.ShowDecodedSaid:=
 OpenClaim.holds_of_wide 6 f6 rfl rfl rfl rfl rfl rfl rfl ⟨rfl,rfl,rfl,rfl,rfl⟩ rfl rfl rfl rfl rfl (by kernel_rfl) func6 (by kernel_rfl)
  (Qt (by kernel_rfl)) (by unfold Func.isWrapper;first | (rw [Qk (by decide +kernel)];kernel_rfl) | (rw [Qd (by decide +kernel)];exact ⟨rfl,rfl⟩))
  (fun h E z y _=>lifted h E z y)
theorem card_holds:Rows.ShowDecodedCardSaid:=
 Claim7.holds_tied_plain_at .later [] [.data,.pinned] true Rows.showDecodedCard.stood.harness true over (fun _ f=>by cases f) (by kernel_rfl) (fun _ f=>by cases f) showDecoded_row_tie rfl ⟨rfl,rfl⟩ (by kernel_rfl) rfl
  (fun t G z u=>by
   obtain rfl:t=6:=Qw ((show prog.funcNamed f6.name=some 6 by kernel_rfl).symm.trans z) |>.symm;obtain rfl:G=f6:=(Qw (func6.symm.trans u)).symm;exact ⟨by kernel_rfl,fun K h j=>by
    rw [Tryz.params6] at j;have J:h∈[44]:=(by simpa [or_assoc,or_comm,or_left_comm] using Array.mem_of_getElem? j);have E:([44].all fun y=>!prog.wantsStandIn y)=true:=by kernel_rfl
    exact (show prog.wantsStandIn h=false by simpa using QR.1 E h J)⟩)
  (by kernel_rfl)
#print axioms card_holds
end Go.Proofs.YtjafbmfcedijmaaGreatDoor.showDecodedDone
