/-
  ShowDecoded, for all bytes: the texts of their items are those of the reference, and none is empty; the law returns true.
  Conditions: none beyond the row's own (the world's shape).
-/
import Derived.Test.YtecpnfhpcamljaaGreatDoorKBC
import Derived.Test.YtecpnfhpcamljaaGreatDoorVTbX
import Derived.Test.YtecpnfhpcamljaaGreatDoorCards
import Derived.Test.YtecpnfhpcamljaaGreatDoorTie
import Derived.Lay
set_option linter.all false
set_option maxRecDepth 100000
set_option maxHeartbeats 4000000
namespace Go.Proofs.YtecpnfhpcamljaaGreatDoor.showDecodedDone
open Go.Proofs.Tryz
open Go.ChangeShapes Go.WideShapes Go.ChangeAt Go.RowKit
open Go.ChangeMaps (open_string shut_string)
theorem own:ownKnob prog.godebug=none:=by kernel_rfl
theorem laidOut:laidOutB prog=true:=by kernel_rfl
def qpo (k:IntKind) (w:World) (a:Option Addr) (n cap:Nat) (h:List Int):Prop:=
 (a=none/\n=0/\cap=0/\h=[])\/
 ∃ q,a=some q/\n<=cap/\cap<=maxLen/\h.length=cap/\(∀ i,i<h.length->w.cell? (q.add i)=some (.int k (h.getD i 0)))/\∀ x∈h,(Lit.int k x).wf=true
theorem walk (A:Option Addr) (cap:Nat) (b:Str) (w:World) (z:b.length<=maxLen) (H:BytesAt w A b) (q:b.length<=cap/\cap<=maxLen) (h:qad w) :
  Calls prog 8 #[.slice A b.length cap] w fun y e=>y=.returned (.bool true)/\Below w.heap.size w e:=qwM A cap b w H q h
theorem lifted (os:Os) (W:os.Started) (H:Type) (enc:TypeId×Value->H) :
  ReturnsInHanded {} Tryz.checked os 8 .any (fun w args=>(Rows.showDecodedSpec.pre enc prog f8 [] false w args/\laidMetH prog Rows.showDecodedRow.laid w)/\sizedMet enc prog f8 (OpenSpec.ofChange Rows.showDecodedSpec) false w args)
   (Rows.showDecodedSpec.post enc prog f8 false true false false):=by
 refine qbu (C:=Tryz.checked) (X:=fun w _=>laidMetH prog Rows.showDecodedRow.laid w) (fun _ _ _ ai p=>p.of_heap ai) own W (by kernel_rfl) func8
  (ChangeSpec.witness_shaped (enc:=enc) (C:=Tryz.checked) (os:=os) (X:=fun w _=>laidMetH prog Rows.showDecodedRow.laid w) false (World.laidAll prog os Rows.showDecodedRow.laid) #[.slice none 0 0] 8 (World.laidAll_os _ _ _)
   (World.shaped_of_ZipB (by kernel_rfl) (by kernel_rfl)) (by kernel_rfl) (by kernel_rfl) (by kernel_rfl)
   (by rw [MakeChecks.laidMetH_plain _ _ _ (by kernel_rfl)];exact laidMet_laidAll _ (by kernel_rfl) (by kernel_rfl))) ?_
 intro e Z args an aC aI v x aK ae;have t:∀ (M:Nat) K E,f8.params[M]?=some K->args[M]?=some E->Value.okWide prog e .any Z K E:=v;have ad:=x;obtain ⟨aw,aH,O,U,rfl,_,_⟩:=x;have y:DataW.TrodAll enc prog e 0 (fun _=>true) true f8.params.toList args.toList an aw:=O;rw [Tryz.params8] at y t;obtain ⟨z,aG,ag,aA,A,aD,aB,rfl,rfl,J,ak⟩:=trodAll_cons y;obtain ⟨rfl,rfl,rfl⟩:=trodAll_nil ak;obtain rfl:args=#[z]:=by cases args;simp_all
 obtain ⟨rfl,rfl⟩:=trodVars_none U;have G:=J;have af:∀ ab∈A,ab.block<e.heap.size:=by obtain ⟨aa,aj⟩:=G;exact DataW.trod_lt aa _ _ _ aj
 obtain ⟨q,m,j,rfl⟩:=okWide_slice underlying35 (t 0 35 z rfl rfl);obtain ⟨ap,am,aq,av,ah⟩:∃ h,m=h.length/\m<=maxLen/\BytesAt e q h/\m<=j/\j<=maxLen:=by
  obtain ⟨ac,ax⟩:=J;have ay:DataW.trod enc prog e 0 (fun _=>true) true ac 35 [.slice q m j]=some (ag,A):=by simpa [Value.cells] using ax
  obtain ⟨aL,aM,aE,h,T,ao,ar,au,V⟩:=qdJ ay;simp only [Qy] at T;obtain ⟨rfl,rfl,rfl⟩:=T;exact ⟨h,ao,ar,au,V⟩
 subst am;clear O v;refine (walk q j ap e aq av ah (qbg ae)).mono fun aF aJ ⟨az,bel⟩=>?_
 subst az;exact ⟨_,rfl,_,_,_,[],_,[],ad,trodAll_mk1 (shut_bool underlying4 _),(trodAll_cons_mk (Below.trod laidOut (by kernel_rfl) (Qo (by kernel_rfl)) G bel af) trodAll_mk0),rfl,bel.frame _,fun p=>by cases p⟩
theorem over:Rows.ShowDecodedSaid:=
 OpenClaim.holds_of_wide 8 f8 rfl rfl rfl rfl rfl rfl rfl ⟨rfl,rfl,rfl,rfl,rfl⟩ rfl rfl rfl rfl rfl (by kernel_rfl) func8 (by kernel_rfl)
  (Qo (by kernel_rfl)) (by unfold Func.isWrapper;first | (rw [Qi (by decide +kernel)];kernel_rfl) | (rw [Qe (by decide +kernel)];exact ⟨rfl,rfl⟩))
  (fun z q h y _=>lifted z q h y)
theorem card_holds:Rows.ShowDecodedCardSaid:=
 Claim7.holds_tied_plain_at .later [] [.data,.pinned] true Rows.showDecodedCard.stood.harness true over (fun _ f=>by cases f) (by kernel_rfl) (fun _ f=>by cases f) showDecoded_row_tie rfl ⟨rfl,rfl⟩ (by kernel_rfl) rfl
  (fun y E q z=>by
   obtain rfl:y=8:=Qs ((show prog.funcNamed f8.name=some 8 by kernel_rfl).symm.trans q) |>.symm;obtain rfl:E=f8:=(Qs (func8.symm.trans z)).symm;exact ⟨by kernel_rfl,fun J h j=>by
    rw [Tryz.params8] at j;have u:h∈[35]:=(by simpa [or_assoc,or_comm,or_left_comm] using Array.mem_of_getElem? j);have t:([35].all fun G=>!prog.wantsStandIn G)=true:=by kernel_rfl
    exact (show prog.wantsStandIn h=false by simpa using QA.1 t h u)⟩)
  (by kernel_rfl)
#print axioms card_holds
end Go.Proofs.YtecpnfhpcamljaaGreatDoor.showDecodedDone
