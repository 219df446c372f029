/-
  FlowKinds, for all addresses and instructions: Kind, Sometimes and Target return what the reference does; the law returns true.
  Conditions: none beyond the row's own (laid variables; the world's shape).
-/
import Derived.Test.YtjafbmfcedijmaaGreatDoorKAU
import Derived.Test.YtjafbmfcedijmaaGreatDoorCards
import Derived.Test.YtjafbmfcedijmaaGreatDoorTie
import Derived.Lay
set_option linter.all false
set_option maxRecDepth 100000
set_option maxHeartbeats 4000000
namespace Go.Proofs.YtjafbmfcedijmaaGreatDoor.flowKindsDone
open Go.Proofs.Tryz
open Go.ChangeShapes Go.WideShapes Go.ChangeAt Go.RowKit
open Go.ChangeMaps (open_string shut_string)
theorem own:ownKnob prog.godebug=none:=by kernel_rfl
theorem laidOut:laidOutB prog=true:=by kernel_rfl
def qhI (k:IntKind) (w:World) (a:Option Addr) (x cap:Nat) (h:List Int):Prop:=
 (a=none/\x=0/\cap=0/\h=[])\/
 ∃ n,a=some n/\x<=cap/\cap<=maxLen/\h.length=cap/\(∀ i,i<h.length->w.cell? (n.add i)=some (.int k (h.getD i 0)))/\∀ y∈h,(Lit.int k y).wf=true
theorem walk (a:Int) (s:ByteArray) (A:Option Addr) (cap:Nat) (L:List Tr) (w:World) (G:(Lit.int .i64 a).wf=true) (y:s.size<=maxLen) (h:L.length<=maxLen) (H:qaj w A L) (E:qac w) :
  Calls prog 3 #[.int .i64 a,.agg #[.string s,.slice A L.length cap]] w fun e z=>e=.returned (.bool true)/\Below w.heap.size w z:=qBd a s A cap L w y h H E
theorem lifted (os:Os) (ak:os.Started) (H:Type) (enc:TypeId×Value->H) :
  ReturnsInHanded {} Tryz.checked os 3 .any (fun w args=>(Rows.flowKindsSpec.pre enc prog f3 [] false w args/\laidMetH prog Rows.flowKindsRow.laid w)/\sizedMet enc prog f3 (OpenSpec.ofChange Rows.flowKindsSpec) false w args)
   (Rows.flowKindsSpec.post enc prog f3 false true false false):=by
 refine qeh (C:=Tryz.checked) (X:=fun w _=>laidMetH prog Rows.flowKindsRow.laid w) (fun _ _ _ aq h=>h.of_heap aq) own ak (by kernel_rfl) func3
  (ChangeSpec.witness_shaped (enc:=enc) (C:=Tryz.checked) (os:=os) (X:=fun w _=>laidMetH prog Rows.flowKindsRow.laid w) false (World.laidAll prog os Rows.flowKindsRow.laid) #[.int .i64 0,.agg #[.string ⟨#[]⟩,.slice none 0 0]] 8 (World.laidAll_os _ _ _)
   (World.shaped_of_ZipB (by kernel_rfl) (by kernel_rfl)) (by kernel_rfl) (by kernel_rfl) (by kernel_rfl)
   (by rw [MakeChecks.laidMetH_plain _ _ _ (by kernel_rfl)];exact laidMet_laidAll _ (by kernel_rfl) (by kernel_rfl))) ?_
 intro e ah args ae aE aC p G aG W;have j:∀ (y:Nat) t v,f3.params[y]?=some t->args[y]?=some v->Value.okWide prog e .any ah t v:=p;have ag:=G;obtain ⟨V,ay,m,ad,rfl,_,_⟩:=G;have E:DataW.TrodAll enc prog e 0 (fun _=>true) true f3.params.toList args.toList ae V:=m;rw [Tryz.params3] at E j;obtain ⟨K,aD,aA,aI,aH,ax,aB,rfl,rfl,am,ab⟩:=trodAll_cons E;obtain ⟨z,aF,aw,az,af,aL,rfl,rfl,rfl,q,Z⟩:=trodAll_cons ab;obtain ⟨rfl,rfl,rfl⟩:=trodAll_nil Z;obtain rfl:args=#[K,z]:=by cases args;simp_all
 obtain ⟨rfl,rfl⟩:=trodVars_none ad;obtain ⟨ao,rfl,rfl,rfl,J⟩:=open_int underlying3 (j 0 3 K rfl rfl) am;have x:=q;have U:∀ ac∈af,ac.block<e.heap.size:=by obtain ⟨O,av⟩:=x;exact DataW.trod_lt O _ _ _ av
 obtain ⟨aj,ai,aa,an,rfl,ar,au,ap⟩:=qwa (j 1 24 z rfl rfl) q;clear m p;refine (walk ao aj ai aa an e J ar au ap (qcn W)).mono fun aK aJ ⟨M,bel⟩=>?_
 subst M;exact ⟨_,rfl,_,_,_,[],_,[],ag,trodAll_mk1 (shut_bool underlying4 _),(trodAll_cons_mk (shut_int underlying3 J) (trodAll_cons_mk (Below.trod laidOut (by kernel_rfl) (Qt (by kernel_rfl)) x bel U) trodAll_mk0)),rfl,bel.frame _,fun h=>by cases h⟩
theorem over:Rows.FlowKindsSaid:=
 OpenClaim.holds_of_wide 3 f3 rfl rfl rfl rfl rfl rfl rfl ⟨rfl,rfl,rfl,rfl,rfl⟩ rfl rfl rfl rfl rfl (by kernel_rfl) func3 (by kernel_rfl)
  (Qt (by kernel_rfl)) (by unfold Func.isWrapper;first | (rw [Qk (by decide +kernel)];kernel_rfl) | (rw [Qd (by decide +kernel)];exact ⟨rfl,rfl⟩))
  (fun h E z y _=>lifted h E z y)
theorem card_holds:Rows.FlowKindsCardSaid:=
 Claim7.holds_tied_plain_at .later [] [.data,.pinned] true Rows.flowKindsCard.stood.harness true over (fun _ f=>by cases f) (by kernel_rfl) (fun _ f=>by cases f) flowKinds_row_tie rfl ⟨rfl,rfl⟩ (by kernel_rfl) rfl
  (fun t G z u=>by
   obtain rfl:t=3:=Qw ((show prog.funcNamed f3.name=some 3 by kernel_rfl).symm.trans z) |>.symm;obtain rfl:G=f3:=(Qw (func3.symm.trans u)).symm;exact ⟨by kernel_rfl,fun K h j=>by
    rw [Tryz.params3] at j;have J:h∈[3,24]:=(by simpa [or_assoc,or_comm,or_left_comm] using Array.mem_of_getElem? j);have E:([3,24].all fun y=>!prog.wantsStandIn y)=true:=by kernel_rfl
    exact (show prog.wantsStandIn h=false by simpa using QR.1 E h J)⟩)
  (by kernel_rfl)
#print axioms card_holds
end Go.Proofs.YtjafbmfcedijmaaGreatDoor.flowKindsDone
