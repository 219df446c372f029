/-
  ShowInstrs, for all instructions: Instr returns the text of the reference, without line feeds; the law returns true.
  Conditions: none beyond the row's own (laid variables; the world's shape).
-/
import Derived.Test.YtecpnfhpcamljaaGreatDoorVShW
import Derived.Test.YtecpnfhpcamljaaGreatDoorVShp
import Derived.Test.YtecpnfhpcamljaaGreatDoorCards
import Derived.Test.YtecpnfhpcamljaaGreatDoorTie
import Derived.Lay
set_option linter.all false
set_option maxRecDepth 100000
set_option maxHeartbeats 4000000
namespace Go.Proofs.YtecpnfhpcamljaaGreatDoor.showInstrsDone
open Go.Proofs.Tryz
open Go.ChangeShapes Go.WideShapes Go.ChangeAt Go.RowKit
open Go.ChangeMaps (open_string shut_string)
theorem own:ownKnob prog.godebug=none:=by kernel_rfl
theorem laidOut:laidOutB prog=true:=by kernel_rfl
def qpo (k:IntKind) (w:World) (a:Option Addr) (n cap:Nat) (h:List Int):Prop:=
 (a=none/\n=0/\cap=0/\h=[])\/
 ∃ q,a=some q/\n<=cap/\cap<=maxLen/\h.length=cap/\(∀ i,i<h.length->w.cell? (q.add i)=some (.int k (h.getD i 0)))/\∀ x∈h,(Lit.int k x).wf=true
theorem walk (s:ByteArray) (A:Option Addr) (cap:Nat) (L:List Tr) (w:World) (q:s.size<=maxLen) (y:L.length<=maxLen) (H:qai w A L) (e:qad w) :
  Calls prog 3 #[.agg #[.string s,.slice A L.length cap]] w fun z h=>z=.returned (.bool true)/\Below w.heap.size w h:=qyK s A cap L w q y H e
theorem lifted (os:Os) (M:os.Started) (H:Type) (enc:TypeId×Value->H) :
  ReturnsInHanded {} Tryz.checked os 3 .any (fun w args=>(Rows.showInstrsSpec.pre enc prog f3 [] false w args/\laidMetH prog Rows.showInstrsRow.laid w)/\sizedMet enc prog f3 (OpenSpec.ofChange Rows.showInstrsSpec) false w args)
   (Rows.showInstrsSpec.post enc prog f3 false true false false):=by
 refine qbu (C:=Tryz.checked) (X:=fun w _=>laidMetH prog Rows.showInstrsRow.laid w) (fun _ _ _ ac h=>h.of_heap ac) own M (by kernel_rfl) func3
  (ChangeSpec.witness_shaped (enc:=enc) (C:=Tryz.checked) (os:=os) (X:=fun w _=>laidMetH prog Rows.showInstrsRow.laid w) false (World.laidAll prog os Rows.showInstrsRow.laid) #[.agg #[.string ⟨#[]⟩,.slice none 0 0]] 8 (World.laidAll_os _ _ _)
   (World.shaped_of_ZipB (by kernel_rfl) (by kernel_rfl)) (by kernel_rfl) (by kernel_rfl) (by kernel_rfl)
   (by rw [MakeChecks.laidMetH_plain _ _ _ (by kernel_rfl)];exact laidMet_laidAll _ (by kernel_rfl) (by kernel_rfl))) ?_
 intro e O args af aq ay m p aA Z;have j:∀ (E:Nat) z v,f3.params[E]?=some z->args[E]?=some v->Value.okWide prog e .any O z v:=m;have V:=p;obtain ⟨ak,ax,G,J,rfl,_,_⟩:=p;have q:DataW.TrodAll enc prog e 0 (fun _=>true) true f3.params.toList args.toList af ak:=G;rw [Tryz.params3] at q j;obtain ⟨t,aw,av,ao,W,ar,ap,rfl,rfl,y,ae⟩:=trodAll_cons q;obtain ⟨rfl,rfl,rfl⟩:=trodAll_nil ae;obtain rfl:args=#[t]:=by cases args;simp_all
 obtain ⟨rfl,rfl⟩:=trodVars_none J;have x:=y;have aa:∀ U∈W,U.block<e.heap.size:=by obtain ⟨T,ad⟩:=x;exact DataW.trod_lt T _ _ _ ad
 obtain ⟨K,an,ai,ag,rfl,ab,ah,aj⟩:=qhR (j 0 24 t rfl rfl) y;clear G m;refine (walk K an ai ag e ab ah aj (qbg Z)).mono fun au az ⟨am,bel⟩=>?_
 subst am;exact ⟨_,rfl,_,_,_,[],_,[],V,trodAll_mk1 (shut_bool underlying4 _),(trodAll_cons_mk (Below.trod laidOut (by kernel_rfl) (Qo (by kernel_rfl)) x bel aa) trodAll_mk0),rfl,bel.frame _,fun h=>by cases h⟩
theorem over:Rows.ShowInstrsSaid:=
 OpenClaim.holds_of_wide 3 f3 rfl rfl rfl rfl rfl rfl rfl ⟨rfl,rfl,rfl,rfl,rfl⟩ rfl rfl rfl rfl rfl (by kernel_rfl) func3 (by kernel_rfl)
  (Qo (by kernel_rfl)) (by unfold Func.isWrapper;first | (rw [Qi (by decide +kernel)];kernel_rfl) | (rw [Qe (by decide +kernel)];exact ⟨rfl,rfl⟩))
  (fun z q h y _=>lifted z q h y)
theorem card_holds:Rows.ShowInstrsCardSaid:=
 Claim7.holds_tied_plain_at .later [] [.data,.pinned] true Rows.showInstrsCard.stood.harness true over (fun _ f=>by cases f) (by kernel_rfl) (fun _ f=>by cases f) showInstrs_row_tie rfl ⟨rfl,rfl⟩ (by kernel_rfl) rfl
  (fun y E q z=>by
   obtain rfl:y=3:=Qs ((show prog.funcNamed f3.name=some 3 by kernel_rfl).symm.trans q) |>.symm;obtain rfl:E=f3:=(Qs (func3.symm.trans z)).symm;exact ⟨by kernel_rfl,fun J h j=>by
    rw [Tryz.params3] at j;have u:h∈[24]:=(by simpa [or_assoc,or_comm,or_left_comm] using Array.mem_of_getElem? j);have t:([24].all fun G=>!prog.wantsStandIn G)=true:=by kernel_rfl
    exact (show prog.wantsStandIn h=false by simpa using QA.1 t h u)⟩)
  (by kernel_rfl)
#print axioms card_holds
end Go.Proofs.YtecpnfhpcamljaaGreatDoor.showInstrsDone
