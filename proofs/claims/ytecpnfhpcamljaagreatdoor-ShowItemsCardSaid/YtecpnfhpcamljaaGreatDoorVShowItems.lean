/-
  ShowItems, for all items and addresses: Item, Items and Row return the texts of the reference; the law returns true.
  Conditions: none beyond the row's own (the world's shape).
-/
import Derived.Test.YtecpnfhpcamljaaGreatDoorVShV
import Derived.Test.YtecpnfhpcamljaaGreatDoorVItO
import Derived.Test.YtecpnfhpcamljaaGreatDoorCards
import Derived.Test.YtecpnfhpcamljaaGreatDoorTie
import Derived.Lay
set_option linter.all false
set_option maxRecDepth 100000
set_option maxHeartbeats 4000000
namespace Go.Proofs.YtecpnfhpcamljaaGreatDoor.showItemsDone
open Go.Proofs.Tryz
open Go.ChangeShapes Go.WideShapes Go.ChangeAt Go.RowKit
open Go.ChangeMaps (open_string shut_string)
theorem own:ownKnob prog.godebug=none:=by kernel_rfl
theorem laidOut:laidOutB prog=true:=by kernel_rfl
def qpo (k:IntKind) (w:World) (a:Option Addr) (n cap:Nat) (h:List Int):Prop:=
 (a=none/\n=0/\cap=0/\h=[])\/
 ∃ q,a=some q/\n<=cap/\cap<=maxLen/\h.length=cap/\(∀ i,i<h.length->w.cell? (q.add i)=some (.int k (h.getD i 0)))/\∀ x∈h,(Lit.int k x).wf=true
theorem walk (a:Int) (A:Option Addr) (cap:Nat) (R:List Xe) (w:World) (z:(Lit.int .i64 a).wf=true) (q:R.length<=maxLen) (H:qdX w A R) (E:∀ r∈R,qvY r) (h:qad w) :
  Calls prog 6 #[.int .i64 a,.slice A R.length cap] w fun y e=>y=.returned (.bool true)/\Below w.heap.size w e:=qxL a A cap R w q H h
theorem lifted (os:Os) (aa:os.Started) (H:Type) (enc:TypeId×Value->H) :
  ReturnsInHanded {} Tryz.checked os 6 .any (fun w args=>(Rows.showItemsSpec.pre enc prog f6 [] false w args/\laidMetH prog Rows.showItemsRow.laid w)/\sizedMet enc prog f6 (OpenSpec.ofChange Rows.showItemsSpec) false w args)
   (Rows.showItemsSpec.post enc prog f6 false true false false):=by
 refine qbu (C:=Tryz.checked) (X:=fun w _=>laidMetH prog Rows.showItemsRow.laid w) (fun _ _ _ an m=>m.of_heap an) own aa (by kernel_rfl) func6
  (ChangeSpec.witness_shaped (enc:=enc) (C:=Tryz.checked) (os:=os) (X:=fun w _=>laidMetH prog Rows.showItemsRow.laid w) false (World.laidAll prog os Rows.showItemsRow.laid) #[.int .i64 0,.slice none 0 0] 8 (World.laidAll_os _ _ _)
   (World.shaped_of_ZipB (by kernel_rfl) (by kernel_rfl)) (by kernel_rfl) (by kernel_rfl) (by kernel_rfl)
   (by rw [MakeChecks.laidMetH_plain _ _ _ (by kernel_rfl)];exact laidMet_laidAll _ (by kernel_rfl) (by kernel_rfl))) ?_
 intro e ac args au aK aR r t aU ai;have j:∀ (M:Nat) J G,f6.params[M]?=some J->args[M]?=some G->Value.okWide prog e .any ac J G:=r;have ag:=t;obtain ⟨aA,aQ,O,V,rfl,_,_⟩:=t;have x:DataW.TrodAll enc prog e 0 (fun _=>true) true f6.params.toList args.toList au aA:=O;rw [Tryz.params6] at x j;obtain ⟨z,aP,aO,aH,aN,aJ,aG,rfl,rfl,aw,ap⟩:=trodAll_cons x;obtain ⟨E,aI,W,aS,A,aF,rfl,rfl,rfl,y,ab⟩:=trodAll_cons ap;obtain ⟨rfl,rfl,rfl⟩:=trodAll_nil ab;obtain rfl:args=#[z,E]:=by cases args;simp_all
 obtain ⟨rfl,rfl⟩:=trodVars_none V;obtain ⟨aD,rfl,rfl,rfl,K⟩:=open_int underlying3 (j 0 3 z rfl rfl) aw;have v:=y;have ah:∀ ae∈A,ae.block<e.heap.size:=by obtain ⟨ad,ao⟩:=v;exact DataW.trod_lt ad _ _ _ ao
 obtain ⟨p,q,T,rfl⟩:=okWide_slice underlying40 (j 1 40 E rfl rfl);obtain ⟨am,av,aE,ak,aj⟩:∃ h,q=h.length/\q<=maxLen/\qdX e p h/\∀ ay∈h,qvY ay:=by
  obtain ⟨af,az⟩:=y;have aB:DataW.trod enc prog e 0 (fun _=>true) true af 40 [.slice p q T]=some (W,A):=by simpa [Value.cells] using az
  obtain ⟨aV,aW,aL,h,U,aq,ar,ax,Z⟩:=qlM aB;simp only [Qy] at U;obtain ⟨rfl,rfl,rfl⟩:=U;exact ⟨h,aq,ar,ax,Z⟩
 subst av;clear O r;refine (walk aD p T am e K aE ak aj (qbg ai)).mono fun aM aT ⟨aC,bel⟩=>?_
 subst aC;exact ⟨_,rfl,_,_,_,[],_,[],ag,trodAll_mk1 (shut_bool underlying4 _),(trodAll_cons_mk (shut_int underlying3 K) (trodAll_cons_mk (Below.trod laidOut (by kernel_rfl) (Qo (by kernel_rfl)) v bel ah) trodAll_mk0)),rfl,bel.frame _,fun m=>by cases m⟩
theorem over:Rows.ShowItemsSaid:=
 OpenClaim.holds_of_wide 6 f6 rfl rfl rfl rfl rfl rfl rfl ⟨rfl,rfl,rfl,rfl,rfl⟩ rfl rfl rfl rfl rfl (by kernel_rfl) func6 (by kernel_rfl)
  (Qo (by kernel_rfl)) (by unfold Func.isWrapper;first | (rw [Qi (by decide +kernel)];kernel_rfl) | (rw [Qe (by decide +kernel)];exact ⟨rfl,rfl⟩))
  (fun z q h y _=>lifted z q h y)
theorem card_holds:Rows.ShowItemsCardSaid:=
 Claim7.holds_tied_plain_at .later [] [.data,.pinned] true Rows.showItemsCard.stood.harness true over (fun _ f=>by cases f) (by kernel_rfl) (fun _ f=>by cases f) showItems_row_tie rfl ⟨rfl,rfl⟩ (by kernel_rfl) rfl
  (fun y E q z=>by
   obtain rfl:y=6:=Qs ((show prog.funcNamed f6.name=some 6 by kernel_rfl).symm.trans q) |>.symm;obtain rfl:E=f6:=(Qs (func6.symm.trans z)).symm;exact ⟨by kernel_rfl,fun J h j=>by
    rw [Tryz.params6] at j;have u:h∈[3,40]:=(by simpa [or_assoc,or_comm,or_left_comm] using Array.mem_of_getElem? j);have t:([3,40].all fun G=>!prog.wantsStandIn G)=true:=by kernel_rfl
    exact (show prog.wantsStandIn h=false by simpa using QA.1 t h u)⟩)
  (by kernel_rfl)
#print axioms card_holds
end Go.Proofs.YtecpnfhpcamljaaGreatDoor.showItemsDone
