/-
  ShowApart, for all pairs of instructions: two legal ones have one text exactly if they have one canonical form; the law returns true.
  Conditions: none beyond the row's own (laid variables; the world's shape).
-/
import Derived.Test.YtecpnfhpcamljaaGreatDoorKAT
import Derived.Test.YtecpnfhpcamljaaGreatDoorVShp
import Derived.Test.YtecpnfhpcamljaaGreatDoorCards
import Derived.Test.YtecpnfhpcamljaaGreatDoorTie
import Derived.Lay
set_option linter.all false
set_option maxRecDepth 100000
set_option maxHeartbeats 4000000
namespace Go.Proofs.YtecpnfhpcamljaaGreatDoor.showApartDone
open Go.Proofs.Tryz
open Go.ChangeShapes Go.WideShapes Go.ChangeAt Go.RowKit
open Go.ChangeMaps (open_string shut_string)
theorem own:ownKnob prog.godebug=none:=by kernel_rfl
theorem laidOut:laidOutB prog=true:=by kernel_rfl
def qpo (k:IntKind) (w:World) (a:Option Addr) (n cap:Nat) (h:List Int):Prop:=
 (a=none/\n=0/\cap=0/\h=[])\/
 ∃ q,a=some q/\n<=cap/\cap<=maxLen/\h.length=cap/\(∀ i,i<h.length->w.cell? (q.add i)=some (.int k (h.getD i 0)))/\∀ x∈h,(Lit.int k x).wf=true
theorem walk (q:ByteArray) (A1:Option Addr) (z:Nat) (e:List Tr) (s2:ByteArray) (y:Option Addr) (c2:Nat) (h:List Tr) (w:World) (O:q.size<=maxLen) (T:e.length<=maxLen) (H:qai w A1 e) (U:s2.size<=maxLen) (M:h.length<=maxLen) (K:qai w y h) (E:qad w) :
  Calls prog 4 #[.agg #[.string q,.slice A1 e.length z],.agg #[.string s2,.slice y h.length c2]] w fun J G=>J=.returned (.bool true)/\Below w.heap.size w G:=qxU q A1 z e s2 y c2 h w H K E
theorem lifted (os:Os) (aa:os.Started) (H:Type) (enc:TypeId×Value->H) :
  ReturnsInHanded {} Tryz.checked os 4 .any (fun w args=>(Rows.showApartSpec.pre enc prog f4 [] false w args/\laidMetH prog Rows.showApartRow.laid w)/\sizedMet enc prog f4 (OpenSpec.ofChange Rows.showApartSpec) false w args)
   (Rows.showApartSpec.post enc prog f4 false true false false):=by
 refine qbu (C:=Tryz.checked) (X:=fun w _=>laidMetH prog Rows.showApartRow.laid w) (fun _ _ _ ao p=>p.of_heap ao) own aa (by kernel_rfl) func4
  (ChangeSpec.witness_shaped (enc:=enc) (C:=Tryz.checked) (os:=os) (X:=fun w _=>laidMetH prog Rows.showApartRow.laid w) false (World.laidAll prog os Rows.showApartRow.laid) #[.agg #[.string ⟨#[]⟩,.slice none 0 0],.agg #[.string ⟨#[]⟩,.slice none 0 0]] 8 (World.laidAll_os _ _ _)
   (World.shaped_of_ZipB (by kernel_rfl) (by kernel_rfl)) (by kernel_rfl) (by kernel_rfl) (by kernel_rfl)
   (by rw [MakeChecks.laidMetH_plain _ _ _ (by kernel_rfl)];exact laidMet_laidAll _ (by kernel_rfl) (by kernel_rfl))) ?_
 intro e ab args ar aI aO t v aR af;have h:∀ (T:Nat) O J,f4.params[T]?=some O->args[T]?=some J->Value.okWide prog e .any ab O J:=t;have ad:=v;obtain ⟨ay,aN,U,V,rfl,_,_⟩:=v;have x:DataW.TrodAll enc prog e 0 (fun _=>true) true f4.params.toList args.toList ar ay:=U;rw [Tryz.params4] at x h;obtain ⟨E,aM,aL,aF,ae,aJ,aH,rfl,rfl,M,ap⟩:=trodAll_cons x;obtain ⟨G,aG,aE,aP,ak,aD,rfl,rfl,rfl,y,ac⟩:=trodAll_cons ap;obtain ⟨rfl,rfl,rfl⟩:=trodAll_nil ac;obtain rfl:args=#[E,G]:=by cases args;simp_all
 obtain ⟨rfl,rfl⟩:=trodVars_none V;have K:=M;have ag:∀ j∈ae,j.block<e.heap.size:=by obtain ⟨m,q⟩:=K;exact DataW.trod_lt m _ _ _ q
 obtain ⟨W,aB,aw,au,rfl,aj,av,ax⟩:=qhR (h 0 24 E rfl rfl) M;have z:=y;have ah:∀ j∈ak,j.block<e.heap.size:=by obtain ⟨m,q⟩:=z;exact DataW.trod_lt m _ _ _ q
 obtain ⟨Z,aq,aA,an,rfl,ai,aC,am⟩:=qhR (h 1 24 G rfl rfl) y;clear U t;refine (walk W aB aw au Z aq aA an e aj av ax ai aC am (qbg af)).mono fun aK aQ ⟨az,bel⟩=>?_
 subst az;exact ⟨_,rfl,_,_,_,[],_,[],ad,trodAll_mk1 (shut_bool underlying4 _),(trodAll_cons_mk (Below.trod laidOut (by kernel_rfl) (Qo (by kernel_rfl)) K bel ag) (trodAll_cons_mk (Below.trod laidOut (by kernel_rfl) (Qo (by kernel_rfl)) z bel ah) trodAll_mk0)),rfl,bel.frame _,fun p=>by cases p⟩
theorem over:Rows.ShowApartSaid:=
 OpenClaim.holds_of_wide 4 f4 rfl rfl rfl rfl rfl rfl rfl ⟨rfl,rfl,rfl,rfl,rfl⟩ rfl rfl rfl rfl rfl (by kernel_rfl) func4 (by kernel_rfl)
  (Qo (by kernel_rfl)) (by unfold Func.isWrapper;first | (rw [Qi (by decide +kernel)];kernel_rfl) | (rw [Qe (by decide +kernel)];exact ⟨rfl,rfl⟩))
  (fun z q h y _=>lifted z q h y)
theorem card_holds:Rows.ShowApartCardSaid:=
 Claim7.holds_tied_plain_at .later [] [.data,.pinned] true Rows.showApartCard.stood.harness true over (fun _ f=>by cases f) (by kernel_rfl) (fun _ f=>by cases f) showApart_row_tie rfl ⟨rfl,rfl⟩ (by kernel_rfl) rfl
  (fun y E q z=>by
   obtain rfl:y=4:=Qs ((show prog.funcNamed f4.name=some 4 by kernel_rfl).symm.trans q) |>.symm;obtain rfl:E=f4:=(Qs (func4.symm.trans z)).symm;exact ⟨by kernel_rfl,fun J h j=>by
    rw [Tryz.params4] at j;have u:h∈[24,24]:=(by simpa [or_assoc,or_comm,or_left_comm] using Array.mem_of_getElem? j);have t:([24,24].all fun G=>!prog.wantsStandIn G)=true:=by kernel_rfl
    exact (show prog.wantsStandIn h=false by simpa using QA.1 t h u)⟩)
  (by kernel_rfl)
#print axioms card_holds
end Go.Proofs.YtecpnfhpcamljaaGreatDoor.showApartDone
