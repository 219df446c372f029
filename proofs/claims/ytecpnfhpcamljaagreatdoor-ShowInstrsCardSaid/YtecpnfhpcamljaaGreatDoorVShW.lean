/-
  ShowInstrs, walked.
-/
import Derived.Test.YtecpnfhpcamljaaGreatDoorKAP
set_option linter.all false
set_option maxRecDepth 100000
set_option maxHeartbeats 4000000
namespace Go.Proofs.YtecpnfhpcamljaaGreatDoor
open Tryz
open Go.RowKit Go.Shelf
attribute [local go_sem] Oper.semAt_some
theorem qyK (s:ByteArray) (A:Option Addr) (cap:Nat) (L:List Tr) (w:World) (am:s.size<=maxLen) (aj:L.length<=maxLen) (H:qai w A L) (Z:qad w) :
  Calls prog 3 #[.agg #[.string s,.slice A L.length cap]] w fun l e=>l=.returned (.bool true)/\Below w.heap.size w e:=by
 obtain ⟨t,O⟩:=N9 (L.length);rw [O] at aj |-;obtain ⟨ai,q,aH,aI,ah,y,aG⟩:=Fr.box (Fr.nil w) #[.string s,.slice A t cap] 24;have K:=qdK s A cap t q;obtain ⟨aB,U⟩:=N9 ((decide (s.size<=100)&&decide (t<=20)));rw [U] at K;have aa:Hid (∀ e,Below q.heap.size q e->Calls prog 10 #[] e fun l z=>l=.returned (.bool true)/\Below e.heap.size e z):=fun e G=>qbw e ((Z.below y).below G)
 have T:=J9 y;have aA:=J9 ah.o.1;have ac:Hid (∀ W,Below q.heap.size q W->W.cell? ⟨ai,0,none⟩=some (.string s)/\W.cell? ⟨ai,1,none⟩=some (.slice A t cap)):=fun W h=>Fr.qBb ((h.block ai (by omega)).trans aA.o)
 obtain ⟨J,E⟩:=ac.o q (Qc _ _);cases aB with
 | false=>
  clear H Z am aj O U ah y ac
  go_enter func3,ntmps3
  go_wp2_with fail
  refine K.mono ?_;rintro l ab ⟨rfl,h⟩;have A1:=aa.o ab h;have an:=J9 (T.o.trans (h.mono T.o.size));clear K aa h J E
  go_wp2_with fail
  refine A1.mono ?_;rintro l ap ⟨rfl,h⟩;have ax:=J9 (an.o.trans (h.mono an.o.size));clear A1 h;go_wp2;go_ret;exact ⟨rfl,ax.o⟩
 | true=>
  simp only [Qd,Qf] at U;have ae:Hid (∀ e,Below q.heap.size q e->Calls prog 11 #[.agg #[.string s,.slice A t cap]] e fun l z=>l=.returned (.string (sB (showB s L)))/\Below e.heap.size e z):=fun e G=>qct s (by omega) A cap t L O (by omega) e ((Z.below y).below G) ((H.below y).below G)
  have ak:Hid (∀ e,Below q.heap.size q e->Calls prog 12 #[.agg #[.string s,.slice A t cap]] e fun l z=>l=.returned (.string (sB (showB s L)))/\Below e.heap.size e z):=fun e G=>qeU s (by omega) A cap t L O (by omega) e ((H.below y).below G)
  have ag:Hid (∀ e,Calls prog 13 #[.string (sB (showB s L)),.string ⟨#[10]⟩] e fun l z=>l=.returned (.bool false)/\e=z):=fun e=>qgK _ (qxS (qiC s L)) e
  obtain ⟨aC,ao⟩:=N9 (sB (showB s L));rw [ao] at ae ak ag;have aE:=qAZ aC;clear H Z am aj O U ah y ao
  go_enter func3,ntmps3
  go_wp2_with fail
  refine K.mono ?_;rintro l ab ⟨rfl,af⟩;have aq:=ae.o ab af;have ad:=J9 af;clear K J E ae af;obtain ⟨J,E⟩:=ac.o ab ad.o
  go_wp2_with fail
  refine aq.mono ?_;rintro l ap ⟨rfl,h⟩;have V:=J9 (ad.o.trans (h.mono ad.o.size));have aw:=aa.o ap V.o;clear aq h J E aa ad
  go_wp2_with fail
  refine aw.mono ?_;rintro l ar ⟨rfl,h⟩;have M:=J9 (V.o.trans (h.mono V.o.size));have av:=ak.o ar M.o;clear aw h ak V;obtain ⟨J,E⟩:=ac.o ar M.o
  go_wp2_with fail
  refine av.mono ?_;rintro l az ⟨rfl,h⟩;have aD:=J9 (M.o.trans (h.mono M.o.size));have au:=ag.o az;clear av h ag M J E
  go_wp2_with fail
  refine au.mono ?_;rintro l aF ⟨rfl,rfl⟩;have ay:=J9 (T.o.trans (aD.o.mono T.o.size));clear au;go_wp2;go_ret;exact ⟨rfl,ay.o⟩
end Go.Proofs.YtecpnfhpcamljaaGreatDoor
