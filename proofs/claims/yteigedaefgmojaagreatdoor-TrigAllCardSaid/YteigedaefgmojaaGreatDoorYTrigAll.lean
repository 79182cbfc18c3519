/-
  TrigAll (layer 12): the sines and the cosines of an interval are the document's; if both tables of math/bits read as the text lays them.
-/
import Derived.Below
import Derived.ChangeOld
import Derived.LaidLaws
import Derived.Lay
import Derived.OpenShut
import Derived.ProofKit
import Derived.SevenTiedAt
import Derived.ShutString
import Derived.Stop.Joined
import Derived.Test.YteigedaefgmojaaGreatDoorCards
import Derived.Test.YteigedaefgmojaaGreatDoorRows
import Derived.Test.YteigedaefgmojaaGreatDoorTie
import Derived.WalkKit
import Derived.Test.YteigedaefgmojaaGreatDoorYQbf
import Derived.Test.YteigedaefgmojaaGreatDoorYQbg
import Derived.Test.YteigedaefgmojaaGreatDoorYTrigAllW
namespace Go.Proofs.YteigedaefgmojaaGreatDoor.trigAll
open Go.Proofs.Tryz
open Go.ChangeShapes Go.WideShapes Go.ChangeAt Go.RowKit
set_option linter.unusedVariables false
theorem own:ownKnob prog.godebug=none:=by kernel_rfl
theorem laidOut:laidOutB prog=true:=by kernel_rfl
set_option maxRecDepth 100000 in
theorem lifted (os:Os)(started:os.Started)(H:Type)(enc:TypeId × Value->H):
  ReturnsInHanded {} Tryz.checked os 3 .any (fun w args=>(Rows.trigAllSpec.pre enc prog Tryz.f3 [] false w args/\laidMetH prog Rows.trigAllRow.laid w)/\sizedMet enc prog Tryz.f3 (OpenSpec.ofChange Rows.trigAllSpec) false w args)
   (Rows.trigAllSpec.post enc prog Tryz.f3 false true false false):=by
 refine returnsInHanded_of_change_and (C:=Tryz.checked) (X:=fun w _=>laidMetH prog Rows.trigAllRow.laid w) (fun _ _ _ hh h=>h.of_heap hh) own started (by kernel_rfl) func3
  (ChangeSpec.witness_shaped (enc:=enc) (C:=Tryz.checked) (os:=os) (X:=fun w _=>laidMetH prog Rows.trigAllRow.laid w) false (World.laidAll prog os Rows.trigAllRow.laid) #[.agg #[.bool false,.int .i64 0,.bool false,.int .u64 0,.int .i64 0,.int .i64 0,.bool false,.int .u64 0,.int .i64 0]] 8 rfl (World.shaped_of_ZipB (by kernel_rfl) (by kernel_rfl)) (by kernel_rfl) (by kernel_rfl) (by kernel_rfl) (by
   rw[MakeChecks.laidMetH_plain _ _ _ (by kernel_rfl)];exact laidMet_laidAll _ (by kernel_rfl) (by kernel_rfl))) ?_
 intro W base args ds gs d a s _ _ f _
 rw[MakeChecks.laidMetH_plain _ _ _ (by kernel_rfl)]at f
 have J:dN W:=FL (rest:=_) f
 have g:Tb W:=Hp f (.tail _ (.head _))
 have b:∀(j:Nat) t v,Tryz.f3.params[j]?=some t->args[j]?=some v->Value.okWide prog W .any base t v:=a
 have i:=s
 obtain⟨p,q,c,L,rfl,M,N⟩:=s
 have r:DataW.TrodAll enc prog W 0 (fun _=>true) true Tryz.f3.params.toList args.toList ds p:=c
 rw[Tryz.params3]at r b;obtain⟨y,R,S,G,p0,T,k,rfl,rfl,o,O⟩:=trodAll_cons r;obtain⟨rfl,rfl,rfl⟩:=trodAll_nil O
 obtain rfl:args= #[y]:=by cases args;simp_all
 obtain⟨rfl,rfl⟩:=trodVars_none L;have u:=o
 have l:∀x ∈ p0,x.block < W.heap.size:=by obtain⟨m,hm⟩:=u;exact DataW.trod_lt m _ _ _ hm
 obtain⟨e0,z,P,D,A,B,I,E,F,rfl,Q,n⟩:=CI (b 0 26 y rfl rfl) o;clear c a
 refine(trigAll_walk e0 z P D A B I E F W J g Q n).mono fun e W' ⟨he,bel⟩=>?_
 subst he
 exact⟨_,rfl,_,_,_,[],_,[],i,trodAll_mk1 (shut_bool Tryz.underlying4 _),(trodAll_cons_mk (Below.trod laidOut (by kernel_rfl) (of_decide_eq_true (by kernel_rfl)) u bel l) trodAll_mk0),rfl,bel.frame _,fun h=>by cases h⟩
theorem over:Rows.trigAllRow.holds Tryz.pinned (OpenSpec.ofChange Rows.trigAllSpec):=
 OpenClaim.holds_of_wide 3 Tryz.f3 rfl rfl rfl rfl rfl rfl rfl ⟨rfl,rfl,rfl,rfl,rfl⟩ rfl rfl rfl rfl rfl (by kernel_rfl) func3 (by kernel_rfl)
  (of_decide_eq_true (by kernel_rfl)) (by unfold Func.isWrapper;first | (rw[if_pos (by decide +kernel)];kernel_rfl) | (rw[if_neg (by decide +kernel)];exact⟨rfl,rfl⟩))
  (fun os started H enc _=>lifted os started H enc)
theorem proved:Rows.TrigAllCardSaid:=
 Claim7.holds_tied_plain_at .later [] [.data,.data] true Rows.trigAllCard.stood.harness false
  over (fun _ h=>by cases h) (by kernel_rfl) (fun _ h=>by cases h) trigAll_row_tie rfl ⟨rfl,rfl⟩ (by kernel_rfl) rfl
  (fun f fn hf hfn=>by
   obtain rfl:f=3:=Option.some.inj ((show prog.funcNamed "pelorus/peloruslaw12.TrigAll" =some 3 by kernel_rfl).symm.trans hf) |>.symm
   obtain rfl:fn=Tryz.f3:=(Option.some.inj (func3.symm.trans hfn)).symm
   exact⟨by kernel_rfl,fun j t ht=>by
    rw[Tryz.params3]at ht
    have hm:t ∈ [26]:=by simpa using Array.mem_of_getElem? ht
    have a:([26].all fun u=>!prog.wantsStandIn u)=true:=by kernel_rfl
    exact(show prog.wantsStandIn t=false by simpa using List.all_eq_true.1 a t hm)⟩)
  (by kernel_rfl)
#print axioms proved
