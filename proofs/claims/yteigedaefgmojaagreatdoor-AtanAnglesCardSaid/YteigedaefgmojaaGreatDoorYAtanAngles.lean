/-
  AtanAngles (layer 13): the angle of any point, and those of all tangents of an interval, are the document's; if both tables of math/bits read as the text lays them.
-/
import Derived.Below
import Derived.ChangeOld
import Derived.LaidLaws
import Derived.Lay
import Derived.OpenShut
import Derived.ProofKit
import Derived.SevenTiedAt
import Derived.ShutString
import Derived.Stop.Joined
import Derived.Test.YteigedaefgmojaaGreatDoorCards
import Derived.Test.YteigedaefgmojaaGreatDoorRows
import Derived.Test.YteigedaefgmojaaGreatDoorTie
import Derived.WalkKit
import Derived.Test.YteigedaefgmojaaGreatDoorYUbg
import Derived.Test.YteigedaefgmojaaGreatDoorYUbh
import Derived.Test.YteigedaefgmojaaGreatDoorYAtanAnglesW
namespace Go.Proofs.YteigedaefgmojaaGreatDoor.atanAngles
open Go.Proofs.Tryz
open Go.ChangeShapes Go.WideShapes Go.ChangeAt Go.RowKit
set_option linter.unusedVariables false
theorem own:ownKnob prog.godebug=none:=by kernel_rfl
theorem laidOut:laidOutB prog=true:=by kernel_rfl
set_option maxRecDepth 100000 in
theorem lifted (os:Os)(started:os.Started)(H:Type)(enc:TypeId × Value->H):
  ReturnsInHanded {} Tryz.checked os 4 .any (fun w args=>(Rows.atanAnglesSpec.pre enc prog Tryz.f4 [] false w args/\laidMetH prog Rows.atanAnglesRow.laid w)/\sizedMet enc prog Tryz.f4 (OpenSpec.ofChange Rows.atanAnglesSpec) false w args)
   (Rows.atanAnglesSpec.post enc prog Tryz.f4 false true false false):=by
 refine returnsInHanded_of_change_and (C:=Tryz.checked) (X:=fun w _=>laidMetH prog Rows.atanAnglesRow.laid w) (fun _ _ _ hh h=>h.of_heap hh) own started (by kernel_rfl) func4
  (ChangeSpec.witness_shaped (enc:=enc) (C:=Tryz.checked) (os:=os) (X:=fun w _=>laidMetH prog Rows.atanAnglesRow.laid w) false (World.laidAll prog os Rows.atanAnglesRow.laid) #[.agg #[.int .i64 0,.bool false,.int .u64 0,.int .i64 0],.agg #[.int .i64 0,.bool false,.int .u64 0,.int .i64 0],.agg #[.bool false,.int .i64 0,.bool false,.int .u64 0,.int .i64 0,.int .i64 0,.bool false,.int .u64 0,.int .i64 0]] 8 rfl (World.shaped_of_ZipB (by kernel_rfl) (by kernel_rfl)) (by kernel_rfl) (by kernel_rfl) (by kernel_rfl) (by
   rw[MakeChecks.laidMetH_plain _ _ _ (by kernel_rfl)];exact laidMet_laidAll _ (by kernel_rfl) (by kernel_rfl))) ?_
 intro W base args ds gs d b y _ _ f _
 rw[MakeChecks.laidMetH_plain _ _ _ (by kernel_rfl)]at f
 have T:dL W:=IL (rest:=_) f
 have g:Tb W:=J7 f (.tail _ (.head _))
 have a:∀(j:Nat) t v,Tryz.f4.params[j]?=some t->args[j]?=some v->Value.okWide prog W .any base t v:=b
 have i:=y
 obtain⟨p,q,c,U,rfl,V,Y⟩:=y
 have u:DataW.TrodAll enc prog W 0 (fun _=>true) true Tryz.f4.params.toList args.toList ds p:=c
 rw[Tryz.params4]at u a;obtain⟨D,bA,d0,Q,p0,q0,k,rfl,rfl,s,r0⟩:=trodAll_cons u;obtain⟨E,bB,d1,R,Z,q1,rfl,rfl,rfl,h1,r1⟩:=trodAll_cons r0;obtain⟨v2,bC,d2,S,p2,q2,rfl,rfl,rfl,h2,r2⟩:=trodAll_cons r1;obtain⟨rfl,rfl,rfl⟩:=trodAll_nil r2
 obtain rfl:args= #[D,E,v2]:=by cases args;simp_all
 obtain⟨rfl,rfl⟩:=trodVars_none U;have z:=s
 have l:∀x ∈ p0,x.block < W.heap.size:=by obtain⟨m,hm⟩:=z;exact DataW.trod_lt m _ _ _ hm
 obtain⟨F,s0,M,I,rfl,w0,u0⟩:=rj (a 0 24 D rfl rfl) s;have A:=h1
 have n:∀x ∈ Z,x.block < W.heap.size:=by obtain⟨m,hm⟩:=A;exact DataW.trod_lt m _ _ _ hm
 obtain⟨D1,s1,N,J,rfl,w1,u1⟩:=rj (a 1 24 E rfl rfl) h1;have B:=h2
 have o:∀x ∈ p2,x.block < W.heap.size:=by obtain⟨m,hm⟩:=B;exact DataW.trod_lt m _ _ _ hm
 obtain⟨e2,G,s2,M2,E2,L,g2,O,P,rfl,u2,r⟩:=Fo (a 2 26 v2 rfl rfl) h2;clear c b
 refine(atanAngles_walk F s0 M I D1 s1 N J e2 G s2 M2 E2 L g2 O P W T g w0 u0 w1 u1 u2 r).mono fun e W' ⟨he,bel⟩=>?_
 subst he
 exact⟨_,rfl,_,_,_,[],_,[],i,trodAll_mk1 (shut_bool Tryz.underlying4 _),(trodAll_cons_mk (Below.trod laidOut (by kernel_rfl) (of_decide_eq_true (by kernel_rfl)) z bel l) (trodAll_cons_mk (Below.trod laidOut (by kernel_rfl) (of_decide_eq_true (by kernel_rfl)) A bel n) (trodAll_cons_mk (Below.trod laidOut (by kernel_rfl) (of_decide_eq_true (by kernel_rfl)) B bel o) trodAll_mk0))),rfl,bel.frame _,fun h=>by cases h⟩
theorem over:Rows.atanAnglesRow.holds Tryz.pinned (OpenSpec.ofChange Rows.atanAnglesSpec):=
 OpenClaim.holds_of_wide 4 Tryz.f4 rfl rfl rfl rfl rfl rfl rfl ⟨rfl,rfl,rfl,rfl,rfl⟩ rfl rfl rfl rfl rfl (by kernel_rfl) func4 (by kernel_rfl)
  (of_decide_eq_true (by kernel_rfl)) (by unfold Func.isWrapper;first | (rw[if_pos (by decide +kernel)];kernel_rfl) | (rw[if_neg (by decide +kernel)];exact⟨rfl,rfl⟩))
  (fun os started H enc _=>lifted os started H enc)
theorem proved:Rows.AtanAnglesCardSaid:=
 Claim7.holds_tied_plain_at .later [] [.data,.data] true Rows.atanAnglesCard.stood.harness false
  over (fun _ h=>by cases h) (by kernel_rfl) (fun _ h=>by cases h) atanAngles_row_tie rfl ⟨rfl,rfl⟩ (by kernel_rfl) rfl
  (fun f fn hf hfn=>by
   obtain rfl:f=4:=Option.some.inj ((show prog.funcNamed "pelorus/peloruslaw13.AtanAngles" =some 4 by kernel_rfl).symm.trans hf) |>.symm
   obtain rfl:fn=Tryz.f4:=(Option.some.inj (func4.symm.trans hfn)).symm
   exact⟨by kernel_rfl,fun j t ht=>by
    rw[Tryz.params4]at ht
    have hm:t ∈ [24,24,26]:=by simpa using Array.mem_of_getElem? ht
    have a:([24,24,26].all fun u=>!prog.wantsStandIn u)=true:=by kernel_rfl
    exact(show prog.wantsStandIn t=false by simpa using List.all_eq_true.1 a t hm)⟩)
  (by kernel_rfl)
#print axioms proved
