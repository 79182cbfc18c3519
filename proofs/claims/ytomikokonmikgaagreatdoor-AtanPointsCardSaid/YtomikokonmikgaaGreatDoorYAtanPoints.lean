/-
  AtanPoints (layer 13): the angle of any tangent is the document's, and so is the sum of the series for a whole number of at most twenty limbs; if both tables of math/bits read as the text lays them.
-/
import Derived.Below
import Derived.BigQuiet
import Derived.Carry
import Derived.ChangeOld
import Derived.ChangeSame
import Derived.Deep.DeepCutAuto
import Derived.Deep.Draws
import Derived.Deep.MidRow
import Derived.Deep.QuietTactic
import Derived.Deep.RegionHeld3
import Derived.Deep.RegionWith
import Derived.Deep.Slices
import Derived.Deep.Strs
import Derived.IntWalk
import Derived.LaidHandle
import Derived.LaidLaws
import Derived.Laws.Bits64b
import Derived.Laws.CopyOwn
import Derived.Laws.Externs
import Derived.Laws.MakeOwn
import Derived.Laws.OwnMore
import Derived.Laws.Rows
import Derived.Lay
import Derived.Lib.BitFns
import Derived.Lib.Hide
import Derived.Lib.LaidTab
import Derived.Lib.Mul64
import Derived.Lib.SmallJoins
import Derived.Lib.TrailingZeros
import Derived.MakeChecks
import Derived.Maps.AppendAt
import Derived.OpenShut
import Derived.ProofKit
import Derived.SevenTiedAt
import Derived.ShutString
import Derived.StillTailTactics
import Derived.Stop.Joined
import Derived.Test.YtomikokonmikgaaGreatDoorCards
import Derived.Test.YtomikokonmikgaaGreatDoorRows
import Derived.Test.YtomikokonmikgaaGreatDoorTie
import Derived.WalkKit
import Derived.WalkLawsBesides
import Derived.WalkSpells
import Derived.Test.YtomikokonmikgaaGreatDoorYTav
import Derived.Test.YtomikokonmikgaaGreatDoorYTbh
import Derived.Test.YtomikokonmikgaaGreatDoorYAtanPointsW
namespace Go.Proofs.YtomikokonmikgaaGreatDoor.atanPoints
open Go.Proofs.Tryz
open Go.ChangeShapes Go.WideShapes Go.ChangeAt Go.RowKit
set_option linter.unusedVariables false
theorem own:ownKnob prog.godebug=none:=by kernel_rfl
theorem laidOut:laidOutB prog=true:=by kernel_rfl
set_option maxRecDepth 100000 in
theorem lifted (os:Os)(started:os.Started)(H:Type)(enc:TypeId × Value->H):
  ReturnsInHanded {} Tryz.checked os 5 .any (fun w args=>(Rows.atanPointsSpec.pre enc prog Tryz.f5 [] false w args/\laidMetH prog Rows.atanPointsRow.laid w)/\sizedMet enc prog Tryz.f5 (OpenSpec.ofChange Rows.atanPointsSpec) false w args)
   (Rows.atanPointsSpec.post enc prog Tryz.f5 false true false false):=by
 refine returnsInHanded_of_change_and (C:=Tryz.checked) (X:=fun w _=>laidMetH prog Rows.atanPointsRow.laid w) (fun _ _ _ hh h=>h.of_heap hh) own started (by kernel_rfl) func5
  (ChangeSpec.witness_shaped (enc:=enc) (C:=Tryz.checked) (os:=os) (X:=fun w _=>laidMetH prog Rows.atanPointsRow.laid w) false (World.laidAll prog os Rows.atanPointsRow.laid) #[.agg #[.int .i64 0,.bool false,.int .u64 0,.int .i64 0],.agg #[.bool false,.slice none 0 0]] 8 rfl (World.shaped_of_ZipB (by kernel_rfl) (by kernel_rfl)) (by kernel_rfl) (by kernel_rfl) (by kernel_rfl) (by
   rw[MakeChecks.laidMetH_plain _ _ _ (by kernel_rfl)];exact laidMet_laidAll _ (by kernel_rfl) (by kernel_rfl))) ?_
 intro W base args ds gs g b y _ _ i _
 rw[MakeChecks.laidMetH_plain _ _ _ (by kernel_rfl)]at i
 have L:dQ W:=Hy (rest:=_) i
 have k:Tb W:=Jt i (.tail _ (.head _))
 have a:∀(j:Nat) t v,Tryz.f5.params[j]?=some t->args[j]?=some v->Value.okWide prog W .any base t v:=b
 have l:=y
 obtain⟨p,q,d,M,rfl,N,O⟩:=y
 have u:DataW.TrodAll enc prog W 0 (fun _=>true) true Tryz.f5.params.toList args.toList ds p:=d
 rw[Tryz.params5]at u a;obtain⟨B,U,Z,I,p0,q0,n,rfl,rfl,s,Q⟩:=trodAll_cons u;obtain⟨D,V,d1,J,P,q1,rfl,rfl,rfl,h1,R⟩:=trodAll_cons Q;obtain⟨rfl,rfl,rfl⟩:=trodAll_nil R
 obtain rfl:args= #[B,D]:=by cases args;simp_all
 obtain⟨rfl,rfl⟩:=trodVars_none M;have z:=s
 have o:∀x ∈ p0,x.block < W.heap.size:=by obtain⟨m,hm⟩:=z;exact DataW.trod_lt m _ _ _ hm
 obtain⟨E,S,G,F,rfl,w0,T⟩:=Bp (a 0 24 B rfl rfl) s;have A:=h1
 have r:∀x ∈ P,x.block < W.heap.size:=by obtain⟨m,hm⟩:=A;exact DataW.trod_lt m _ _ _ hm
 obtain⟨s1,a1,f,c,Y,rfl,w1⟩:=sj (a 1 27 D rfl rfl) h1;clear d b
 refine(atanPoints_walk E S G F s1 a1 f c Y W L k w0 T w1).mono fun e W' ⟨he,bel⟩=>?_
 subst he
 exact⟨_,rfl,_,_,_,[],_,[],l,trodAll_mk1 (shut_bool Tryz.underlying4 _),(trodAll_cons_mk (Below.trod laidOut (by kernel_rfl) (of_decide_eq_true (by kernel_rfl)) z bel o) (trodAll_cons_mk (Below.trod laidOut (by kernel_rfl) (of_decide_eq_true (by kernel_rfl)) A bel r) trodAll_mk0)),rfl,bel.frame _,fun h=>by cases h⟩
theorem over:Rows.atanPointsRow.holds Tryz.pinned (OpenSpec.ofChange Rows.atanPointsSpec):=
 OpenClaim.holds_of_wide 5 Tryz.f5 rfl rfl rfl rfl rfl rfl rfl ⟨rfl,rfl,rfl,rfl,rfl⟩ rfl rfl rfl rfl rfl (by kernel_rfl) func5 (by kernel_rfl)
  (of_decide_eq_true (by kernel_rfl)) (by unfold Func.isWrapper;first | (rw[if_pos (by decide +kernel)];kernel_rfl) | (rw[if_neg (by decide +kernel)];exact⟨rfl,rfl⟩))
  (fun os started H enc _=>lifted os started H enc)
theorem proved:Rows.AtanPointsCardSaid:=
 Claim7.holds_tied_plain_at .later [] [.data,.data] true Rows.atanPointsCard.stood.harness false
  over (fun _ h=>by cases h) (by kernel_rfl) (fun _ h=>by cases h) atanPoints_row_tie rfl ⟨rfl,rfl⟩ (by kernel_rfl) rfl
  (fun f fn hf hfn=>by
   obtain rfl:f=5:=Option.some.inj ((show prog.funcNamed "pelorus/peloruslaw13.AtanPoints" =some 5 by kernel_rfl).symm.trans hf) |>.symm
   obtain rfl:fn=Tryz.f5:=(Option.some.inj (func5.symm.trans hfn)).symm
   exact⟨by kernel_rfl,fun j t ht=>by
    rw[Tryz.params5]at ht
    have hm:t ∈ [24,27]:=by simpa using Array.mem_of_getElem? ht
    have a:([24,27].all fun u=>!prog.wantsStandIn u)=true:=by kernel_rfl
    exact(show prog.wantsStandIn t=false by simpa using List.all_eq_true.1 a t hm)⟩)
  (by kernel_rfl)
#print axioms proved
