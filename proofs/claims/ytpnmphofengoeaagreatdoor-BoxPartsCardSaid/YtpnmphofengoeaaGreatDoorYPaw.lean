/-
  Contracts and words that the statement's proof rests on: Xd.
-/
import Derived.RangeFuncBound
import Derived.RangeFuncCalls
import Derived.RangeFuncLeaves
import Derived.RangeFuncNested
import Derived.Test.YtpnmphofengoeaaGreatDoorYPao
namespace Go.Proofs.YtpnmphofengoeaaGreatDoor.Jo
open Go Go.RowKit
set_option linter.unusedVariables false

def OnlyN (Q : Exit → Act → World → Prop) : Exit → Act → World → Prop
  | .normal, a, w => Q .normal a w
  | _, _, _ => False
def noDefer (ops : Array Oper) : Bool := ops.all fun o => match o.op with | .defer _ => false | _ => true
theorem noDefer_spec {ops : Array Oper} (h : noDefer ops = true) {i : Nat} {o : Oper} (ho : ops[i]? = some o) : ∀ c, o.op ≠ .defer c := by
  intro c e
  have h1 := Array.all_eq_true.1 h i (Array.getElem?_eq_some_iff.1 ho).1
  have h2 : ops[i]'(Array.getElem?_eq_some_iff.1 ho).1 = o := (Array.getElem?_eq_some_iff.1 ho).2
  rw [h2] at h1
  simp [e] at h1
section
variable {P : Program} {ops : Array Oper} {Q Q' : Exit → Act → World → Prop} {l n : Nat}
theorem ops_round (hnd : noDefer ops = true) (hq : ∀ e a w, Q' e a w → e = .normal ∧ Q .normal a w) : ∀ (is : List Nat) (a : Act) (w : World), wpOps P ops Q' is a w → wpOpsIn (Fence.wide.inRound l) n P ops Q is a w
  | [], a, w, h => (hq _ _ _ h).2
  | i :: rest, a, w, h => by
    have hlo : ¬ LetsOut Q' := by
      rintro ⟨a, w, c⟩
      have := (hq _ _ _ c).1
      cases this
    have ih := ops_round hnd hq rest
    unfold wpOps at h
    unfold wpOpsIn
    rcases ho : ops[i]? with _ | o
    · simp only [ho] at h ⊢; exact ih _ _ h
    · simp only [ho] at h ⊢
      split
      · rename_i hw
        simp only [hw, if_true] at h
        rcases h with h | h
        · refine ⟨fun _ _ => trivial, ?_⟩
          show Oper.uponIn _ _ _ _ _ _ _ ((Oper.semAt (some l) a.eval o).run P w)
          rw [Oper.semAt_some l a.eval o (noDefer_spec hnd ho)]
          unfold Oper.wp at h
          generalize (execOp a.eval o).run P w = r at h ⊢
          cases r with
          | ok x w' =>
            cases x <;> simp only [Oper.upon, Oper.uponIn] at h ⊢
            case value u => exact ih _ _ h
            case skip => exact ih _ _ h
            case defer d => exact ih _ _ h
            case enter f args =>
              refine ⟨fun c => absurd c (by simp [Fence.wide, Fence.inRound]), CallsIn.inRound l (callsIn_wide.2 (Calls.mono h fun e w'' he => ?_))⟩
              cases e with
              | returned u => exact ih _ _ he
              | panicked c => exact absurd (hq _ _ _ he).1 (fun c => by cases c)
              | outgrown => exact absurd he hlo
            case row row args =>
              refine ⟨fun c => absurd c (by simp [Fence.wide, Fence.inRound]), fun c cs _ => ?_⟩
              obtain ⟨v, w2, hk, hs⟩ := h c cs; exact ⟨v, w2, ih _ _ hk, stepsIn_wide.2 hs⟩
          | halt x w' =>
            cases x <;> simp only [Oper.upon, Oper.uponIn] at h ⊢
            case panic u => exact absurd (hq _ _ _ h).1 (fun c => by cases c)
        · exact absurd h.2 hlo
      · rename_i hw
        simp only [hw] at h
        exact ⟨fun _ _ => trivial, ih _ _ h⟩
theorem only_imp (e : Exit) (a : Act) (w : World) (h : NoPanic (OnlyN Q) e a w) : e = .normal ∧ Q .normal a w := by
  cases e <;> first | exact ⟨rfl, h⟩ | exact (h : False).elim
variable {a0 : Act} {T : List Nat} {ds : List (Option Tmp)} {ls : List (List Nat)} {k : Nat} {F : List Fact} {J : World → Prop}
theorem region_round {id fuel : Nat} {w : World} {L : List (Option Tmp × Nat)} (hm : P.follows .mixedOrders = true) (hok : ok .any ops T (dstOf ds) (depOf ls) k a0.tmps.size = true) (hnd : T.Nodup)
    (hL : (T.map fun j => (ds.getD j none, j)) = L) (hfu : ops.size - T.length = fuel)
    (hJs : ∀ w w', J w → Grow w w' → J w') (hJ : J w.drew)
    (step : Steps P ops (NoPanic (OnlyN Q)) a0 (dstOf ds) (depOf ls) (phi F) J Grow T)
    (fin : ∀ vs w, J w → (∀ j ∈ T, phi F j (vs j) w) → wpAny P .any ops (NoPanic (OnlyN Q)) fuel (mark T ops.size) (putl vs L a0) w) (hdf : noDefer ops = true) :
    (Code.region id ops true).wpIn (Fence.wide.inRound l) n P Q a0 w := by
  refine wpIn_region_draw fun t => ops_round hdf only_imp _ _ _ ?_
  simp only [Region.schedule, hm, Bool.true_or, if_true]; refine wpAny_sound ops.size t _ _ _ ?_
  refine wpAny_joint (T := T) (dst := dstOf ds) (D := depOf ls) (k := k) (Φ := phi F) (J := J) (St := Grow) _ hok hnd (fun _ _ _ _ h => h) (fun i _ v w w' h b => (F.getD i Fact.any).keep v w w' h b) hJs hJ step ?_
  intro vs w hJ hd
  have e : base (dstOf ds) vs T a0 = putl vs L a0 := by
    rw [base_putl, ← hL]
    rfl
  rw [e, hfu]; exact fin vs w hJ hd
end
end Go.Proofs.YtpnmphofengoeaaGreatDoor.Jo
