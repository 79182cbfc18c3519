/-
  Contracts and words that the statement's proof rests on: Jr.
-/
import Derived.Test.YtpnmphofengoeaaGreatDoorYPab
import Derived.Test.YtpnmphofengoeaaGreatDoorYPag
/-
  The joint rule with bundled facts: what each operation of a region leaves is a fact that later memory keeps. No Go text.
-/
namespace Go.Proofs.YtpnmphofengoeaaGreatDoor.Jo
open Go Go.RowKit
set_option linter.unusedVariables false

/-- What is known of a value, kept while memory only grows. -/
structure Fact where
  P : Value → World → Prop
  keep : ∀ v w w', P v w → Below w.heap.size w w' → P v w'
def Fact.any : Fact := ⟨fun _ _ => True, fun _ _ _ h _ => h⟩
def Fact.eq (u : Value) : Fact := ⟨fun v _ => v = u, fun _ _ _ h _ => h⟩
/-- The value points to a new box of its own. -/
def Fact.bo (lo : Nat) (cs : Array Value) (T : TypeId) : Fact := ⟨fun v w => ∃ g, v = .pointer (some ⟨g, 0, none⟩) ∧ lo ≤ g ∧ Bo w g cs T, fun v w w' h b => by
  obtain ⟨g, e, hl, h⟩ := h
  exact ⟨g, e, hl, h.below b⟩⟩

def putl (vs : Nat → Value) (L : List (Option Tmp × Nat)) (a : Act) : Act := L.foldl (fun a x => a.put x.1 (vs x.2)) a
theorem base_putl (dst : Nat → Option Tmp) (vs : Nat → Value) : ∀ (l : List Nat) (a : Act), base dst vs l a = putl vs (l.map fun j => (dst j, j)) a
  | [], _ => rfl
  | j :: l, a => by rw [base_cons, base_putl dst vs l]; rfl
def dstOf (ds : List (Option Tmp)) (i : Nat) : Option Tmp := ds.getD i none
def depOf (ls : List (List Nat)) (i : Nat) : List Nat := ls.getD i []
def phi (F : List Fact) (i : Nat) (v : Value) (w : World) : Prop := (F.getD i Fact.any).P v w
def Grow (w w' : World) : Prop := Below w.heap.size w w'

section
variable {P : Program} {ops : Array Oper} {Q : Exit → Act → World → Prop} {a0 : Act} {T : List Nat} {ds : List (Option Tmp)} {ls : List (List Nat)} {k : Nat} {F : List Fact} {J : World → Prop}

theorem jcons {i : Nat} {o : Oper} {r : List Nat} {di : Option Tmp} {L : List (Option Tmp × Nat)} {f : Fact} (ho : ops[i]? = some o) (hdi : ds.getD i none = di) (hL : ((ls.getD i []).map fun j => (ds.getD j none, j)) = L) (hf : F.getD i Fact.any = f)
    (h : ∀ vs w, J w → (∀ j ∈ ls.getD i [], phi F j (vs j) w) → ∀ K : Act → World → Prop, Shut (∀ v w', f.P v w' → Grow w w' → K ((putl vs L a0).put di v) w') →
      if Region.wanted o (yielded ops (putl vs L a0).tmps) = true then Oper.wp P o (putl vs L a0) w K Q else K ((putl vs L a0).put o.dst undef) w)
    (hs : Steps P ops Q a0 (dstOf ds) (depOf ls) (phi F) J Grow r) : Steps P ops Q a0 (dstOf ds) (depOf ls) (phi F) J Grow (i :: r) := by
  refine Steps.cons ho (fun vs w hJ hd K hK => ?_) hs
  have e : base (dstOf ds) vs (depOf ls i) a0 = putl vs L a0 := by
    rw [base_putl, ← hL]
    rfl
  rw [e] at hK ⊢
  refine h vs w hJ hd K ?_
  intro v w' h1 h2
  have := hK.out v w' (by unfold phi; rw [hf]; exact h1) h2
  rwa [show dstOf ds i = di from hdi] at this

theorem region_joint {id fuel : Nat} {w : World} {L : List (Option Tmp × Nat)} (hm : P.follows .mixedOrders = true) (hok : ok .any ops T (dstOf ds) (depOf ls) k a0.tmps.size = true) (hnd : T.Nodup)
    (hL : (T.map fun j => (ds.getD j none, j)) = L) (hfu : ops.size - T.length = fuel)
    (hJs : ∀ w w', J w → Grow w w' → J w') (hJ : J w.drew)
    (step : Steps P ops (NoPanic Q) a0 (dstOf ds) (depOf ls) (phi F) J Grow T)
    (fin : ∀ vs w, J w → (∀ j ∈ T, phi F j (vs j) w) → wpAny P .any ops (NoPanic Q) fuel (mark T ops.size) (putl vs L a0) w) :
    (Code.region id ops true).wp P Q a0 w := by
  refine wp_region_noPanic ?_
  refine wp_region_joint (T := T) (dst := dstOf ds) (D := depOf ls) (k := k) (Φ := phi F) (J := J) (St := Grow) hm hok hnd (fun _ _ _ _ h => h) (fun i _ v w w' h b => (F.getD i Fact.any).keep v w w' h b) hJs hJ step ?_
  intro vs w hJ hd
  have e : base (dstOf ds) vs T a0 = putl vs L a0 := by
    rw [base_putl, ← hL]
    rfl
  rw [e, hfu]
  exact fin vs w hJ hd
theorem jdone {listed : Array Bool} {a : Act} {w : World} (hr : Region.ready .any ops listed = []) (h : Q .normal a w) : wpAny P .any ops (NoPanic Q) 0 listed a w := ⟨hr, h⟩
/-- One operation of what is left behind. -/
theorem jnext {i fuel : Nat} {o : Oper} {listed : Array Bool} {a : Act} {w : World} (hr : Region.ready .any ops listed = [i]) (ho : ops[i]? = some o)
    (h : ∀ K : Act → World → Prop, Shut (∀ a w, wpAny P .any ops (NoPanic Q) fuel (listed.setIfInBounds i true) a w → K a w) → if Region.wanted o (yielded ops a.tmps) = true then Oper.wp P o a w K (NoPanic Q) else K (a.put o.dst undef) w) :
    wpAny P .any ops (NoPanic Q) (fuel + 1) listed a w :=
  wpAny_ready hr (by simp) (AllReady.cons ho (fun K hK => h K (fun a w h => hK a w h)) AllReady.nil)
end
end Go.Proofs.YtpnmphofengoeaaGreatDoor.Jo
namespace Go.Proofs.YtpnmphofengoeaaGreatDoor
open Go.RowKit
set_option linter.unusedVariables false
open Go in
theorem Jo.jd {P : Program} {ops : Array Oper} {Q : Exit → Act → World → Prop} {a0 : Act} {ds : List (Option Tmp)} {ls : List (List Nat)} {F : List Jo.Fact} {J : World → Prop} (i : Nat) (di : Option Tmp) (L : List (Option Tmp × Nat)) (f : Jo.Fact) {o : Oper} {r : List Nat} (ho : ops[i]? = some o) (hdi : ds.getD i none = di) (hL : ((ls.getD i []).map fun j => (ds.getD j none, j)) = L) (hf : F.getD i Jo.Fact.any = f)
    (h : ∀ vs w, J w → (∀ j ∈ ls.getD i [], Jo.phi F j (vs j) w) → ∀ K : Act → World → Prop, Shut (∀ v w', f.P v w' → Jo.Grow w w' → K ((Jo.putl vs L a0).put di v) w') →
      if Region.wanted o (yielded ops (Jo.putl vs L a0).tmps) = true then Oper.wp P o (Jo.putl vs L a0) w K Q else K ((Jo.putl vs L a0).put o.dst undef) w)
    (hs : Jo.Steps P ops Q a0 (Jo.dstOf ds) (Jo.depOf ls) (Jo.phi F) J Jo.Grow r) : Jo.Steps P ops Q a0 (Jo.dstOf ds) (Jo.depOf ls) (Jo.phi F) J Jo.Grow (i :: r) := Jo.jcons ho hdi hL hf h hs
open Go in
def Jo.ad (φ : Nat → Value → World → Prop) (ds : List (Option Tmp)) (w : World) : List Nat → (List (Option Tmp × Value) → Prop) → Prop
  | [], k => k []
  | j :: L, k => ∀ v, φ j v w → Jo.ad φ ds w L fun l => k ((ds.getD j none, v) :: l)
open Go in
def Jo.pv (l : List (Option Tmp × Value)) (a : Act) : Act := l.foldl (fun a x => a.put x.1 x.2) a
open Go in
theorem Jo.ad_out {φ : Nat → Value → World → Prop} {ds : List (Option Tmp)} {w : World} (vs : Nat → Value) : ∀ (L : List Nat) (k : List (Option Tmp × Value) → Prop), Jo.ad φ ds w L k → (∀ j ∈ L, φ j (vs j) w) → k (L.map fun j => (ds.getD j none, vs j))
  | [], _, h, _ => h
  | j :: L, k, h, hd => Jo.ad_out vs L _ (h _ (hd _ (List.mem_cons_self ..))) fun p hp => hd p (List.mem_cons_of_mem _ hp)
open Go in
theorem Jo.pv_map (ds : List (Option Tmp)) (vs : Nat → Value) : ∀ (L : List Nat) (a : Act), Jo.pv (L.map fun j => (ds.getD j none, vs j)) a = Jo.putl vs (L.map fun j => (ds.getD j none, j)) a
  | [], _ => rfl
  | _ :: L, _ => Jo.pv_map ds vs L _
open Go in
theorem Jo.z : (∀ (l : List (Option Tmp × Value)) (a : Act) (d : Option Tmp) (v : Value), Jo.pv ((d, v) :: l) a = Jo.pv l (a.put d v)) ∧ (∀ a : Act, Jo.pv [] a = a) ∧ (∀ (a : Act) (d : Tmp) (v : Value), a.put (some d) v = { a with tmps := a.tmps.setIfInBounds d v }) ∧ (∀ (a : Act) (v : Value), a.put none v = a) ∧ (∀ (l : List Value) (i : Nat) (a : Value), l.toArray.setIfInBounds i a = (l.set i a).toArray) ∧ (∀ (x : Value) (xs : List Value) (a : Value), (x :: xs).set 0 a = a :: xs) ∧ (∀ (x : Value) (xs : List Value) (i : Nat) (a : Value), (x :: xs).set (i + 1) a = x :: xs.set i a) ∧ (∀ (x : Option Tmp) (l : List (Option Tmp)), (x :: l).getD 0 none = x) ∧ (∀ (x : Option Tmp) (l : List (Option Tmp)) (n : Nat), (x :: l).getD (n + 1) none = l.getD n none) :=
  ⟨fun _ _ _ _ => rfl, fun _ => rfl, fun _ _ _ => rfl, fun _ _ => rfl, fun _ _ _ => List.setIfInBounds_toArray .., fun _ _ _ => rfl, fun _ _ _ _ => rfl, fun _ _ => rfl, fun _ _ _ => rfl⟩
section
open Go
variable {P : Program} {ops : Array Oper} {Q : Exit → Act → World → Prop} {a0 : Act} {ds : List (Option Tmp)} {ls : List (List Nat)}
theorem Jo.jm {F : List Jo.Fact} {J : World → Prop} {i : Nat} {o : Oper} {r : List Nat} (ho : ops[i]? = some o)
    (h : ∀ w, J w → Jo.ad (Jo.phi F) ds w (ls.getD i []) fun l => ∀ K : Act → World → Prop, Shut (∀ v w', Jo.phi F i v w' → Jo.Grow w w' → K ((Jo.pv l a0).put (ds.getD i none) v) w') →
      if Region.wanted o (yielded ops (Jo.pv l a0).tmps) = true then Oper.wp P o (Jo.pv l a0) w K Q else K ((Jo.pv l a0).put o.dst undef) w)
    (hs : Jo.Steps P ops Q a0 (Jo.dstOf ds) (Jo.depOf ls) (Jo.phi F) J Jo.Grow r) : Jo.Steps P ops Q a0 (Jo.dstOf ds) (Jo.depOf ls) (Jo.phi F) J Jo.Grow (i :: r) :=
  Jo.jcons ho rfl rfl rfl (fun vs w hJ hd => by
    have := Jo.ad_out vs _ _ (h w hJ) hd
    simp only [Jo.pv_map] at this
    exact this) hs
theorem Jo.rk {id : Nat} {w : World} (T : List Nat) (ds : List (Option Tmp)) (ls : List (List Nat)) (k : Nat) (fuel : Nat) (F : List Jo.Fact)
    (hm : P.follows .mixedOrders = true) (hok : Jo.ok .any ops T (Jo.dstOf ds) (Jo.depOf ls) k a0.tmps.size = true) (hnd : T.Nodup) (hfu : ops.size - T.length = fuel)
    (step : Jo.Steps P ops (NoPanic Q) a0 (Jo.dstOf ds) (Jo.depOf ls) (Jo.phi F) (fun wj => Below w.heap.size w wj) Jo.Grow T)
    (fin : ∀ wj, Below w.heap.size w wj → Jo.ad (Jo.phi F) ds wj T fun l => True → wpAny P .any ops (NoPanic Q) fuel (Jo.mark T ops.size) (Jo.pv l a0) wj) :
    (Code.region id ops true).wp P Q a0 w :=
  Jo.region_joint hm hok hnd rfl hfu (fun _ _ h b => bt h b) ((Below.refl _ _).drew) step fun vs wj hJ hd => by
    have := Jo.ad_out vs _ _ (fin wj hJ) hd
    rw [Jo.pv_map] at this
    exact this trivial
end
abbrev Jo.q4 (D : Int) (s : Bool) (M E : Int) : Jo.Fact := Jo.Fact.eq (.agg #[.int .i64 D, .bool s, .int .u64 M, .int .i64 E])
abbrev Jo.q9 (e : Bool) (D : Int) (s : Bool) (M E : Int) (D' : Int) (s' : Bool) (M' E' : Int) : Jo.Fact := Jo.Fact.eq (.agg #[.bool e, .int .i64 D, .bool s, .int .u64 M, .int .i64 E, .int .i64 D', .bool s', .int .u64 M', .int .i64 E'])
abbrev Jo.qp (g i : Nat) : Jo.Fact := Jo.Fact.eq (.pointer (some ⟨g, i, none⟩))
abbrev Jo.qb (b : Bool) : Jo.Fact := Jo.Fact.eq (.bool b)
abbrev Jo.qi (n : Int) : Jo.Fact := Jo.Fact.eq (.int .i64 n)
abbrev Jo.qu : Jo.Fact := Jo.Fact.eq undef
theorem br (B : Nat) (w : World) : Below B w w := Below.refl B w
end Go.Proofs.YtpnmphofengoeaaGreatDoor
