/-
  Contracts and words that the statement's proof rests on: Js, Vn, Km, Ka, Kb, Kc, Kd, Ke, Kn.
-/
import Derived.Deep.DeepCutAuto
import Derived.Test.YtpnmphofengoeaaGreatDoorYPah
import Derived.Test.YtpnmphofengoeaaGreatDoorYPan
/-
  Facts of values for the joint rule: whole numbers, limbs, numbers times powers of two; and what a store into a box leaves.
-/
namespace Go.Proofs.YtpnmphofengoeaaGreatDoor
open Go.RowKit
set_option linter.unusedVariables false

def Jo.Fact.wn (z : Int) (K : Nat) : Jo.Fact := ⟨fun v w => ∃ s A n c, v = .agg #[.bool s, .slice A n c] ∧ Wn w s A n c z ∧ n ≤ K, fun v w w' h b => by
  obtain ⟨s, A, n, c, e, h, k⟩ := h
  exact ⟨s, A, n, c, e, h.below b, k⟩⟩
def Jo.Fact.nm (a K : Nat) : Jo.Fact := ⟨fun v w => ∃ A n c, v = .slice A n c ∧ Nm w A n c a ∧ n ≤ K, fun v w w' h b => by
  obtain ⟨A, n, c, e, h, k⟩ := h
  exact ⟨A, n, c, e, h.below b, k⟩⟩
def Jo.Fact.dy (N E : Int) (K : Nat) : Jo.Fact := ⟨fun v w => ∃ s A n c, v = .agg #[.bool s, .slice A n c, .int .i64 E] ∧ Wn w s A n c N ∧ n ≤ K, fun v w w' h b => by
  obtain ⟨s, A, n, c, e, h, k⟩ := h
  exact ⟨s, A, n, c, e, h.below b, k⟩⟩
theorem Bo.at {w : World} {g : Nat} {cs : Array Value} {T : TypeId} (h : Bo w g cs T) {i : Nat} {v : Value} (e : cs[i]? = some v) : w.cell? ⟨g, i, none⟩ = some v := (h.cell i).trans e

/-- No cell is a table's byte. -/
def no8 (v : Value) : Bool := match v with
  | .int .u8 _ => false
  | _ => true
/-- The box g is stored anew, nothing else. -/
def StN (w w' : World) (g : Nat) (old new : Array Value) (T : TypeId) : Prop :=
  Bo w g old T ∧ Bo w' g new T ∧ (∀ k, k ≠ g → w'.heap[k]? = w.heap[k]?) ∧ ∀ B a, B ≤ g → Below B a w → Below B a w'
section
variable {w w' : World} {g : Nat} {old new : Array Value} {T : TypeId}
theorem StN.box (S : StN w w' g old new T) : Bo w' g new T := S.2.1
theorem StN.mk3 {a b c : Value} (X : Bo w g #[a, b, c] T) (u v t : Value) : StN w (((w.setCell ⟨g, 0, none⟩ u).setCell ⟨g, 1, none⟩ v).setCell ⟨g, 2, none⟩ t) g #[a, b, c] #[u, v, t] T :=
  ⟨X, by simpa using ((X.set 0 u).set 1 v).set 2 t, fun k hk => by rw [Below.heap_setCell _ _ _ _ hk, Below.heap_setCell _ _ _ _ hk, Below.heap_setCell _ _ _ _ hk], fun B a hg h => st3 h hg u v t⟩
theorem StN.mk2 {a b : Value} (X : Bo w g #[a, b] T) (u v : Value) : StN w ((w.setCell ⟨g, 0, none⟩ u).setCell ⟨g, 1, none⟩ v) g #[a, b] #[u, v] T :=
  ⟨X, by simpa using (X.set 0 u).set 1 v, fun k hk => by rw [Below.heap_setCell _ _ _ _ hk, Below.heap_setCell _ _ _ _ hk], fun B a hg h => st2 h hg u v⟩
theorem StN.below (S : StN w w' g old new T) {B : Nat} {a : World} (h : Below B a w) (hg : B ≤ g) : Below B a w' := S.2.2.2 B a hg h
theorem Bo.stn {k : Nat} {cs : Array Value} {R : TypeId} (X : Bo w k cs R) (S : StN w w' g old new T) (h : k ≠ g) : Bo w' k cs R := X.keep (S.2.2.1 k h)
theorem sl_stn {b : Nat} {B : Option Addr} {m d : Nat} {xs : List Nat} (h : Sl w b B m d xs) (S : StN w w' g old new T) (hn : old.all no32 = true) : Sl w' b B m d xs :=
  h.keep fun hm => S.2.2.1 _ (fun e => by
    obtain ⟨o, _, hc⟩ := h.at hm
    have := hc 0 hm
    rw [e] at this
    exact S.1.no hn this)
theorem Nm.stn {B : Option Addr} {m d a : Nat} (h : Nm w B m d a) (S : StN w w' g old new T) (hn : old.all no32 = true) : Nm w' B m d a := by
  obtain ⟨b, h⟩ := h
  exact ⟨b, sl_stn h S hn⟩
theorem Wn.stn {s : Bool} {B : Option Addr} {m d : Nat} {z : Int} (h : Wn w s B m d z) (S : StN w w' g old new T) (hn : old.all no32 = true) : Wn w' s B m d z := ⟨h.1.stn S hn, h.2⟩
end
end Go.Proofs.YtpnmphofengoeaaGreatDoor
namespace Go.Proofs.YtpnmphofengoeaaGreatDoor
open Go.RowKit
set_option linter.unusedVariables false
theorem Bo.a {w : World} {g : Nat} {cs : Array Value} {T : TypeId} (h : Bo w g cs T) (i : Nat) (v : Value) (e : cs[i]? = some v) : w.cell? ⟨g, i, none⟩ = some v := h.at e
theorem Bo.ce2 {w : World} {g : Nat} {cs : Array Value} {T : TypeId} (h : Bo w g cs T) {v0 v1 : Value} (e0 : cs[0]? = some v0) (e1 : cs[1]? = some v1) : w.cell? ⟨g, 0, none⟩ = some v0 ∧ w.cell? ⟨g, 1, none⟩ = some v1 := ⟨h.at e0, h.at e1⟩
theorem Bo.ce3 {w : World} {g : Nat} {cs : Array Value} {T : TypeId} (h : Bo w g cs T) {v0 v1 v2 : Value} (e0 : cs[0]? = some v0) (e1 : cs[1]? = some v1) (e2 : cs[2]? = some v2) : w.cell? ⟨g, 0, none⟩ = some v0 ∧ w.cell? ⟨g, 1, none⟩ = some v1 ∧ w.cell? ⟨g, 2, none⟩ = some v2 := ⟨h.at e0, h.at e1, h.at e2⟩
theorem Bo.ce4 {w : World} {g : Nat} {cs : Array Value} {T : TypeId} (h : Bo w g cs T) {v0 v1 v2 v3 : Value} (e0 : cs[0]? = some v0) (e1 : cs[1]? = some v1) (e2 : cs[2]? = some v2) (e3 : cs[3]? = some v3) : w.cell? ⟨g, 0, none⟩ = some v0 ∧ w.cell? ⟨g, 1, none⟩ = some v1 ∧ w.cell? ⟨g, 2, none⟩ = some v2 ∧ w.cell? ⟨g, 3, none⟩ = some v3 := ⟨h.at e0, h.at e1, h.at e2, h.at e3⟩
theorem Bo.ce9 {w : World} {g : Nat} {cs : Array Value} {T : TypeId} (h : Bo w g cs T) {v0 v1 v2 v3 v4 v5 v6 v7 v8 : Value} (e0 : cs[0]? = some v0) (e1 : cs[1]? = some v1) (e2 : cs[2]? = some v2) (e3 : cs[3]? = some v3) (e4 : cs[4]? = some v4) (e5 : cs[5]? = some v5) (e6 : cs[6]? = some v6) (e7 : cs[7]? = some v7) (e8 : cs[8]? = some v8) : w.cell? ⟨g, 0, none⟩ = some v0 ∧ w.cell? ⟨g, 1, none⟩ = some v1 ∧ w.cell? ⟨g, 2, none⟩ = some v2 ∧ w.cell? ⟨g, 3, none⟩ = some v3 ∧ w.cell? ⟨g, 4, none⟩ = some v4 ∧ w.cell? ⟨g, 5, none⟩ = some v5 ∧ w.cell? ⟨g, 6, none⟩ = some v6 ∧ w.cell? ⟨g, 7, none⟩ = some v7 ∧ w.cell? ⟨g, 8, none⟩ = some v8 := ⟨h.at e0, h.at e1, h.at e2, h.at e3, h.at e4, h.at e5, h.at e6, h.at e7, h.at e8⟩
theorem Bo.en1 {w w1 : World} {c0 : Array Value} {T0 : TypeId} (h : w.alloc (.cells c0 T0) = w1) : Bo w1 (w.heap.size) c0 T0 ∧ RowKit.Hid (Below w.heap.size w w1) := h ▸ ⟨(Bo.newAt (w) (g := w.heap.size) (by simp) c0 T0), Lib.hid (bel1 w _)⟩
theorem Bo.en2 {w w1 : World} {c0 : Array Value} {T0 : TypeId} {c1 : Array Value} {T1 : TypeId} (h : (w.alloc (.cells c0 T0)).alloc (.cells c1 T1) = w1) : Bo w1 (w.heap.size) c0 T0 ∧ Bo w1 (w.heap.size + 1) c1 T1 ∧ RowKit.Hid (Below w.heap.size w w1) := h ▸ ⟨(Bo.newAt (w) (g := w.heap.size) (by simp) c0 T0).below (bel1 _ _), (Bo.newAt (w.alloc (.cells c0 T0)) (g := w.heap.size + 1) (by simp) c1 T1), Lib.hid (bel2 w _ _)⟩
theorem Bo.en3 {w w1 : World} {c0 : Array Value} {T0 : TypeId} {c1 : Array Value} {T1 : TypeId} {c2 : Array Value} {T2 : TypeId} (h : ((w.alloc (.cells c0 T0)).alloc (.cells c1 T1)).alloc (.cells c2 T2) = w1) : Bo w1 (w.heap.size) c0 T0 ∧ Bo w1 (w.heap.size + 1) c1 T1 ∧ Bo w1 (w.heap.size + 1 + 1) c2 T2 ∧ RowKit.Hid (Below w.heap.size w w1) := h ▸ ⟨(Bo.newAt (w) (g := w.heap.size) (by simp) c0 T0).below (bel2 _ _ _), (Bo.newAt (w.alloc (.cells c0 T0)) (g := w.heap.size + 1) (by simp) c1 T1).below (bel1 _ _), (Bo.newAt ((w.alloc (.cells c0 T0)).alloc (.cells c1 T1)) (g := w.heap.size + 1 + 1) (by simp) c2 T2), Lib.hid (bel3 w _ _ _)⟩
theorem Bo.en4 {w w1 : World} {c0 : Array Value} {T0 : TypeId} {c1 : Array Value} {T1 : TypeId} {c2 : Array Value} {T2 : TypeId} {c3 : Array Value} {T3 : TypeId} (h : (((w.alloc (.cells c0 T0)).alloc (.cells c1 T1)).alloc (.cells c2 T2)).alloc (.cells c3 T3) = w1) : Bo w1 (w.heap.size) c0 T0 ∧ Bo w1 (w.heap.size + 1) c1 T1 ∧ Bo w1 (w.heap.size + 1 + 1) c2 T2 ∧ Bo w1 (w.heap.size + 1 + 1 + 1) c3 T3 ∧ RowKit.Hid (Below w.heap.size w w1) := h ▸ ⟨(Bo.newAt (w) (g := w.heap.size) (by simp) c0 T0).below (bel3 _ _ _ _), (Bo.newAt (w.alloc (.cells c0 T0)) (g := w.heap.size + 1) (by simp) c1 T1).below (bel2 _ _ _), (Bo.newAt ((w.alloc (.cells c0 T0)).alloc (.cells c1 T1)) (g := w.heap.size + 1 + 1) (by simp) c2 T2).below (bel1 _ _), (Bo.newAt (((w.alloc (.cells c0 T0)).alloc (.cells c1 T1)).alloc (.cells c2 T2)) (g := w.heap.size + 1 + 1 + 1) (by simp) c3 T3), Lib.hid (bel4 w _ _ _ _)⟩
theorem Bo.en5 {w w1 : World} {c0 : Array Value} {T0 : TypeId} {c1 : Array Value} {T1 : TypeId} {c2 : Array Value} {T2 : TypeId} {c3 : Array Value} {T3 : TypeId} {c4 : Array Value} {T4 : TypeId} (h : ((((w.alloc (.cells c0 T0)).alloc (.cells c1 T1)).alloc (.cells c2 T2)).alloc (.cells c3 T3)).alloc (.cells c4 T4) = w1) : Bo w1 (w.heap.size) c0 T0 ∧ Bo w1 (w.heap.size + 1) c1 T1 ∧ Bo w1 (w.heap.size + 1 + 1) c2 T2 ∧ Bo w1 (w.heap.size + 1 + 1 + 1) c3 T3 ∧ Bo w1 (w.heap.size + 1 + 1 + 1 + 1) c4 T4 ∧ RowKit.Hid (Below w.heap.size w w1) := h ▸ ⟨(Bo.newAt (w) (g := w.heap.size) (by simp) c0 T0).below (bel4 _ _ _ _ _), (Bo.newAt (w.alloc (.cells c0 T0)) (g := w.heap.size + 1) (by simp) c1 T1).below (bel3 _ _ _ _), (Bo.newAt ((w.alloc (.cells c0 T0)).alloc (.cells c1 T1)) (g := w.heap.size + 1 + 1) (by simp) c2 T2).below (bel2 _ _ _), (Bo.newAt (((w.alloc (.cells c0 T0)).alloc (.cells c1 T1)).alloc (.cells c2 T2)) (g := w.heap.size + 1 + 1 + 1) (by simp) c3 T3).below (bel1 _ _), (Bo.newAt ((((w.alloc (.cells c0 T0)).alloc (.cells c1 T1)).alloc (.cells c2 T2)).alloc (.cells c3 T3)) (g := w.heap.size + 1 + 1 + 1 + 1) (by simp) c4 T4), Lib.hid (bel5 w _ _ _ _ _)⟩
theorem Bo.en6 {w w1 : World} {c0 : Array Value} {T0 : TypeId} {c1 : Array Value} {T1 : TypeId} {c2 : Array Value} {T2 : TypeId} {c3 : Array Value} {T3 : TypeId} {c4 : Array Value} {T4 : TypeId} {c5 : Array Value} {T5 : TypeId} (h : (((((w.alloc (.cells c0 T0)).alloc (.cells c1 T1)).alloc (.cells c2 T2)).alloc (.cells c3 T3)).alloc (.cells c4 T4)).alloc (.cells c5 T5) = w1) : Bo w1 (w.heap.size) c0 T0 ∧ Bo w1 (w.heap.size + 1) c1 T1 ∧ Bo w1 (w.heap.size + 1 + 1) c2 T2 ∧ Bo w1 (w.heap.size + 1 + 1 + 1) c3 T3 ∧ Bo w1 (w.heap.size + 1 + 1 + 1 + 1) c4 T4 ∧ Bo w1 (w.heap.size + 1 + 1 + 1 + 1 + 1) c5 T5 ∧ RowKit.Hid (Below w.heap.size w w1) := h ▸ ⟨(Bo.newAt (w) (g := w.heap.size) (by simp) c0 T0).below (bel5 _ _ _ _ _ _), (Bo.newAt (w.alloc (.cells c0 T0)) (g := w.heap.size + 1) (by simp) c1 T1).below (bel4 _ _ _ _ _), (Bo.newAt ((w.alloc (.cells c0 T0)).alloc (.cells c1 T1)) (g := w.heap.size + 1 + 1) (by simp) c2 T2).below (bel3 _ _ _ _), (Bo.newAt (((w.alloc (.cells c0 T0)).alloc (.cells c1 T1)).alloc (.cells c2 T2)) (g := w.heap.size + 1 + 1 + 1) (by simp) c3 T3).below (bel2 _ _ _), (Bo.newAt ((((w.alloc (.cells c0 T0)).alloc (.cells c1 T1)).alloc (.cells c2 T2)).alloc (.cells c3 T3)) (g := w.heap.size + 1 + 1 + 1 + 1) (by simp) c4 T4).below (bel1 _ _), (Bo.newAt (((((w.alloc (.cells c0 T0)).alloc (.cells c1 T1)).alloc (.cells c2 T2)).alloc (.cells c3 T3)).alloc (.cells c4 T4)) (g := w.heap.size + 1 + 1 + 1 + 1 + 1) (by simp) c5 T5), Lib.hid ((bel5 w _ _ _ _ _).alloc (by simp; omega) _)⟩
theorem Bo.nw {w w1 : World} {c : Array Value} {T : TypeId} (h : w.alloc (.cells c T) = w1) : Bo w1 w.heap.size c T ∧ Below w.heap.size w w1 := h ▸ ⟨Bo.new w c T, bel1 w _⟩
theorem Bo.u2 {w : World} {g : Nat} {T : TypeId} {v0 v1 : Value} (h : Bo w g #[v0, v1] T) : w.cell? ⟨g, 0, none⟩ = some v0 ∧ w.cell? ⟨g, 1, none⟩ = some v1 := ⟨h.at rfl, h.at rfl⟩
theorem Bo.u3 {w : World} {g : Nat} {T : TypeId} {v0 v1 v2 : Value} (h : Bo w g #[v0, v1, v2] T) : w.cell? ⟨g, 0, none⟩ = some v0 ∧ w.cell? ⟨g, 1, none⟩ = some v1 ∧ w.cell? ⟨g, 2, none⟩ = some v2 := ⟨h.at rfl, h.at rfl, h.at rfl⟩
theorem Bo.u4 {w : World} {g : Nat} {T : TypeId} {v0 v1 v2 v3 : Value} (h : Bo w g #[v0, v1, v2, v3] T) : w.cell? ⟨g, 0, none⟩ = some v0 ∧ w.cell? ⟨g, 1, none⟩ = some v1 ∧ w.cell? ⟨g, 2, none⟩ = some v2 ∧ w.cell? ⟨g, 3, none⟩ = some v3 := ⟨h.at rfl, h.at rfl, h.at rfl, h.at rfl⟩
theorem Bo.u9 {w : World} {g : Nat} {T : TypeId} {v0 v1 v2 v3 v4 v5 v6 v7 v8 : Value} (h : Bo w g #[v0, v1, v2, v3, v4, v5, v6, v7, v8] T) : w.cell? ⟨g, 0, none⟩ = some v0 ∧ w.cell? ⟨g, 1, none⟩ = some v1 ∧ w.cell? ⟨g, 2, none⟩ = some v2 ∧ w.cell? ⟨g, 3, none⟩ = some v3 ∧ w.cell? ⟨g, 4, none⟩ = some v4 ∧ w.cell? ⟨g, 5, none⟩ = some v5 ∧ w.cell? ⟨g, 6, none⟩ = some v6 ∧ w.cell? ⟨g, 7, none⟩ = some v7 ∧ w.cell? ⟨g, 8, none⟩ = some v8 := ⟨h.at rfl, h.at rfl, h.at rfl, h.at rfl, h.at rfl, h.at rfl, h.at rfl, h.at rfl, h.at rfl⟩
theorem StN.of2 {w w1 : World} {g : Nat} {T : TypeId} {a0 a1 v0 v1 : Value} (X : Bo w g #[a0, a1] T) (h : (w.setCell ⟨g, 0, none⟩ v0).setCell ⟨g, 1, none⟩ v1 = w1) : StN w w1 g #[a0, a1] #[v0, v1] T := h ▸ StN.mk2 X v0 v1
theorem StN.of3 {w w1 : World} {g : Nat} {T : TypeId} {a0 a1 a2 v0 v1 v2 : Value} (X : Bo w g #[a0, a1, a2] T) (h : ((w.setCell ⟨g, 0, none⟩ v0).setCell ⟨g, 1, none⟩ v1).setCell ⟨g, 2, none⟩ v2 = w1) : StN w w1 g #[a0, a1, a2] #[v0, v1, v2] T := h ▸ StN.mk3 X v0 v1 v2
theorem Bo.w9 {w : World} {g : Nat} {T : TypeId} {v0 v1 v2 v3 v4 v5 v6 v7 v8 : Value} (h : Bo w g #[v0, v1, v2, v3, v4, v5, v6, v7, v8] T) : w.cell? ⟨g, 1, none⟩ = some v1 ∧ w.cell? ⟨g, 2, none⟩ = some v2 ∧ w.cell? ⟨g, 3, none⟩ = some v3 ∧ w.cell? ⟨g, 4, none⟩ = some v4 := ⟨h.at rfl, h.at rfl, h.at rfl, h.at rfl⟩
theorem Bo.v9 {w : World} {g : Nat} {T : TypeId} {v0 v1 v2 v3 v4 v5 v6 v7 v8 : Value} (h : Bo w g #[v0, v1, v2, v3, v4, v5, v6, v7, v8] T) : w.cell? ⟨g, 5, none⟩ = some v5 ∧ w.cell? ⟨g, 6, none⟩ = some v6 ∧ w.cell? ⟨g, 7, none⟩ = some v7 ∧ w.cell? ⟨g, 8, none⟩ = some v8 := ⟨h.at rfl, h.at rfl, h.at rfl, h.at rfl⟩
theorem Hqb {w w1 w2 : World} (h : RowKit.Hid (Below w.heap.size w w1)) (b : Below w1.heap.size w1 w2) : RowKit.Hid (Below w.heap.size w w2) := Lib.hid (bt h.out b)
theorem Hqs {n g : Nat} {a w w' : World} {o c : Array Value} {T : TypeId} (h : RowKit.Hid (Below n a w)) (S : StN w w' g o c T) (hg : n ≤ g) : RowKit.Hid (Below n a w') := Lib.hid (S.below h.out hg)
end Go.Proofs.YtpnmphofengoeaaGreatDoor

namespace Go.Proofs.YtpnmphofengoeaaGreatDoor
open Go.RowKit
set_option linter.unusedVariables false

def Near (p q : Int × Int) : Prop := p.1 ≠ 0 → q.1 ≠ 0 → p.2 - q.2 ≤ 640000 ∧ q.2 - p.2 ≤ 640000
theorem Fit.near {h k : Nat} {p q : Int × Int} (f : Fit h p) (g : Fit k q) (hh : h + k ≤ 640000) : Near p q := fun _ _ => by
  have := f.lo; have := f.hi; have := g.lo; have := g.hi
  omega
end Go.Proofs.YtpnmphofengoeaaGreatDoor

namespace Go.Proofs.YtpnmphofengoeaaGreatDoor
open Go.RowKit
set_option linter.unusedVariables false

def TP : Int := 19342822337206103650074625
theorem TP_eq : TP = 19342822337206103650074625 := rfl
def MayQ (K : Int) (s : Bool) (M E : Int) : Prop := (K = 0 ∧ s = false ∧ M = 0 ∧ E = 0) ∨ (K = 1 ∧ 9223372036854775808 ≤ M ∧ -1048576 ≤ E ∧ E ≤ 1048576) ∨ (K = 2 ∧ M = 0 ∧ E = 0)
instance (K : Int) (s : Bool) (M E : Int) : Decidable (MayQ K s M E) := by unfold MayQ; infer_instance
def plc (K M E : Int) : Int := if K = 0 then 0 else if K = 1 then M - 9223372036854775808 + 1 + (E + 1048576) * 9223372036854775808 else TP
def sgi (s : Bool) (x : Int) : Int := if s = true then -x else x
def rk (K : Int) (s : Bool) (M E : Int) : Int := if MayQ K s M E then sgi s (plc K M E) else 0
def Fq (K : Int) (s : Bool) (M E r : Int) : Prop := MayQ K s M E ∧ M < 18446744073709551616 ∧ sgi s (plc K M E) = r

theorem Fq.cases {K : Int} {s : Bool} {M E r : Int} (h : Fq K s M E r) : (K = 0 ∧ s = false ∧ M = 0 ∧ E = 0 ∧ r = 0) ∨ (K = 1 ∧ 9223372036854775808 ≤ M ∧ M < 18446744073709551616 ∧ -1048576 ≤ E ∧ E ≤ 1048576 ∧ ((s = false ∧ r = M - 9223372036854775808 + 1 + (E + 1048576) * 9223372036854775808) ∨ (s = true ∧ -r = M - 9223372036854775808 + 1 + (E + 1048576) * 9223372036854775808)))
    ∨ (K = 2 ∧ M = 0 ∧ E = 0 ∧ ((s = false ∧ r = 19342822337206103650074625) ∨ (s = true ∧ r = -19342822337206103650074625))) := by
  obtain ⟨h1, h2, h3⟩ := h
  rcases h1 with ⟨rfl, rfl, rfl, rfl⟩ | ⟨rfl, h4, h5, h6⟩ | ⟨rfl, rfl, rfl⟩
  · left
    exact ⟨rfl, rfl, rfl, rfl, by rw [← h3]; rfl⟩
  · right; left
    refine ⟨rfl, h4, h2, h5, h6, ?_⟩
    cases s
    · left
      exact ⟨rfl, h3.symm⟩
    · right
      have h3' : -(M - 9223372036854775808 + 1 + (E + 1048576) * 9223372036854775808) = r := h3
      exact ⟨rfl, by rw [← h3', Int.neg_neg]⟩
  · right; right
    refine ⟨rfl, rfl, rfl, ?_⟩
    cases s
    · left
      exact ⟨rfl, h3.symm⟩
    · right
      exact ⟨rfl, h3.symm⟩
theorem Fq.fin {s : Bool} {M E r : Int} (h1 : 9223372036854775808 ≤ M) (h2 : M < 18446744073709551616) (h3 : -1048576 ≤ E) (h4 : E ≤ 1048576) (hr : sgi s (M - 9223372036854775808 + 1 + (E + 1048576) * 9223372036854775808) = r) : Fq 1 s M E r :=
  ⟨Or.inr (Or.inl ⟨rfl, h1, h3, h4⟩), h2, hr⟩
theorem Fq.nought : Fq 0 false 0 0 0 := ⟨Or.inl ⟨rfl, rfl, rfl, rfl⟩, by decide, rfl⟩
theorem Fq.inf (s : Bool) : Fq 2 s 0 0 (sgi s TP) := ⟨Or.inr (Or.inr ⟨rfl, rfl, rfl⟩), by decide, rfl⟩
theorem Fq.uniq {K K' : Int} {s s' : Bool} {M M' E E' r : Int} (h : Fq K s M E r) (k : Fq K' s' M' E' r) : K = K' ∧ s = s' ∧ M = M' ∧ E = E' := by
  rcases h.cases with ⟨rfl, rfl, rfl, rfl, h0⟩ | ⟨rfl, h1, h2, h3, h4, ⟨rfl, h5⟩ | ⟨rfl, h5⟩⟩ | ⟨rfl, rfl, rfl, ⟨rfl, h5⟩ | ⟨rfl, h5⟩⟩ <;>
    rcases k.cases with ⟨rfl, rfl, rfl, rfl, k0⟩ | ⟨rfl, k1, k2, k3, k4, ⟨rfl, k5⟩ | ⟨rfl, k5⟩⟩ | ⟨rfl, rfl, rfl, ⟨rfl, k5⟩ | ⟨rfl, k5⟩⟩ <;>
    first | exact ⟨rfl, rfl, rfl, rfl⟩ | (exfalso; omega) | exact ⟨rfl, rfl, by omega, by omega⟩
theorem Fq.bd {K : Int} {s : Bool} {M E r : Int} (h : Fq K s M E r) : -19342822337206103650074625 ≤ r ∧ r ≤ 19342822337206103650074625 := by
  rcases h.cases with ⟨rfl, rfl, rfl, rfl, h0⟩ | ⟨rfl, h1, h2, h3, h4, ⟨rfl, h5⟩ | ⟨rfl, h5⟩⟩ | ⟨rfl, rfl, rfl, ⟨rfl, h5⟩ | ⟨rfl, h5⟩⟩ <;> omega
theorem Fq.top {K : Int} {s : Bool} {M E r : Int} (h : Fq K s M E r) : M < 18446744073709551616 := h.2.1
theorem Fq.rk {K : Int} {s : Bool} {M E r : Int} (h : Fq K s M E r) : rk K s M E = r := by
  unfold Go.Proofs.YtpnmphofengoeaaGreatDoor.rk
  rw [if_pos h.1]; exact h.2.2
theorem rk_not {K : Int} {s : Bool} {M E : Int} (h : ¬ MayQ K s M E) : rk K s M E = 0 := by
  unfold rk
  rw [if_neg h]
theorem rk_fq {K : Int} {s : Bool} {M E : Int} (hM : M < 18446744073709551616) (h : MayQ K s M E) : Fq K s M E (rk K s M E) := ⟨h, hM, by unfold rk; rw [if_pos h]⟩
theorem rk_neg {K : Int} {s : Bool} {M E r : Int} (h : Fq K s M E r) (hK : K ≠ 0) : Fq K (!s) M E (-r) := by
  rcases h.cases with ⟨rfl, rfl, rfl, rfl, h0⟩ | ⟨rfl, h1, h2, h3, h4, ⟨rfl, h5⟩ | ⟨rfl, h5⟩⟩ | ⟨rfl, rfl, rfl, ⟨rfl, h5⟩ | ⟨rfl, h5⟩⟩
  · exact absurd rfl hK
  · exact Fq.fin h1 h2 h3 h4 (by rw [h5]; rfl)
  · exact Fq.fin h1 h2 h3 h4 (by rw [h5]; rfl)
  · subst h5; exact Fq.inf true
  · subst h5; exact Fq.inf false
def fa (K M E K' M' E' : Int) : Int := if K ≠ K' then cmpI K K' else if E ≠ E' then cmpI E E' else cmpI M M'
theorem fa_bd (K M E K' M' E' : Int) : -1 ≤ fa K M E K' M' E' ∧ fa K M E K' M' E' ≤ 1 := by
  unfold fa
  split
  · exact cmpI_bd _ _
  · split
    · exact cmpI_bd _ _
    · exact cmpI_bd _ _
theorem cmpI_tri (x y : Int) : (x < y ∧ cmpI x y = -1) ∨ (x = y ∧ cmpI x y = 0) ∨ (y < x ∧ cmpI x y = 1) := by
  unfold cmpI
  by_cases h1 : x < y
  · rw [if_pos h1]; exact Or.inl ⟨h1, rfl⟩
  · by_cases h2 : y < x
    · rw [if_neg h1, if_pos h2]; exact Or.inr (Or.inr ⟨h2, rfl⟩)
    · rw [if_neg h1, if_neg h2]; exact Or.inr (Or.inl ⟨by omega, rfl⟩)
theorem Fq.plc {K : Int} {s : Bool} {M E r : Int} (h : Fq K s M E r) (hK : K ≠ 0) : (K = 1 ∧ 9223372036854775808 ≤ M ∧ M < 18446744073709551616 ∧ -1048576 ≤ E ∧ E ≤ 1048576 ∧ plc K M E = M - 9223372036854775808 + 1 + (E + 1048576) * 9223372036854775808) ∨ (K = 2 ∧ M = 0 ∧ E = 0 ∧ plc K M E = 19342822337206103650074625) := by
  obtain ⟨h1, h2, h3⟩ := h
  rcases h1 with ⟨rfl, rfl, rfl, rfl⟩ | ⟨rfl, h4, h5, h6⟩ | ⟨rfl, rfl, rfl⟩
  · exact absurd rfl hK
  · exact Or.inl ⟨rfl, h4, h2, h5, h6, rfl⟩
  · exact Or.inr ⟨rfl, rfl, rfl, rfl⟩
theorem fa_plc {K K' : Int} {s s' : Bool} {M M' E E' r r' : Int} (h : Fq K s M E r) (k : Fq K' s' M' E' r') (hK : K ≠ 0) (hK' : K' ≠ 0) : fa K M E K' M' E' = cmpI (plc K M E) (plc K' M' E') := by
  unfold fa
  rcases h.plc hK with ⟨rfl, h1, h2, h3, h4, h5⟩ | ⟨rfl, rfl, rfl, h5⟩ <;> rcases k.plc hK' with ⟨rfl, k1, k2, k3, k4, k5⟩ | ⟨rfl, rfl, rfl, k5⟩ <;> simp only [h5, k5]
  · rw [if_neg (by decide)]
    rcases cmpI_tri E E' with ⟨b1, b2⟩ | ⟨b1, b2⟩ | ⟨b1, b2⟩
    · rw [if_pos (by omega), b2, cmpI_lt (by omega)]
    · rw [if_neg (by omega)]
      rcases cmpI_tri M M' with ⟨c1, c2⟩ | ⟨c1, c2⟩ | ⟨c1, c2⟩
      · rw [c2, cmpI_lt (by omega)]
      · rw [c2, cmpI_eq (by omega)]
      · rw [c2, cmpI_gt (by omega)]
    · rw [if_pos (by omega), b2, cmpI_gt (by omega)]
  · rw [if_pos (by decide), cmpI_lt (by decide), cmpI_lt (by omega)]
  · rw [if_pos (by decide), cmpI_gt (by decide), cmpI_gt (by omega)]
  · rw [if_neg (by decide), if_neg (by decide)]
    rfl
theorem plc_pos {K : Int} {s : Bool} {M E r : Int} (h : Fq K s M E r) (hK : K ≠ 0) : 0 < plc K M E := by
  rcases h.plc hK with ⟨rfl, h1, h2, h3, h4, h5⟩ | ⟨rfl, rfl, rfl, h5⟩ <;> rw [h5] <;> omega
theorem cmpI_negs (x y : Int) : cmpI (-x) (-y) = -cmpI x y := by
  rcases cmpI_tri x y with ⟨a1, a2⟩ | ⟨a1, a2⟩ | ⟨a1, a2⟩ <;> rw [a2]
  · rw [cmpI_gt (by omega), Int.neg_neg]
  · rw [cmpI_eq (by omega)]; rfl
  · rw [cmpI_lt (by omega)]
theorem fa_fq {K K' : Int} {s : Bool} {M M' E E' r r' : Int} (h : Fq K s M E r) (k : Fq K' s M' E' r') (hK : K ≠ 0) (hK' : K' ≠ 0) : cmpI r 0 * fa K M E K' M' E' = cmpI r r' := by
  rw [fa_plc h k hK hK', ← h.2.2, ← k.2.2]; have p1 := plc_pos h hK
  cases s
  · show cmpI (plc K M E) 0 * _ = cmpI (plc K M E) (plc K' M' E')
    rw [cmpI_gt p1, Int.one_mul]
  · show cmpI (-plc K M E) 0 * _ = cmpI (-plc K M E) (-plc K' M' E')
    rw [cmpI_lt (show -plc K M E < 0 by omega), cmpI_negs, Int.neg_mul, Int.one_mul]
theorem Fq.zero_iff {K : Int} {s : Bool} {M E r : Int} (h : Fq K s M E r) : K = 0 ↔ r = 0 := by
  rcases h.cases with ⟨rfl, rfl, rfl, rfl, h0⟩ | ⟨rfl, h1, h2, h3, h4, ⟨rfl, h5⟩ | ⟨rfl, h5⟩⟩ | ⟨rfl, rfl, rfl, ⟨rfl, h5⟩ | ⟨rfl, h5⟩⟩ <;> constructor <;> intro _ <;> omega
theorem Fq.sign {K : Int} {s : Bool} {M E r : Int} (h : Fq K s M E r) (hK : K ≠ 0) : cmpI r 0 = if s = true then -1 else 1 := by
  rcases h.cases with ⟨rfl, rfl, rfl, rfl, h0⟩ | ⟨rfl, h1, h2, h3, h4, ⟨rfl, h5⟩ | ⟨rfl, h5⟩⟩ | ⟨rfl, rfl, rfl, ⟨rfl, h5⟩ | ⟨rfl, h5⟩⟩
  · exact absurd rfl hK
  · rw [cmpI_gt (by omega)]; rfl
  · rw [cmpI_lt (by omega)]; rfl
  · rw [cmpI_gt (by omega)]; rfl
  · rw [cmpI_lt (by omega)]; rfl
theorem cmp_far {K K' : Int} {s s' : Bool} {M M' E E' : Int} (hM : M < 18446744073709551616) (hM' : M' < 18446744073709551616) (he : cmpI (rk K s M E) 0 = cmpI (rk K' s' M' E') 0) : cmpI (rk K s M E) 0 * fa K M E K' M' E' = cmpI (rk K s M E) (rk K' s' M' E') := by
  by_cases h0 : rk K s M E = 0
  · have h1 : rk K' s' M' E' = 0 := by
      rw [h0, cmpI_eq rfl] at he; exact cmpI_zero.1 he.symm
    rw [h0, h1, cmpI_eq rfl, Int.zero_mul]
  · have h1 : rk K' s' M' E' ≠ 0 := fun h => by
      rw [h, cmpI_eq rfl] at he; exact h0 (cmpI_zero.1 he)
    have m1 : MayQ K s M E := Decidable.by_contra fun h => h0 (rk_not h)
    have m2 : MayQ K' s' M' E' := Decidable.by_contra fun h => h1 (rk_not h)
    have f1 := rk_fq hM m1; have f2 := rk_fq hM' m2
    have k1 : K ≠ 0 := fun h => h0 (f1.zero_iff.1 h)
    have k2 : K' ≠ 0 := fun h => h1 (f2.zero_iff.1 h)
    have hs : s = s' := by
      rw [f1.sign k1, f2.sign k2] at he
      cases s <;> cases s' <;> first | rfl | exact absurd he (by decide)
    subst hs; exact fa_fq f1 f2 k1 k2
theorem cmp_sign {x y : Int} (he : cmpI x 0 ≠ cmpI y 0) : cmpI (cmpI x 0) (cmpI y 0) = cmpI x y := by
  rcases cmpI_tri x 0 with ⟨a1, a2⟩ | ⟨a1, a2⟩ | ⟨a1, a2⟩ <;> rcases cmpI_tri y 0 with ⟨b1, b2⟩ | ⟨b1, b2⟩ | ⟨b1, b2⟩ <;> rw [a2, b2] at he ⊢
  · exact absurd rfl he
  · rw [cmpI_lt (show x < y by omega)]; rfl
  · rw [cmpI_lt (show x < y by omega)]; rfl
  · rw [cmpI_gt (show y < x by omega)]; rfl
  · exact absurd rfl he
  · rw [cmpI_lt (show x < y by omega)]; rfl
  · rw [cmpI_gt (show y < x by omega)]; rfl
  · rw [cmpI_gt (show y < x by omega)]; rfl
  · exact absurd rfl he
def nx (up : Bool) (r : Int) : Int := if up = true then min TP (r + 1) else max (-TP) (r - 1)
end Go.Proofs.YtpnmphofengoeaaGreatDoor

namespace Go.Proofs.YtpnmphofengoeaaGreatDoor
set_option maxHeartbeats 1000000
open Go.RowKit
set_option linter.unusedVariables false

theorem StN.mk4 {w : World} {g : Nat} {T : TypeId} {a b c d : Value} (X : Bo w g #[a, b, c, d] T) (u v t x : Value) : StN w ((((w.setCell ⟨g, 0, none⟩ u).setCell ⟨g, 1, none⟩ v).setCell ⟨g, 2, none⟩ t).setCell ⟨g, 3, none⟩ x) g #[a, b, c, d] #[u, v, t, x] T :=
  ⟨X, by simpa using (((X.set 0 u).set 1 v).set 2 t).set 3 x, fun k hk => by rw [Below.heap_setCell _ _ _ _ hk, Below.heap_setCell _ _ _ _ hk, Below.heap_setCell _ _ _ _ hk, Below.heap_setCell _ _ _ _ hk], fun B a hg h => below_store (st3 h hg u v t) hg 3 x⟩
theorem StN.at4 {w : World} {g : Nat} {T : TypeId} {cs : Array Value} (X : Bo w g cs T) (i : Nat) (v : Value) : StN w (w.setCell ⟨g, i, none⟩ v) g cs (cs.setIfInBounds i v) T :=
  ⟨X, X.set i v, fun k hk => Below.heap_setCell _ _ _ _ hk, fun B a hg h => below_store h hg i v⟩
theorem mayQ0 {s : Bool} {M E : Int} : decide (MayQ 0 s M E) = ((s == false) && ((M == 0) && (E == 0))) := by
  unfold MayQ
  rw [Bool.eq_iff_iff]
  simp
theorem mayQ1 {s : Bool} {M E : Int} : decide (MayQ 1 s M E) = (decide (9223372036854775808 ≤ M) && (decide (-1048576 ≤ E) && decide (E ≤ 1048576))) := by
  unfold MayQ
  rw [Bool.eq_iff_iff]
  simp
theorem mayQ2 {s : Bool} {M E : Int} : decide (MayQ 2 s M E) = ((M == 0) && (E == 0)) := by
  unfold MayQ
  rw [Bool.eq_iff_iff]
  simp
theorem mayQ3 {K : Int} {s : Bool} {M E : Int} (h0 : K ≠ 0) (h1 : K ≠ 1) (h2 : K ≠ 2) : decide (MayQ K s M E) = false := by
  unfold MayQ
  simp [h0, h1, h2]
theorem nMay {w : World} {K M E : Int} {s : Bool} {r : Bool} (hr : decide (MayQ K s M E) = r) : Calls Tryz.prog 72 #[.agg #[.int .i64 K, .bool s, .int .u64 M, .int .i64 E]] w (PB w r) := by
  subst hr
  by_cases h0 : K = 0
  · subst h0; rw [mayQ0]
    go_enter Tryz.func72, Tryz.ntmps72
    go_wp2
    all_goals go_ret
    all_goals exact ⟨by simp_all, bel1 _ _⟩
  by_cases h1 : K = 1
  · subst h1; rw [mayQ1]
    by_cases c1 : 9223372036854775808 ≤ M
    · have e1 : decide (9223372036854775808 ≤ M) = true := decide_eq_true c1
      by_cases c2 : -1048576 ≤ E
      · have e2 : decide (-1048576 ≤ E) = true := decide_eq_true c2
        by_cases c3 : E ≤ 1048576
        · have e3 : decide (E ≤ 1048576) = true := decide_eq_true c3
          rw [e1, e2, e3]
          go_enter Tryz.func72, Tryz.ntmps72
          go_wp2
          go_ret
          exact ⟨rfl, bel1 _ _⟩
        · have e3 : decide (E ≤ 1048576) = false := decide_eq_false c3
          rw [e1, e2, e3]
          go_enter Tryz.func72, Tryz.ntmps72
          go_wp2
          go_ret
          exact ⟨rfl, bel1 _ _⟩
      · have e2 : decide (-1048576 ≤ E) = false := decide_eq_false c2
        rw [e1, e2]
        go_enter Tryz.func72, Tryz.ntmps72
        go_wp2
        go_ret
        exact ⟨rfl, bel1 _ _⟩
    · have e1 : decide (9223372036854775808 ≤ M) = false := decide_eq_false c1
      rw [e1]
      go_enter Tryz.func72, Tryz.ntmps72
      go_wp2
      go_ret
      exact ⟨rfl, bel1 _ _⟩
  by_cases h2 : K = 2
  · subst h2; rw [mayQ2]
    by_cases c1 : M = 0
    · subst c1
      by_cases c2 : E = 0
      · subst c2
        go_enter Tryz.func72, Tryz.ntmps72
        go_wp2
        go_ret
        exact ⟨rfl, bel1 _ _⟩
      · have e2 : (E == 0) = false := by simpa using c2
        rw [e2]
        go_enter Tryz.func72, Tryz.ntmps72
        go_wp2
        go_ret
        exact ⟨rfl, bel1 _ _⟩
    · have e1 : (M == 0) = false := by simpa using c1
      rw [e1]
      go_enter Tryz.func72, Tryz.ntmps72
      go_wp2
      go_ret
      exact ⟨rfl, bel1 _ _⟩
  · rw [mayQ3 h0 h1 h2]
    have e0 : (K == 0) = false := by simpa using h0
    have e1 : (K == 1) = false := by simpa using h1
    have e2 : (K == 2) = false := by simpa using h2
    go_enter Tryz.func72, Tryz.ntmps72
    go_wp2
    go_ret
    exact ⟨rfl, bel1 _ _⟩
theorem yMay {w : World} {K M E : Int} {s : Bool} {r : Bool} (hr : decide (MayQ K s M E) = r) : Calls Tryz.prog 70 #[.agg #[.int .i64 K, .bool s, .int .u64 M, .int .i64 E]] w (PB w r) := by
  subst hr
  by_cases h0 : K = 0
  · subst h0; rw [mayQ0]
    go_enter Tryz.func70, Tryz.ntmps70
    go_wp2
    all_goals go_ret
    all_goals exact ⟨by simp_all, bel1 _ _⟩
  by_cases h1 : K = 1
  · subst h1; rw [mayQ1]
    by_cases c1 : 9223372036854775808 ≤ M
    · have e1 : decide (9223372036854775808 ≤ M) = true := decide_eq_true c1
      by_cases c2 : -1048576 ≤ E
      · have e2 : decide (-1048576 ≤ E) = true := decide_eq_true c2
        by_cases c3 : E ≤ 1048576
        · have e3 : decide (E ≤ 1048576) = true := decide_eq_true c3
          rw [e1, e2, e3]
          go_enter Tryz.func70, Tryz.ntmps70
          go_wp2
          go_ret
          exact ⟨rfl, bel1 _ _⟩
        · have e3 : decide (E ≤ 1048576) = false := decide_eq_false c3
          rw [e1, e2, e3]
          go_enter Tryz.func70, Tryz.ntmps70
          go_wp2
          go_ret
          exact ⟨rfl, bel1 _ _⟩
      · have e2 : decide (-1048576 ≤ E) = false := decide_eq_false c2
        rw [e1, e2]
        go_enter Tryz.func70, Tryz.ntmps70
        go_wp2
        go_ret
        exact ⟨rfl, bel1 _ _⟩
    · have e1 : decide (9223372036854775808 ≤ M) = false := decide_eq_false c1
      rw [e1]
      go_enter Tryz.func70, Tryz.ntmps70
      go_wp2
      go_ret
      exact ⟨rfl, bel1 _ _⟩
  by_cases h2 : K = 2
  · subst h2; rw [mayQ2]
    by_cases c1 : M = 0
    · subst c1
      by_cases c2 : E = 0
      · subst c2
        go_enter Tryz.func70, Tryz.ntmps70
        go_wp2
        go_ret
        exact ⟨rfl, bel1 _ _⟩
      · have e2 : (E == 0) = false := by simpa using c2
        rw [e2]
        go_enter Tryz.func70, Tryz.ntmps70
        go_wp2
        go_ret
        exact ⟨rfl, bel1 _ _⟩
    · have e1 : (M == 0) = false := by simpa using c1
      rw [e1]
      go_enter Tryz.func70, Tryz.ntmps70
      go_wp2
      go_ret
      exact ⟨rfl, bel1 _ _⟩
  · rw [mayQ3 h0 h1 h2]
    have e0 : (K == 0) = false := by simpa using h0
    have e1 : (K == 1) = false := by simpa using h1
    have e2 : (K == 2) = false := by simpa using h2
    go_enter Tryz.func70, Tryz.ntmps70
    go_wp2
    go_ret
    exact ⟨rfl, bel1 _ _⟩
end Go.Proofs.YtpnmphofengoeaaGreatDoor
namespace Go.Proofs.YtpnmphofengoeaaGreatDoor
open Go.RowKit
set_option linter.unusedVariables false
theorem StN.of4 {w w1 : World} {g : Nat} {T : TypeId} {a0 a1 a2 a3 v0 v1 v2 v3 : Value} (X : Bo w g #[a0, a1, a2, a3] T) (h : (((w.setCell ⟨g, 0, none⟩ v0).setCell ⟨g, 1, none⟩ v1).setCell ⟨g, 2, none⟩ v2).setCell ⟨g, 3, none⟩ v3 = w1) : StN w w1 g #[a0, a1, a2, a3] #[v0, v1, v2, v3] T := h ▸ StN.mk4 X v0 v1 v2 v3
end Go.Proofs.YtpnmphofengoeaaGreatDoor

namespace Go.Proofs.YtpnmphofengoeaaGreatDoor
set_option maxHeartbeats 2000000
open Go.RowKit
set_option linter.unusedVariables false
set_option linter.unusedSimpArgs false
set_option maxRecDepth 100000

def PN (w : World) (r : Int) (e : Ending) (w' : World) : Prop := ∃ D s M E, e = .returned (.agg #[.int .i64 D, .bool s, .int .u64 M, .int .i64 E]) ∧ Fq D s M E r ∧ Below w.heap.size w w'
theorem Fq.three {D : Int} {s : Bool} {M E r : Int} (h : Fq D s M E r) : (D = 0 ∧ r = 0) ∨ (D ≠ 0 ∧ s = false ∧ 0 < r) ∨ (D ≠ 0 ∧ s = true ∧ r < 0) := by
  rcases h.cases with ⟨rfl, rfl, rfl, rfl, h0⟩ | ⟨rfl, h1, h2, h3, h4, ⟨rfl, h5⟩ | ⟨rfl, h5⟩⟩ | ⟨rfl, rfl, rfl, ⟨rfl, h5⟩ | ⟨rfl, h5⟩⟩
  · exact Or.inl ⟨rfl, h0⟩
  · exact Or.inr (Or.inl ⟨by decide, rfl, by omega⟩)
  · exact Or.inr (Or.inr ⟨by decide, rfl, by omega⟩)
  · exact Or.inr (Or.inl ⟨by decide, rfl, by omega⟩)
  · exact Or.inr (Or.inr ⟨by decide, rfl, by omega⟩)

theorem nTaken {w : World} {D M E : Int} {s : Bool} {r : Int} (hM : M < 18446744073709551616) (hr : rk D s M E = r) : Calls Tryz.prog 67 #[.agg #[.int .i64 D, .bool s, .int .u64 M, .int .i64 E]] w (PN w r) := by
  by_cases hm : MayQ D s M E
  · have HQ := rk_fq hM hm; rw [hr] at HQ
    have HC := Lib.hid (show decide (MayQ D s M E) = true from decide_eq_true hm)
    clear hm hr hM
    go_enter Tryz.func67, Tryz.ntmps67
    go_upto_region 1 with (fail)
    generalize hW1 : (w.alloc _).alloc _ = w1 at *; obtain ⟨X1, XR, HB⟩ := Bo.en2 hW1; clear hW1; have xX1 := X1.cell
    go_wp2_with fail
    refine (nMay HC.out).mono ?_; rintro ee w2 ⟨rfl, B⟩; clear xX1; replace X1 := X1.below B; replace XR := XR.below B; replace HB := Hqb HB B; clear B; have xXR := XR.cell; have zXR0 := XR.frozen; have xX1 := X1.cell; go_wp2; clear xXR zXR0 xX1; have SX := StN.mk4 XR (.int .i64 D) (.bool s) (.int .u64 M) (.int .i64 E)
    exact bodyPost_ret (by simp [results, Tryz.results67, go_sem, SX.box.cell]) rfl ⟨D, s, M, E, rfl, HQ, (SX.below HB.out (by omega))⟩
  · rw [rk_not hm] at hr; subst hr
    have HC := Lib.hid (show decide (MayQ D s M E) = false from decide_eq_false hm)
    clear hm hM
    go_enter Tryz.func67, Tryz.ntmps67
    go_upto_region 1 with (fail)
    generalize hW1 : (w.alloc _).alloc _ = w1 at *; obtain ⟨X1, XR, HB⟩ := Bo.en2 hW1; clear hW1; have xX1 := X1.cell
    go_wp2_with fail
    refine (nMay HC.out).mono ?_; rintro ee w2 ⟨rfl, B⟩; clear xX1; replace X1 := X1.below B; replace XR := XR.below B; replace HB := Hqb HB B; clear B; have xXR := XR.cell; have zXR0 := XR.frozen; have xX1 := X1.cell; go_wp2; clear xXR zXR0 xX1; have SX := StN.mk4 XR (.int .i64 0) (.bool false) (.int .u64 0) (.int .i64 0)
    exact bodyPost_ret (by simp [results, Tryz.results67, go_sem, SX.box.cell]) rfl ⟨_, _, _, _, rfl, Fq.nought, (SX.below HB.out (by omega))⟩
theorem nInf {w : World} {s : Bool} {r : Int} (hr : sgi s TP = r) : Calls Tryz.prog 20 #[.bool s] w (PN w r) := by
  go_enter Tryz.func20, Tryz.ntmps20
  go_upto_region 1 with (fail)
  generalize hW1 : w.alloc _ = w1 at *; obtain ⟨XR, HB⟩ := Bo.en1 hW1; clear hW1; have xXR := XR.cell; have zXR0 := XR.frozen; go_wp2; clear xXR zXR0; have SX := StN.mk4 XR (.int .i64 2) (.bool s) (.int .u64 0) (.int .i64 0); exact bodyPost_ret (v := .agg #[.int .i64 2, .bool s, .int .u64 0, .int .i64 0]) (by simp [results, Tryz.results20, go_sem, SX.box.cell]) rfl ⟨_, _, _, _, rfl, hr ▸ Fq.inf s, (SX.below HB.out (by omega))⟩
theorem nT {w : World} {s : Bool} : Calls Tryz.prog 114 #[.bool s] w (fun e w' => e = .returned (.agg #[.int .i64 1, .bool s, .int .u64 9223372036854775808, .int .i64 (-1048576)]) ∧ Below w.heap.size w w') := by
  go_enter Tryz.func114, Tryz.ntmps114
  go_upto_region 1 with (fail)
  generalize hW1 : w.alloc _ = w1 at *; obtain ⟨XR, HB⟩ := Bo.en1 hW1; clear hW1; have xXR := XR.cell; have zXR0 := XR.frozen; go_wp2; clear xXR zXR0; have SX := StN.mk4 XR (.int .i64 1) (.bool s) (.int .u64 9223372036854775808) (.int .i64 (-1048576)); exact bodyPost_ret (v := .agg #[.int .i64 1, .bool s, .int .u64 9223372036854775808, .int .i64 (-1048576)]) (by simp [results, Tryz.results114, go_sem, SX.box.cell]) rfl ⟨rfl, (SX.below HB.out (by omega))⟩
theorem nH {w : World} {s : Bool} : Calls Tryz.prog 120 #[.bool s] w (fun e w' => e = .returned (.agg #[.int .i64 1, .bool s, .int .u64 18446744073709551615, .int .i64 1048576]) ∧ Below w.heap.size w w') := by
  go_enter Tryz.func120, Tryz.ntmps120
  go_upto_region 1 with (fail)
  generalize hW1 : w.alloc _ = w1 at *; obtain ⟨XR, HB⟩ := Bo.en1 hW1; clear hW1; have xXR := XR.cell; have zXR0 := XR.frozen; go_wp2; clear xXR zXR0; have SX := StN.mk4 XR (.int .i64 1) (.bool s) (.int .u64 18446744073709551615) (.int .i64 1048576); exact bodyPost_ret (v := .agg #[.int .i64 1, .bool s, .int .u64 18446744073709551615, .int .i64 1048576]) (by simp [results, Tryz.results120, go_sem, SX.box.cell]) rfl ⟨rfl, (SX.below HB.out (by omega))⟩
theorem nSign {w : World} {D M E : Int} {s : Bool} {σ : Int} (hM : M < 18446744073709551616) (hs : cmpI (rk D s M E) 0 = σ) : Calls Tryz.prog 43 #[.agg #[.int .i64 D, .bool s, .int .u64 M, .int .i64 E]] w (PI w σ) := by
  obtain ⟨r, hr⟩ : ∃ r, rk D s M E = r := ⟨_, rfl⟩; rw [hr] at hs; have HR := Lib.hid hr; have HS := Lib.hid hs; clear hr hs
  go_enter Tryz.func43, Tryz.ntmps43
  go_upto_region 1 with (fail)
  generalize hW1 : w.alloc _ = w1 at *; obtain ⟨X1, HB⟩ := Bo.en1 hW1; clear hW1; have xX1 := X1.cell
  go_wp2_with fail
  refine (nTaken hM HR.out).mono ?_; rintro ee w2 ⟨K1, s1, M1, E1, rfl, q1, B⟩; clear xX1; replace X1 := X1.below B; replace HB := Hqb HB B; clear B; have xX1 := X1.cell; have zX10 := X1.frozen
  go_upto_region 2 with (fail)
  clear xX1 zX10; generalize hS : (((w2.setCell _ _).setCell _ _).setCell _ _).setCell _ _ = w3 at *; have SX := StN.of4 X1 hS; replace HB := Hqs HB SX (by omega); replace X1 := SX.box; clear SX hS
  rcases q1.three with ⟨h0, hr⟩ | ⟨h0, h1, hr⟩ | ⟨h0, h1, hr⟩
  · subst h0; have hs := HS.out; rw [cmpI_eq hr] at hs; subst hs; clear q1; have xX1 := X1.cell; go_wp2
    go_ret
    exact ⟨by first | rfl | simp_all, HB.out⟩
  · have e0 : (K1 == 0) = false := by simpa using h0
    have hs := HS.out; rw [cmpI_gt hr] at hs; subst hs; subst h1; clear q1; have xX1 := X1.cell; go_wp2
    go_ret
    exact ⟨by first | rfl | simp_all, HB.out⟩
  · have e0 : (K1 == 0) = false := by simpa using h0
    have hs := HS.out; rw [cmpI_lt hr] at hs; subst hs; subst h1; clear q1; have xX1 := X1.cell; go_wp2
    go_ret
    exact ⟨by first | rfl | simp_all, HB.out⟩
theorem nNeg {w : World} {D M E : Int} {s : Bool} {r : Int} (hM : M < 18446744073709551616) (hr : -rk D s M E = r) : Calls Tryz.prog 66 #[.agg #[.int .i64 D, .bool s, .int .u64 M, .int .i64 E]] w (PN w r) := by
  obtain ⟨x, hx⟩ : ∃ x, rk D s M E = x := ⟨_, rfl⟩; rw [hx] at hr; have HX := Lib.hid hx; subst hr; clear hx
  go_enter Tryz.func66, Tryz.ntmps66
  go_upto_region 1 with (fail)
  generalize hW1 : (w.alloc _).alloc _ = w1 at *; obtain ⟨X1, XR, HB⟩ := Bo.en2 hW1; clear hW1; have xX1 := X1.cell
  go_wp2_with fail
  refine (nTaken hM HX.out).mono ?_; rintro ee w2 ⟨K1, s1, M1, E1, rfl, q1, B⟩; clear xX1; replace X1 := X1.below B; replace XR := XR.below B; replace HB := Hqb HB B; clear B; have xX1 := X1.cell; have zX10 := X1.frozen
  go_upto_region 2 with (fail)
  clear xX1 zX10; generalize hS : (((w2.setCell _ _).setCell _ _).setCell _ _).setCell _ _ = w3 at *; have SX := StN.of4 X1 hS; replace XR := XR.stn SX (by omega); replace HB := Hqs HB SX (by omega); replace X1 := SX.box; clear SX hS
  by_cases h0 : K1 = 0
  · subst h0; have hz := q1.zero_iff.1 rfl; subst hz; have xXR := XR.cell; have zXR0 := XR.frozen; have xX1 := X1.cell; go_wp2; clear xXR zXR0 xX1; have SX := StN.mk4 XR (.int .i64 0) (.bool s1) (.int .u64 M1) (.int .i64 E1); exact bodyPost_ret (by simp [results, Tryz.results66, go_sem, SX.box.cell]) rfl ⟨_, _, _, _, rfl, q1, (SX.below HB.out (by omega))⟩
  · have e0 : (K1 == 0) = false := by simpa using h0
    have q2 := rk_neg q1 h0; have xX1 := X1.cell; have zX10 := X1.frozen
    go_upto_region 4 with (fail)
    clear xX1 zX10
    have SX : StN w3 (World.setCell w3 ⟨w.heap.size, 1, none⟩ (.bool (!s1))) _ _ #[.int .i64 K1, .bool (!s1), .int .u64 M1, .int .i64 E1] _ := StN.at4 X1 1 (.bool (!s1))
    replace XR := XR.stn SX (by omega); replace HB := Hqs HB SX (by omega); replace X1 := SX.box; clear SX; generalize World.setCell w3 ⟨w.heap.size, 1, none⟩ (.bool (!s1)) = w4 at *; have xXR := XR.cell; have zXR0 := XR.frozen; have xX1 := X1.cell; go_wp2; clear xXR zXR0 xX1; have SX := StN.mk4 XR (.int .i64 K1) (.bool (!s1)) (.int .u64 M1) (.int .i64 E1)
    exact bodyPost_ret (by simp [results, Tryz.results66, go_sem, SX.box.cell]) rfl ⟨_, _, _, _, rfl, q2, (SX.below HB.out (by omega))⟩
theorem yTaken {w : World} {D M E : Int} {s : Bool} {r : Int} (hM : M < 18446744073709551616) (hr : rk D s M E = r) : Calls Tryz.prog 46 #[.agg #[.int .i64 D, .bool s, .int .u64 M, .int .i64 E]] w (PN w r) := by
  by_cases hm : MayQ D s M E
  · have HQ := rk_fq hM hm; rw [hr] at HQ
    have HC := Lib.hid (show decide (MayQ D s M E) = true from decide_eq_true hm)
    clear hm hr hM
    go_enter Tryz.func46, Tryz.ntmps46
    go_upto_region 1 with (fail)
    generalize hW1 : (w.alloc _).alloc _ = w1 at *; obtain ⟨X1, XR, HB⟩ := Bo.en2 hW1; clear hW1; have xX1 := X1.cell
    go_wp2_with fail
    refine (yMay HC.out).mono ?_; rintro ee w2 ⟨rfl, B⟩; clear xX1; replace X1 := X1.below B; replace XR := XR.below B; replace HB := Hqb HB B; clear B; have xXR := XR.cell; have zXR0 := XR.frozen; have xX1 := X1.cell; go_wp2; clear xXR zXR0 xX1; have SX := StN.mk4 XR (.int .i64 D) (.bool s) (.int .u64 M) (.int .i64 E)
    exact bodyPost_ret (by simp [results, Tryz.results46, go_sem, SX.box.cell]) rfl ⟨D, s, M, E, rfl, HQ, (SX.below HB.out (by omega))⟩
  · rw [rk_not hm] at hr; subst hr
    have HC := Lib.hid (show decide (MayQ D s M E) = false from decide_eq_false hm)
    clear hm hM
    go_enter Tryz.func46, Tryz.ntmps46
    go_upto_region 1 with (fail)
    generalize hW1 : (w.alloc _).alloc _ = w1 at *; obtain ⟨X1, XR, HB⟩ := Bo.en2 hW1; clear hW1; have xX1 := X1.cell
    go_wp2_with fail
    refine (yMay HC.out).mono ?_; rintro ee w2 ⟨rfl, B⟩; clear xX1; replace X1 := X1.below B; replace XR := XR.below B; replace HB := Hqb HB B; clear B; have xXR := XR.cell; have zXR0 := XR.frozen; have xX1 := X1.cell; go_wp2; clear xXR zXR0 xX1; have SX := StN.mk4 XR (.int .i64 0) (.bool false) (.int .u64 0) (.int .i64 0)
    exact bodyPost_ret (by simp [results, Tryz.results46, go_sem, SX.box.cell]) rfl ⟨_, _, _, _, rfl, Fq.nought, (SX.below HB.out (by omega))⟩
theorem yInf {w : World} {s : Bool} {r : Int} (hr : sgi s TP = r) : Calls Tryz.prog 78 #[.bool s] w (PN w r) := by
  go_enter Tryz.func78, Tryz.ntmps78
  go_upto_region 1 with (fail)
  generalize hW1 : w.alloc _ = w1 at *; obtain ⟨XR, HB⟩ := Bo.en1 hW1; clear hW1; have xXR := XR.cell; have zXR0 := XR.frozen; go_wp2; clear xXR zXR0; have SX := StN.mk4 XR (.int .i64 2) (.bool s) (.int .u64 0) (.int .i64 0); exact bodyPost_ret (v := .agg #[.int .i64 2, .bool s, .int .u64 0, .int .i64 0]) (by simp [results, Tryz.results78, go_sem, SX.box.cell]) rfl ⟨_, _, _, _, rfl, hr ▸ Fq.inf s, (SX.below HB.out (by omega))⟩
theorem ySign {w : World} {D M E : Int} {s : Bool} {σ : Int} (hM : M < 18446744073709551616) (hs : cmpI (rk D s M E) 0 = σ) : Calls Tryz.prog 47 #[.agg #[.int .i64 D, .bool s, .int .u64 M, .int .i64 E]] w (PI w σ) := by
  obtain ⟨r, hr⟩ : ∃ r, rk D s M E = r := ⟨_, rfl⟩; rw [hr] at hs; have HR := Lib.hid hr; have HS := Lib.hid hs; clear hr hs
  go_enter Tryz.func47, Tryz.ntmps47
  go_upto_region 1 with (fail)
  generalize hW1 : w.alloc _ = w1 at *; obtain ⟨X1, HB⟩ := Bo.en1 hW1; clear hW1; have xX1 := X1.cell
  go_wp2_with fail
  refine (yTaken hM HR.out).mono ?_; rintro ee w2 ⟨K1, s1, M1, E1, rfl, q1, B⟩; clear xX1; replace X1 := X1.below B; replace HB := Hqb HB B; clear B
  go_upto_region 2 with (fail)
  have lX3 := Nat.le_refl (World.heap w2).size; have nX3X1 := X1.lt; generalize hWn : w2.alloc _ = w3 at *; obtain ⟨X3, BW⟩ := Bo.nw hWn; clear hWn; replace X1 := X1.below BW; replace HB := Hqb HB BW; clear BW
  rcases q1.three with ⟨h0, hr⟩ | ⟨h0, h1, hr⟩ | ⟨h0, h1, hr⟩
  · subst h0; have hs := HS.out; rw [cmpI_eq hr] at hs; subst hs; clear q1; have xX3 := X3.cell; go_wp2
    go_ret
    exact ⟨by first | rfl | simp_all, HB.out⟩
  · have e0 : (K1 == 0) = false := by simpa using h0
    have hs := HS.out; rw [cmpI_gt hr] at hs; subst hs; subst h1; clear q1; have xX3 := X3.cell; go_wp2
    go_ret
    exact ⟨by first | rfl | simp_all, HB.out⟩
  · have e0 : (K1 == 0) = false := by simpa using h0
    have hs := HS.out; rw [cmpI_lt hr] at hs; subst hs; subst h1; clear q1; have xX3 := X3.cell; go_wp2
    go_ret
    exact ⟨by first | rfl | simp_all, HB.out⟩
theorem yNeg {w : World} {D M E : Int} {s : Bool} {r : Int} (hM : M < 18446744073709551616) (hr : -rk D s M E = r) : Calls Tryz.prog 71 #[.agg #[.int .i64 D, .bool s, .int .u64 M, .int .i64 E]] w (PN w r) := by
  obtain ⟨x, hx⟩ : ∃ x, rk D s M E = x := ⟨_, rfl⟩; rw [hx] at hr; have HX := Lib.hid hx; subst hr; clear hx
  go_enter Tryz.func71, Tryz.ntmps71
  go_upto_region 1 with (fail)
  generalize hW1 : (w.alloc _).alloc _ = w1 at *; obtain ⟨X1, XR, HB⟩ := Bo.en2 hW1; clear hW1; have xX1 := X1.cell
  go_wp2_with fail
  refine (yTaken hM HX.out).mono ?_; rintro ee w2 ⟨K1, s1, M1, E1, rfl, q1, B⟩; clear xX1; replace X1 := X1.below B; replace XR := XR.below B; replace HB := Hqb HB B; clear B
  go_upto_region 2 with (fail)
  have lX3 := Nat.le_refl (World.heap w2).size; have nX3X1 := X1.lt; have nX3XR := XR.lt; generalize hWn : w2.alloc _ = w3 at *; obtain ⟨X3, BW⟩ := Bo.nw hWn; clear hWn; replace X1 := X1.below BW; replace XR := XR.below BW; replace HB := Hqb HB BW; clear BW
  by_cases h0 : K1 = 0
  · subst h0; have hz := q1.zero_iff.1 rfl; subst hz; have xXR := XR.cell; have zXR0 := XR.frozen; have xX3 := X3.cell; go_wp2; clear xXR zXR0 xX3; have SX := StN.mk4 XR (.int .i64 0) (.bool s1) (.int .u64 M1) (.int .i64 E1); exact bodyPost_ret (by simp [results, Tryz.results71, go_sem, SX.box.cell]) rfl ⟨_, _, _, _, rfl, q1, (SX.below HB.out (by omega))⟩
  · have e0 : (K1 == 0) = false := by simpa using h0
    have q2 := rk_neg q1 h0; have xX3 := X3.cell; have zX30 := X3.frozen
    go_upto_region 4 with (fail)
    clear xX3 zX30
    have SX : StN w3 (World.setCell w3 ⟨w2.heap.size, 1, none⟩ (.bool (!s1))) _ _ #[.int .i64 K1, .bool (!s1), .int .u64 M1, .int .i64 E1] _ := StN.at4 X3 1 (.bool (!s1))
    replace X1 := X1.stn SX (by omega); replace XR := XR.stn SX (by omega); replace HB := Hqs HB SX (by omega); replace X3 := SX.box; clear SX; generalize World.setCell w3 ⟨w2.heap.size, 1, none⟩ (.bool (!s1)) = w4 at *; have xXR := XR.cell; have zXR0 := XR.frozen; have xX3 := X3.cell; go_wp2; clear xXR zXR0 xX3
    have SX := StN.mk4 XR (.int .i64 K1) (.bool (!s1)) (.int .u64 M1) (.int .i64 E1); exact bodyPost_ret (by simp [results, Tryz.results71, go_sem, SX.box.cell]) rfl ⟨_, _, _, _, rfl, q2, (SX.below HB.out (by omega))⟩
end Go.Proofs.YtpnmphofengoeaaGreatDoor

namespace Go.Proofs.YtpnmphofengoeaaGreatDoor
set_option maxHeartbeats 4000000
open Go.RowKit
set_option linter.unusedVariables false
set_option linter.unusedSimpArgs false
set_option maxRecDepth 100000

theorem compare64_any (x y : Int) (w : World) : Calls Tryz.prog 69 #[.int .u64 x, .int .u64 y] w fun e w' => e = .returned (.int .i64 (cmpI x y)) ∧ w = w' := by
  go_enter Tryz.func69, Tryz.ntmps69
  go_wp2
  all_goals go_ret
  · exact ⟨ret_int (cmpI_lt (by assumption)).symm, rfl⟩
  · exact ⟨ret_int (cmpI_gt (by assumption)).symm, rfl⟩
  · exact ⟨ret_int (cmpI_eq (by omega)).symm, rfl⟩

theorem vCmpI {x y z : Int} (w : World) (h : cmpI x y = z) : Calls Tryz.prog 44 #[.int .i64 x, .int .i64 y] w (PI w z) := by
  subst h; refine (compareInt_any x y w).mono ?_; rintro e w' ⟨rfl, rfl⟩; exact ⟨rfl, Below.refl _ _⟩
theorem vCmpU {x y z : Int} (w : World) (h : cmpI x y = z) : Calls Tryz.prog 69 #[.int .u64 x, .int .u64 y] w (PI w z) := by
  subst h; refine (compare64_any x y w).mono ?_; rintro e w' ⟨rfl, rfl⟩; exact ⟨rfl, Below.refl _ _⟩
theorem nFar {w : World} {D D' M M' E E' : Int} {s s' : Bool} {r : Int} (hr : fa D M E D' M' E' = r) : Calls Tryz.prog 45 #[.agg #[.int .i64 D, .bool s, .int .u64 M, .int .i64 E], .agg #[.int .i64 D', .bool s', .int .u64 M', .int .i64 E']] w (PI w r) := by
  unfold fa at hr
  by_cases hk : D ≠ D'
  · rw [if_pos hk] at hr
    have e0 : (D == D') = false := by simpa using hk
    have HR := Lib.hid hr; clear hr hk
    go_enter Tryz.func45, Tryz.ntmps45
    go_upto_region 1 with (fail)
    generalize hW1 : (w.alloc _).alloc _ = w1 at *; obtain ⟨X1, X2, HB⟩ := Bo.en2 hW1; clear hW1; have xX1 := X1.cell; have xX2 := X2.cell
    go_wp2_with fail
    refine (vCmpI _ HR.out).mono ?_; rintro ee w2 ⟨rfl, B⟩; clear xX1 xX2; replace X1 := X1.below B; replace X2 := X2.below B; replace HB := Hqb HB B; clear B; go_wp2
    go_ret
    exact ⟨rfl, HB.out⟩
  · rw [if_neg hk] at hr
    obtain rfl : D = D' := Decidable.not_not.1 hk
    clear hk
    by_cases he : E ≠ E'
    · rw [if_pos he] at hr
      have e0 : (E == E') = false := by simpa using he
      have HR := Lib.hid hr; clear hr he
      go_enter Tryz.func45, Tryz.ntmps45
      go_upto_region 1 with (fail)
      generalize hW1 : (w.alloc _).alloc _ = w1 at *; obtain ⟨X1, X2, HB⟩ := Bo.en2 hW1; clear hW1; have xX1 := X1.cell; have xX2 := X2.cell
      go_wp2_with fail
      refine (vCmpI _ HR.out).mono ?_; rintro ee w2 ⟨rfl, B⟩; clear xX1 xX2; replace X1 := X1.below B; replace X2 := X2.below B; replace HB := Hqb HB B; clear B; go_wp2
      go_ret
      exact ⟨rfl, HB.out⟩
    · rw [if_neg he] at hr
      obtain rfl : E = E' := Decidable.not_not.1 he
      have HR := Lib.hid hr; clear hr he
      go_enter Tryz.func45, Tryz.ntmps45
      go_upto_region 1 with (fail)
      generalize hW1 : (w.alloc _).alloc _ = w1 at *; obtain ⟨X1, X2, HB⟩ := Bo.en2 hW1; clear hW1; have xX1 := X1.cell; have xX2 := X2.cell
      go_wp2_with fail
      refine (vCmpU _ HR.out).mono ?_; rintro ee w2 ⟨rfl, B⟩; clear xX1 xX2; replace X1 := X1.below B; replace X2 := X2.below B; replace HB := Hqb HB B; clear B; go_wp2
      go_ret
      exact ⟨rfl, HB.out⟩
theorem nCmp {w : World} {D D' M M' E E' : Int} {s s' : Bool} {z : Int} (hM : M < 18446744073709551616) (hM' : M' < 18446744073709551616) (hz : cmpI (rk D s M E) (rk D' s' M' E') = z) : Calls Tryz.prog 22 #[.agg #[.int .i64 D, .bool s, .int .u64 M, .int .i64 E], .agg #[.int .i64 D', .bool s', .int .u64 M', .int .i64 E']] w (PI w z) := by
  have hs := cmp_sign (x := rk D s M E) (y := rk D' s' M' E'); have hf := cmp_far (K := D) (s := s) (E := E) (K' := D') (s' := s') (E' := E') hM hM'; have b1 := fa_bd D M E D' M' E'; have b2 := cmpI_bd (rk D s M E) 0
  revert hs hf b1 b2
  generalize hσ : cmpI (rk D s M E) 0 = σ; generalize hτ : cmpI (rk D' s' M' E') 0 = τ; generalize hφ : fa D M E D' M' E' = φ; rw [hz]
  intro hs hf b1 b2
  have HS := Lib.hid hσ; have HT := Lib.hid hτ; have HF := Lib.hid hφ; clear hσ hτ hφ hz
  by_cases he : σ ≠ τ
  · have e0 : (σ == τ) = false := by simpa using he
    have HZ := Lib.hid (hs he); clear hs hf he b1 b2
    go_enter Tryz.func22, Tryz.ntmps22
    go_upto_region 1 with (fail)
    generalize hW1 : (w.alloc _).alloc _ = w1 at *; obtain ⟨X1, X2, HB⟩ := Bo.en2 hW1; clear hW1; refine Jo.rk [0, 1, 2, 3, 4, 5] [some 7, some 8, some 9, some 10, some 5, some 6] [[], [0], [], [2], [1], [3]] 6 0 [Jo.q4 D s M E, Jo.qi σ, Jo.q4 D' s' M' E', Jo.qi τ, Jo.qi σ, Jo.qi τ] (by kernel_rfl) (by kernel_rfl) (by decide) rfl ?_ ?_
    · refine Jo.jm rfl ?_ ?_; rotate_left
      refine Jo.jm rfl ?_ ?_
      · rintro wj hJ _ rfl K hK; simp only [Jo.z] at hK ⊢; go_simp; refine (nSign hM HS.out).mono ?_; rintro ee wk ⟨rfl, B⟩; exact hK.out _ _ rfl B
      refine Jo.jm rfl ?_ ?_; rotate_left
      refine Jo.jm rfl ?_ ?_
      · rintro wj hJ _ rfl K hK; simp only [Jo.z] at hK ⊢; go_simp; refine (nSign hM' HT.out).mono ?_; rintro ee wk ⟨rfl, B⟩; exact hK.out _ _ rfl B
      iterate 2 (refine Jo.jm rfl ?_ ?_; rotate_left)
      exact Jo.Steps.nil
      all_goals (rintro wj hJ; (repeat rintro _ rfl); intro K hK; simp only [Jo.z] at hK ⊢; have xX1 := (X1.below hJ).cell; have xX2 := (X2.below hJ).cell; go_simp; exact hK.out _ _ rfl (br _ _))
    rintro w2 hJ _ rfl _ rfl _ rfl _ rfl _ rfl _ rfl -; simp only [Jo.z]; replace X1 := X1.below hJ; replace X2 := X2.below hJ; replace HB := Hqb HB hJ; refine Jo.jdone (by kernel_rfl) ?_
    go_wp2_with fail
    refine (vCmpI _ HZ.out).mono ?_; rintro ee w3 ⟨rfl, B⟩; replace X1 := X1.below B; replace X2 := X2.below B; replace HB := Hqb HB B; clear B; go_wp2
    go_ret
    exact ⟨rfl, HB.out⟩
  · obtain rfl : σ = τ := Decidable.not_not.1 he
    have HZ := Lib.hid (hf rfl)
    have HW : Hid (IntKind.i64.wrap (σ * φ) = z) := Lib.hid (by
      rw [hf rfl]; refine IntWalk.i64_in _ ?_; rw [← hf rfl]
      rcases (show σ = -1 ∨ σ = 0 ∨ σ = 1 by omega) with h | h | h <;> rw [h] <;> omega)
    clear hs hf he b1 b2
    go_enter Tryz.func22, Tryz.ntmps22
    go_upto_region 1 with (fail)
    generalize hW1 : (w.alloc _).alloc _ = w1 at *; obtain ⟨X1, X2, HB⟩ := Bo.en2 hW1; clear hW1; refine Jo.rk [0, 1, 2, 3, 4, 5] [some 7, some 8, some 9, some 10, some 5, some 6] [[], [0], [], [2], [1], [3]] 6 0 [Jo.q4 D s M E, Jo.qi σ, Jo.q4 D' s' M' E', Jo.qi σ, Jo.qi σ, Jo.qi σ] (by kernel_rfl) (by kernel_rfl) (by decide) rfl ?_ ?_
    · refine Jo.jm rfl ?_ ?_; rotate_left
      refine Jo.jm rfl ?_ ?_
      · rintro wj hJ _ rfl K hK; simp only [Jo.z] at hK ⊢; go_simp; refine (nSign hM HS.out).mono ?_; rintro ee wk ⟨rfl, B⟩; exact hK.out _ _ rfl B
      refine Jo.jm rfl ?_ ?_; rotate_left
      refine Jo.jm rfl ?_ ?_
      · rintro wj hJ _ rfl K hK; simp only [Jo.z] at hK ⊢; go_simp; refine (nSign hM' HT.out).mono ?_; rintro ee wk ⟨rfl, B⟩; exact hK.out _ _ rfl B
      iterate 2 (refine Jo.jm rfl ?_ ?_; rotate_left)
      exact Jo.Steps.nil
      all_goals (rintro wj hJ; (repeat rintro _ rfl); intro K hK; simp only [Jo.z] at hK ⊢; have xX1 := (X1.below hJ).cell; have xX2 := (X2.below hJ).cell; go_simp; exact hK.out _ _ rfl (br _ _))
    rintro w2 hJ _ rfl _ rfl _ rfl _ rfl _ rfl _ rfl -; simp only [Jo.z]; replace X1 := X1.below hJ; replace X2 := X2.below hJ; replace HB := Hqb HB hJ; refine Jo.jdone (by kernel_rfl) ?_; have xX1 := X1.cell; have xX2 := X2.cell
    go_wp2_with fail
    refine (nFar HF.out).mono ?_; rintro ee w3 ⟨rfl, B⟩; clear xX1 xX2; replace X1 := X1.below B; replace X2 := X2.below B; replace HB := Hqb HB B; clear B; have hw := HW.out; go_wp2
    go_ret
    exact ⟨rfl, HB.out⟩
theorem yCmp {w : World} {D D' M M' E E' : Int} {s s' : Bool} {z : Int} (hM : M < 18446744073709551616) (hM' : M' < 18446744073709551616) (hz : cmpI (rk D s M E) (rk D' s' M' E') = z) : Calls Tryz.prog 24 #[.agg #[.int .i64 D, .bool s, .int .u64 M, .int .i64 E], .agg #[.int .i64 D', .bool s', .int .u64 M', .int .i64 E']] w (PI w z) := by
  obtain ⟨r, hr⟩ : ∃ r, rk D s M E = r := ⟨_, rfl⟩; obtain ⟨r', hr'⟩ : ∃ r, rk D' s' M' E' = r := ⟨_, rfl⟩; rw [hr, hr'] at hz; have hs := cmp_sign (x := r) (y := r'); obtain ⟨σ, hσ⟩ : ∃ x, cmpI r 0 = x := ⟨_, rfl⟩; obtain ⟨τ, hτ⟩ : ∃ x, cmpI r' 0 = x := ⟨_, rfl⟩; rw [hσ, hτ, hz] at hs; have HS := Lib.hid hσ; have HT := Lib.hid hτ; have HR := Lib.hid hr
  have HR' := Lib.hid hr'
  have HZ := Lib.hid hz; have HQ := Lib.hid hs; clear hr hr' hσ hτ hz hs
  go_enter Tryz.func24, Tryz.ntmps24
  go_upto_region 1 with (fail)
  generalize hW1 : (w.alloc _).alloc _ = w1 at *; obtain ⟨X1, X2, HB⟩ := Bo.en2 hW1; clear hW1; have xX1 := X1.cell
  go_wp2_with fail
  refine (yTaken hM HR.out).mono ?_; rintro ee w2 ⟨K1, s1, M1, E1, rfl, q1, B⟩; clear xX1; replace X1 := X1.below B; replace X2 := X2.below B; replace HB := Hqb HB B; clear B
  go_upto_region 2 with (fail)
  have lX5 := Nat.le_refl (World.heap w2).size; have nX5X1 := X1.lt; have nX5X2 := X2.lt; generalize hWn : w2.alloc _ = w3 at *; obtain ⟨X5, BW⟩ := Bo.nw hWn; clear hWn; replace X1 := X1.below BW; replace X2 := X2.below BW; replace HB := Hqb HB BW; clear BW; have xX2 := X2.cell
  go_wp2_with fail
  refine (yTaken hM' HR'.out).mono ?_; rintro ee w4 ⟨K2, s2, M2, E2, rfl, q2, B⟩; clear xX2; replace X1 := X1.below B; replace X2 := X2.below B; replace X5 := X5.below B; replace HB := Hqb HB B; clear B
  go_upto_region 3 with (fail)
  have lX6 := Nat.le_refl (World.heap w4).size; have nX6X1 := X1.lt; have nX6X2 := X2.lt; have nX6X5 := X5.lt; generalize hWn : w4.alloc _ = w5 at *; obtain ⟨X6, BW⟩ := Bo.nw hWn; clear hWn; replace X1 := X1.below BW; replace X2 := X2.below BW; replace X5 := X5.below BW; replace HB := Hqb HB BW; clear BW; clear lX5 lX6; have hs1 := HS.out; rw [← q1.rk] at hs1; have hs2 := HT.out; rw [← q2.rk] at hs2
  have HS1 := Lib.hid hs1; have HS2 := Lib.hid hs2; clear hs1 hs2; have xX5 := X5.cell
  go_wp2_with fail
  refine (ySign q1.top HS1.out).mono ?_; rintro ee w6 ⟨rfl, B⟩; clear xX5; replace X5 := X5.below B; replace X6 := X6.below B; replace HB := Hqb HB B; clear B; have xX6 := X6.cell
  go_wp2_with fail
  refine (ySign q2.top HS2.out).mono ?_; rintro ee w7 ⟨rfl, B⟩; clear xX6; replace X5 := X5.below B; replace X6 := X6.below B; replace HB := Hqb HB B; clear B; clear HS1 HS2
  by_cases he : σ ≠ τ
  · have e0 : (σ == τ) = false := by simpa using he
    have h1 := HQ.out he
    rcases cmpI_tri σ τ with ⟨a1, a2⟩ | ⟨a1, a2⟩ | ⟨a1, a2⟩
    · obtain rfl : -1 = z := a2.symm.trans h1
      go_wp2
      go_ret
      exact ⟨rfl, HB.out⟩
    · exact absurd a1 he
    · obtain rfl : 1 = z := a2.symm.trans h1
      go_wp2
      go_ret
      exact ⟨rfl, HB.out⟩
  · obtain rfl : σ = τ := Decidable.not_not.1 he
    by_cases h0 : σ = 0
    · subst h0
      obtain rfl : 0 = z := by
        have h1 := cmpI_zero.1 HS.out; have h2 := cmpI_zero.1 HT.out; rw [← HZ.out, h1, h2]; rfl
      go_wp2
      go_ret
      exact ⟨rfl, HB.out⟩
    · have e0 : (σ == 0) = false := by simpa using h0
      have k1 : K1 ≠ 0 := fun e => h0 (by rw [← HS.out, q1.zero_iff.1 e]; rfl)
      have k2 : K2 ≠ 0 := fun e => h0 (by rw [← HT.out, q2.zero_iff.1 e]; rfl)
      have hst : s1 = s2 := by
        have e1 := q1.sign k1; have e2 := q2.sign k2; rw [HS.out] at e1; rw [HT.out, e1] at e2
        cases s1 <;> cases s2 <;> first | rfl | exact absurd e2 (by decide)
      subst hst; have hf := fa_fq q1 q2 k1 k2; rw [HS.out, HZ.out] at hf
      have hσ : σ = -1 ∨ σ = 1 := by
        have := cmpI_bd r 0
        rw [HS.out] at this
        omega
      by_cases hrr : r = r'
      · subst hrr; obtain ⟨rfl, -, rfl, rfl⟩ := q1.uniq q2
        obtain rfl : 0 = z := by rw [← HZ.out, cmpI_eq rfl]
        have xX5 := X5.cell; have xX6 := X6.cell; go_wp2
        go_ret
        exact ⟨rfl, HB.out⟩
      · have HW : Hid (IntKind.i64.wrap (-σ) = -σ) := Lib.hid (IntWalk.i64_in _ (by omega))
        clear hσ
        unfold fa at hf
        clear HS HT HQ HZ
        rcases q1.plc k1 with ⟨rfl, h1, h2, h3, h4, h5⟩ | ⟨rfl, rfl, rfl, h5⟩ <;> rcases q2.plc k2 with ⟨rfl, g1, g2, g3, g4, g5⟩ | ⟨rfl, rfl, rfl, g5⟩
        · rw [if_neg (by decide)] at hf; clear h1 h2 h3 h4 h5 g1 g2 g3 g4 g5
          rcases cmpI_tri E1 E2 with ⟨a1, a2⟩ | ⟨a1, a2⟩ | ⟨a1, a2⟩
          · rw [if_pos (by omega), a2] at hf
            have e2 : decide (E2 < E1) = false := decide_eq_false (by omega)
            have e3 : (E1 == E2) = false := by
              have : E1 ≠ E2 := by omega
              simpa using this
            obtain rfl : -σ = z := by omega
            have hw := HW.out; clear hf; have xX5 := X5.cell; have xX6 := X6.cell; go_wp2
            go_ret
            exact ⟨rfl, HB.out⟩
          · obtain rfl : E1 = E2 := a1
            rw [if_neg (by simp)] at hf
            rcases cmpI_tri M1 M2 with ⟨b1, b2⟩ | ⟨b1, b2⟩ | ⟨b1, b2⟩
            · rw [b2] at hf
              have e2 : decide (M2 < M1) = false := decide_eq_false (by omega)
              obtain rfl : -σ = z := by omega
              have hw := HW.out; clear hf; have xX5 := X5.cell; have xX6 := X6.cell; go_wp2
              go_ret
              exact ⟨rfl, HB.out⟩
            · exact absurd (q1.2.2.symm.trans (b1 ▸ q2.2.2)) hrr
            · rw [b2] at hf
              have e2 : decide (M2 < M1) = true := decide_eq_true b1
              rw [Int.mul_one] at hf; subst hf; have xX5 := X5.cell; have xX6 := X6.cell; go_wp2
              go_ret
              exact ⟨rfl, HB.out⟩
          · rw [if_pos (by omega), a2] at hf
            have e2 : decide (E2 < E1) = true := decide_eq_true a1
            rw [Int.mul_one] at hf; subst hf; have xX5 := X5.cell; have xX6 := X6.cell; go_wp2
            go_ret
            exact ⟨rfl, HB.out⟩
        · rw [if_pos (by decide), cmpI_lt (by decide)] at hf; clear h1 h2 h3 h4 h5 g5
          obtain rfl : -σ = z := by omega
          have hw := HW.out; clear hf; have xX5 := X5.cell; have xX6 := X6.cell; go_wp2
          go_ret
          exact ⟨rfl, HB.out⟩
        · rw [if_pos (by decide), cmpI_gt (by decide)] at hf; clear g1 g2 g3 g4 g5 h5; rw [Int.mul_one] at hf; subst hf; have xX5 := X5.cell; have xX6 := X6.cell; go_wp2
          go_ret
          exact ⟨rfl, HB.out⟩
        · exact absurd (q1.2.2.symm.trans q2.2.2) hrr
end Go.Proofs.YtpnmphofengoeaaGreatDoor

namespace Go.Proofs.YtpnmphofengoeaaGreatDoor
set_option maxHeartbeats 4000000
open Go.RowKit
set_option linter.unusedVariables false
set_option linter.unusedSimpArgs false
set_option maxRecDepth 100000

theorem nx_out {D : Int} {s : Bool} {M E r : Int} (q : Fq D s M E r) (h0 : D ≠ 0) : nx (!s) r = sgi s (min TP (plc D M E + 1)) := by
  rw [← q.2.2]
  have := TP_eq
  have h1 := plc_pos q h0
  unfold nx
  cases s
  · rfl
  · show max (-TP) (-plc D M E - 1) = -min TP (plc D M E + 1)
    omega
theorem nx_in {D : Int} {s : Bool} {M E r : Int} (q : Fq D s M E r) (h0 : D ≠ 0) : nx s r = sgi s (plc D M E - 1) := by
  have hb := q.bd
  have := TP_eq
  have h1 := plc_pos q h0; rw [← q.2.2] at hb ⊢
  unfold nx
  cases s
  · show max (-TP) (plc D M E - 1) = plc D M E - 1
    omega
  · show min TP (-plc D M E + 1) = -(plc D M E - 1)
    omega
theorem nOut_inf {w : World} {s : Bool} {r : Int} (hr : sgi s TP = r) : Calls Tryz.prog 116 #[.agg #[.int .i64 2, .bool s, .int .u64 0, .int .i64 0]] w (PN w r) := by
  go_enter Tryz.func116, Tryz.ntmps116
  go_upto_region 1 with (fail)
  generalize hW1 : (w.alloc _).alloc _ = w1 at *; obtain ⟨X1, XR, HB⟩ := Bo.en2 hW1; clear hW1; refine Jo.rk [0, 1, 2, 3, 4, 5, 6, 7, 8, 9] [some 3, some 4, some 5, some 6, some 7, some 8, some 9, some 10, some 11, some 12] [[], [0], [1], [2], [3], [3], [3, 5], [3, 6], [3, 4, 7], [3, 8]] 10 0 [Jo.qp w.heap.size 0, Jo.qi 2, Jo.qb true, Jo.qb true, Jo.qu, Jo.qu, Jo.qu, Jo.qu, Jo.qu, Jo.qb true] (by kernel_rfl) (by kernel_rfl) (by decide) rfl ?_ ?_
  · refine Jo.jm rfl ?_ ?_; rotate_left
    refine Jo.jm rfl ?_ ?_
    · rintro wj hJ _ rfl K hK; simp only [Jo.z] at hK ⊢; have xX10 := (X1.below hJ).a 0 (.int .i64 2) rfl; go_simp; exact hK.out _ _ rfl (br _ _)
    iterate 8 (refine Jo.jm rfl ?_ ?_; rotate_left)
    exact Jo.Steps.nil
    all_goals (rintro wj hJ; (repeat rintro _ rfl); intro K hK; simp only [Jo.z] at hK ⊢; go_simp; exact hK.out _ _ rfl (br _ _))
  rintro w2 hJ _ _ _ rfl _ rfl _ rfl _ rfl _ rfl _ rfl _ rfl _ rfl _ rfl -; simp only [Jo.z]; replace X1 := X1.below hJ; replace XR := XR.below hJ; replace HB := Hqb HB hJ; refine Jo.jdone (by kernel_rfl) ?_; have xX1 := X1.cell
  go_wp2_with fail
  refine (nInf hr).mono ?_; rintro ee w3 ⟨D2, s2, M2, E2, rfl, q2, B⟩; clear xX1; replace X1 := X1.below B; replace XR := XR.below B; replace HB := Hqb HB B; clear B; have xXR := XR.cell; have zXR0 := XR.frozen; have xX1 := X1.cell; go_wp2; clear xXR zXR0 xX1; have SX := StN.mk4 XR (.int .i64 D2) (.bool s2) (.int .u64 M2) (.int .i64 E2)
  exact bodyPost_ret (by simp [results, Tryz.results116, go_sem, SX.box.cell]) rfl ⟨_, _, _, _, rfl, q2, (SX.below HB.out (by omega))⟩
theorem nOut_huge {w : World} {s : Bool} {r : Int} (hr : sgi s TP = r) : Calls Tryz.prog 116 #[.agg #[.int .i64 1, .bool s, .int .u64 18446744073709551615, .int .i64 1048576]] w (PN w r) := by
  go_enter Tryz.func116, Tryz.ntmps116
  go_upto_region 1 with (fail)
  generalize hW1 : (w.alloc _).alloc _ = w1 at *; obtain ⟨X1, XR, HB⟩ := Bo.en2 hW1; clear hW1; refine Jo.rk [0, 1, 2, 3, 4, 5, 6, 7, 8, 9] [some 3, some 4, some 5, some 6, some 7, some 8, some 9, some 10, some 11, some 12] [[], [0], [1], [2], [3], [3], [3, 5], [3, 6], [3, 4, 7], [3, 8]] 10 0 [Jo.qp w.heap.size 0, Jo.qi 1, Jo.qb false, Jo.qb false, Jo.q4 1 s 18446744073709551615 1048576, Jo.qp w.heap.size 1, Jo.qb s, Jo.q4 1 s 18446744073709551615 1048576, Jo.qb true, Jo.qb true] (by kernel_rfl) (by kernel_rfl) (by decide) rfl ?_ ?_
  · refine Jo.jm rfl ?_ ?_; rotate_left
    refine Jo.jm rfl ?_ ?_
    · rintro wj hJ _ rfl K hK; simp only [Jo.z] at hK ⊢; have xX10 := (X1.below hJ).a 0 (.int .i64 1) rfl; go_simp; exact hK.out _ _ rfl (br _ _)
    iterate 4 (refine Jo.jm rfl ?_ ?_; rotate_left)
    refine Jo.jm rfl ?_ ?_
    · rintro wj hJ _ rfl _ rfl K hK; simp only [Jo.z] at hK ⊢; have xX11 := (X1.below hJ).a 1 (.bool s) rfl; go_simp; exact hK.out _ _ rfl (br _ _)
    refine Jo.jm rfl ?_ ?_
    · rintro wj hJ _ rfl _ rfl K hK; simp only [Jo.z] at hK ⊢; go_simp; refine (nH).mono ?_; rintro ee wk ⟨rfl, B⟩; exact hK.out _ _ rfl B
    refine Jo.jm rfl ?_ ?_
    · rintro wj hJ _ rfl _ rfl _ rfl K hK; simp only [Jo.z] at hK ⊢; go_simp
      exact hK.out _ _ (by first | rfl | (show Value.bool _ = Value.bool _; simp)) (br _ _)
    refine Jo.jm rfl ?_ ?_; rotate_left
    exact Jo.Steps.nil
    all_goals (rintro wj hJ; (repeat rintro _ rfl); intro K hK; simp only [Jo.z] at hK ⊢; have xX1 := (X1.below hJ).cell; go_simp; exact hK.out _ _ rfl (br _ _))
  rintro w2 hJ _ _ _ rfl _ rfl _ rfl _ rfl _ _ _ rfl _ rfl _ rfl _ rfl -; simp only [Jo.z]; replace X1 := X1.below hJ; replace XR := XR.below hJ; replace HB := Hqb HB hJ; refine Jo.jdone (by kernel_rfl) ?_; have xX1 := X1.cell
  go_wp2_with fail
  refine (nInf hr).mono ?_; rintro ee w3 ⟨D2, s2, M2, E2, rfl, q2, B⟩; clear xX1; replace X1 := X1.below B; replace XR := XR.below B; replace HB := Hqb HB B; clear B; have xXR := XR.cell; have zXR0 := XR.frozen; have xX1 := X1.cell; go_wp2; clear xXR zXR0 xX1; have SX := StN.mk4 XR (.int .i64 D2) (.bool s2) (.int .u64 M2) (.int .i64 E2)
  exact bodyPost_ret (by simp [results, Tryz.results116, go_sem, SX.box.cell]) rfl ⟨_, _, _, _, rfl, q2, (SX.below HB.out (by omega))⟩
theorem nOut_carry {w : World} {s : Bool} {E r : Int} (hF : Fq 1 s 9223372036854775808 (E + 1) r) (h1 : -1048576 ≤ E) (h2 : E < 1048576) : Calls Tryz.prog 116 #[.agg #[.int .i64 1, .bool s, .int .u64 18446744073709551615, .int .i64 E]] w (PN w r) := by
  have hq : E ≠ 1048576 := by omega
  have HW : Hid (IntKind.i64.wrap (E + 1) = E + 1) := Lib.hid (IntWalk.i64_in _ (by omega))
  go_enter Tryz.func116, Tryz.ntmps116
  go_upto_region 1 with (fail)
  generalize hW1 : (w.alloc _).alloc _ = w1 at *; obtain ⟨X1, XR, HB⟩ := Bo.en2 hW1; clear hW1; refine Jo.rk [0, 1, 2, 3, 4, 5, 6, 7, 8, 9] [some 3, some 4, some 5, some 6, some 7, some 8, some 9, some 10, some 11, some 12] [[], [0], [1], [2], [3], [3], [3, 5], [3, 6], [3, 4, 7], [3, 8]] 10 0 [Jo.qp w.heap.size 0, Jo.qi 1, Jo.qb false, Jo.qb false, Jo.q4 1 s 18446744073709551615 E, Jo.qp w.heap.size 1, Jo.qb s, Jo.q4 1 s 18446744073709551615 1048576, Jo.qb false, Jo.qb false] (by kernel_rfl) (by kernel_rfl) (by decide) rfl ?_ ?_
  · refine Jo.jm rfl ?_ ?_; rotate_left
    refine Jo.jm rfl ?_ ?_
    · rintro wj hJ _ rfl K hK; simp only [Jo.z] at hK ⊢; have xX10 := (X1.below hJ).a 0 (.int .i64 1) rfl; go_simp; exact hK.out _ _ rfl (br _ _)
    iterate 4 (refine Jo.jm rfl ?_ ?_; rotate_left)
    refine Jo.jm rfl ?_ ?_
    · rintro wj hJ _ rfl _ rfl K hK; simp only [Jo.z] at hK ⊢; have xX11 := (X1.below hJ).a 1 (.bool s) rfl; go_simp; exact hK.out _ _ rfl (br _ _)
    refine Jo.jm rfl ?_ ?_
    · rintro wj hJ _ rfl _ rfl K hK; simp only [Jo.z] at hK ⊢; go_simp; refine (nH).mono ?_; rintro ee wk ⟨rfl, B⟩; exact hK.out _ _ rfl B
    refine Jo.jm rfl ?_ ?_
    · rintro wj hJ _ rfl _ rfl _ rfl K hK; simp only [Jo.z] at hK ⊢; go_simp
      exact hK.out _ _ (by first | rfl | (show Value.bool _ = Value.bool _; simp [hq])) (br _ _)
    refine Jo.jm rfl ?_ ?_; rotate_left
    exact Jo.Steps.nil
    all_goals (rintro wj hJ; (repeat rintro _ rfl); intro K hK; simp only [Jo.z] at hK ⊢; have xX1 := (X1.below hJ).cell; go_simp; exact hK.out _ _ rfl (br _ _))
  rintro w2 hJ _ _ _ rfl _ rfl _ rfl _ rfl _ _ _ rfl _ rfl _ rfl _ rfl -; simp only [Jo.z]; replace X1 := X1.below hJ; replace XR := XR.below hJ; replace HB := Hqb HB hJ; refine Jo.jdone (by kernel_rfl) ?_; have xX1 := X1.cell; have zX10 := X1.frozen
  go_upto_region 5 with (fail)
  clear xX1 zX10
  have SX : StN w2 (World.setCell w2 ⟨w.heap.size, 2, none⟩ (.int .u64 9223372036854775808)) _ _ #[.int .i64 1, .bool s, .int .u64 9223372036854775808, .int .i64 E] _ := StN.at4 X1 2 (.int .u64 9223372036854775808)
  replace XR := XR.stn SX (by omega); replace HB := Hqs HB SX (by omega); replace X1 := SX.box; clear SX; generalize World.setCell w2 ⟨w.heap.size, 2, none⟩ (.int .u64 9223372036854775808) = w3 at *; have xX1 := X1.cell; have zX10 := X1.frozen; have hw := HW.out
  go_upto_region 6 with (fail)
  clear hw; clear xX1 zX10
  have SX : StN w3 (World.setCell w3 ⟨w.heap.size, 3, none⟩ (.int .i64 (E + 1))) _ _ #[.int .i64 1, .bool s, .int .u64 9223372036854775808, .int .i64 (E + 1)] _ := StN.at4 X1 3 (.int .i64 (E + 1))
  replace XR := XR.stn SX (by omega); replace HB := Hqs HB SX (by omega); replace X1 := SX.box; clear SX; generalize World.setCell w3 ⟨w.heap.size, 3, none⟩ (.int .i64 (E + 1)) = w4 at *; have xXR := XR.cell; have zXR0 := XR.frozen; have xX1 := X1.cell; go_wp2; clear xXR zXR0 xX1; have SX := StN.mk4 XR (.int .i64 1) (.bool s) (.int .u64 9223372036854775808) (.int .i64 (E + 1))
  exact bodyPost_ret (by simp [results, Tryz.results116, go_sem, SX.box.cell]) rfl ⟨_, _, _, _, rfl, hF, (SX.below HB.out (by omega))⟩
theorem nOut_plus {w : World} {s : Bool} {M E r : Int} (hF : Fq 1 s (M + 1) E r) (h1 : 0 ≤ M) (h2 : M < 18446744073709551615) : Calls Tryz.prog 116 #[.agg #[.int .i64 1, .bool s, .int .u64 M, .int .i64 E]] w (PN w r) := by
  have hq : M ≠ 18446744073709551615 := by omega
  have e1 : (M == 18446744073709551615) = false := by simpa using hq
  have HW : Hid (IntKind.u64.wrap (M + 1) = M + 1) := Lib.hid (IntWalk.u64_in _ (by omega))
  go_enter Tryz.func116, Tryz.ntmps116
  go_upto_region 1 with (fail)
  generalize hW1 : (w.alloc _).alloc _ = w1 at *; obtain ⟨X1, XR, HB⟩ := Bo.en2 hW1; clear hW1; refine Jo.rk [0, 1, 2, 3, 4, 5, 6, 7, 8, 9] [some 3, some 4, some 5, some 6, some 7, some 8, some 9, some 10, some 11, some 12] [[], [0], [1], [2], [3], [3], [3, 5], [3, 6], [3, 4, 7], [3, 8]] 10 0 [Jo.qp w.heap.size 0, Jo.qi 1, Jo.qb false, Jo.qb false, Jo.q4 1 s M E, Jo.qp w.heap.size 1, Jo.qb s, Jo.q4 1 s 18446744073709551615 1048576, Jo.qb false, Jo.qb false] (by kernel_rfl) (by kernel_rfl) (by decide) rfl ?_ ?_
  · refine Jo.jm rfl ?_ ?_; rotate_left
    refine Jo.jm rfl ?_ ?_
    · rintro wj hJ _ rfl K hK; simp only [Jo.z] at hK ⊢; have xX10 := (X1.below hJ).a 0 (.int .i64 1) rfl; go_simp; exact hK.out _ _ rfl (br _ _)
    iterate 4 (refine Jo.jm rfl ?_ ?_; rotate_left)
    refine Jo.jm rfl ?_ ?_
    · rintro wj hJ _ rfl _ rfl K hK; simp only [Jo.z] at hK ⊢; have xX11 := (X1.below hJ).a 1 (.bool s) rfl; go_simp; exact hK.out _ _ rfl (br _ _)
    refine Jo.jm rfl ?_ ?_
    · rintro wj hJ _ rfl _ rfl K hK; simp only [Jo.z] at hK ⊢; go_simp; refine (nH).mono ?_; rintro ee wk ⟨rfl, B⟩; exact hK.out _ _ rfl B
    refine Jo.jm rfl ?_ ?_
    · rintro wj hJ _ rfl _ rfl _ rfl K hK; simp only [Jo.z] at hK ⊢; go_simp
      exact hK.out _ _ (by first | rfl | (show Value.bool _ = Value.bool _; simp [hq])) (br _ _)
    refine Jo.jm rfl ?_ ?_; rotate_left
    exact Jo.Steps.nil
    all_goals (rintro wj hJ; (repeat rintro _ rfl); intro K hK; simp only [Jo.z] at hK ⊢; have xX1 := (X1.below hJ).cell; go_simp; exact hK.out _ _ rfl (br _ _))
  rintro w2 hJ _ _ _ rfl _ rfl _ rfl _ rfl _ _ _ rfl _ rfl _ rfl _ rfl -; simp only [Jo.z]; replace X1 := X1.below hJ; replace XR := XR.below hJ; replace HB := Hqb HB hJ; refine Jo.jdone (by kernel_rfl) ?_; have xX1 := X1.cell; have zX10 := X1.frozen; have hw := HW.out
  go_upto_region 8 with (fail)
  clear hw; clear xX1 zX10
  have SX : StN w2 (World.setCell w2 ⟨w.heap.size, 2, none⟩ (.int .u64 (M + 1))) _ _ #[.int .i64 1, .bool s, .int .u64 (M + 1), .int .i64 E] _ := StN.at4 X1 2 (.int .u64 (M + 1))
  replace XR := XR.stn SX (by omega); replace HB := Hqs HB SX (by omega); replace X1 := SX.box; clear SX; generalize World.setCell w2 ⟨w.heap.size, 2, none⟩ (.int .u64 (M + 1)) = w3 at *; have xXR := XR.cell; have zXR0 := XR.frozen; have xX1 := X1.cell; go_wp2; clear xXR zXR0 xX1; have SX := StN.mk4 XR (.int .i64 1) (.bool s) (.int .u64 (M + 1)) (.int .i64 E)
  exact bodyPost_ret (by simp [results, Tryz.results116, go_sem, SX.box.cell]) rfl ⟨_, _, _, _, rfl, hF, (SX.below HB.out (by omega))⟩
theorem nOut {w : World} {D : Int} {s : Bool} {M E x r : Int} (q : Fq D s M E x) (h0 : D ≠ 0) (hr : nx (!s) x = r) : Calls Tryz.prog 116 #[.agg #[.int .i64 D, .bool s, .int .u64 M, .int .i64 E]] w (PN w r) := by
  rw [nx_out q h0] at hr
  have := TP_eq
  rcases q.plc h0 with ⟨rfl, h1, h2, h3, h4, h5⟩ | ⟨rfl, rfl, rfl, h5⟩ <;> rw [h5] at hr
  · by_cases hm : M = 18446744073709551615
    · subst hm
      by_cases he : E = 1048576
      · subst he; exact nOut_huge hr
      · refine nOut_carry (Fq.fin (by decide) (by decide) (by omega) (by omega) ?_) h3 (by omega); rw [← hr]
        congr 1
        omega
    · refine nOut_plus (Fq.fin (by omega) (by omega) h3 h4 ?_) (by omega) (by omega); rw [← hr]
      congr 1
      omega
  · exact nOut_inf hr
theorem nIn_inf {w : World} {s : Bool} {r : Int} (hF : Fq 1 s 18446744073709551615 1048576 r) : Calls Tryz.prog 115 #[.agg #[.int .i64 2, .bool s, .int .u64 0, .int .i64 0]] w (PN w r) := by
  go_enter Tryz.func115, Tryz.ntmps115
  go_upto_region 1 with (fail)
  generalize hW1 : (w.alloc _).alloc _ = w1 at *; obtain ⟨X1, XR, HB⟩ := Bo.en2 hW1; clear hW1; have xX1 := X1.cell
  go_wp2_with fail
  refine (nH (s := s)).mono ?_; rintro ee w3 ⟨rfl, B⟩; clear xX1; replace X1 := X1.below B; replace XR := XR.below B; replace HB := Hqb HB B; clear B; have xXR := XR.cell; have zXR0 := XR.frozen; have xX1 := X1.cell; go_wp2; clear xXR zXR0 xX1; have SX := StN.mk4 XR (.int .i64 1) (.bool s) (.int .u64 18446744073709551615) (.int .i64 1048576)
  exact bodyPost_ret (by simp [results, Tryz.results115, go_sem, SX.box.cell]) rfl ⟨_, _, _, _, rfl, hF, (SX.below HB.out (by omega))⟩
theorem nIn_tiny {w : World} {s : Bool} {r : Int} (hr : 0 = r) : Calls Tryz.prog 115 #[.agg #[.int .i64 1, .bool s, .int .u64 9223372036854775808, .int .i64 (-1048576)]] w (PN w r) := by
  subst hr
  go_enter Tryz.func115, Tryz.ntmps115
  go_upto_region 1 with (fail)
  generalize hW1 : (w.alloc _).alloc _ = w1 at *; obtain ⟨X1, XR, HB⟩ := Bo.en2 hW1; clear hW1; have xX1 := X1.cell
  go_upto_region 3 with (fail)
  clear xX1; refine Jo.rk [0, 1, 2, 3, 4] [some 9, some 10, some 11, some 12, some 13] [[], [], [1], [2], [0, 3]] 5 0 [Jo.Fact.eq (.agg #[.int .i64 1, .bool s, .int .u64 9223372036854775808, .int .i64 (-1048576)]), Jo.qp w.heap.size 1, Jo.qb s, Jo.Fact.eq (.agg #[.int .i64 1, .bool s, .int .u64 9223372036854775808, .int .i64 (-1048576)]), Jo.qb true] (by kernel_rfl) (by kernel_rfl) (by decide) rfl ?_ ?_
  · iterate 2 (refine Jo.jm rfl ?_ ?_; rotate_left)
    refine Jo.jm rfl ?_ ?_
    · rintro wj hJ _ rfl K hK; simp only [Jo.z] at hK ⊢; have xX11 := (X1.below hJ).a 1 (.bool s) rfl; go_simp; exact hK.out _ _ rfl (br _ _)
    refine Jo.jm rfl ?_ ?_
    · rintro wj hJ _ rfl K hK; simp only [Jo.z] at hK ⊢; go_simp; refine (nT).mono ?_; rintro ee wk ⟨rfl, B⟩; exact hK.out _ _ rfl B
    refine Jo.jm rfl ?_ ?_
    · rintro wj hJ _ rfl _ rfl K hK; simp only [Jo.z] at hK ⊢; go_simp
      exact hK.out _ _ (by first | rfl | (show Value.bool _ = Value.bool _; simp)) (br _ _)
    exact Jo.Steps.nil
    all_goals (rintro wj hJ; (repeat rintro _ rfl); intro K hK; simp only [Jo.z] at hK ⊢; have xX1 := (X1.below hJ).cell; go_simp; exact hK.out _ _ rfl (br _ _))
  rintro w2 hJ _ rfl _ _ _ rfl _ rfl _ rfl -; simp only [Jo.z]; replace X1 := X1.below hJ; replace XR := XR.below hJ; replace HB := Hqb HB hJ; refine Jo.jdone (by kernel_rfl) ?_; have xXR := XR.cell; have zXR0 := XR.frozen; have xX1 := X1.cell; go_wp2; clear xXR zXR0 xX1; have SX := StN.mk4 XR (.int .i64 0) (.bool false) (.int .u64 0) (.int .i64 0)
  exact bodyPost_ret (by simp [results, Tryz.results115, go_sem, SX.box.cell]) rfl ⟨_, _, _, _, rfl, Fq.nought, (SX.below HB.out (by omega))⟩
theorem nIn_carry {w : World} {s : Bool} {E r : Int} (hF : Fq 1 s 18446744073709551615 (E - 1) r) (h1 : -1048576 < E) (h2 : E ≤ 1048576) : Calls Tryz.prog 115 #[.agg #[.int .i64 1, .bool s, .int .u64 9223372036854775808, .int .i64 E]] w (PN w r) := by
  have hq : E ≠ -1048576 := by omega
  have HW : Hid (IntKind.i64.wrap (E - 1) = E - 1) := Lib.hid (IntWalk.i64_in _ (by omega))
  go_enter Tryz.func115, Tryz.ntmps115
  go_upto_region 1 with (fail)
  generalize hW1 : (w.alloc _).alloc _ = w1 at *; obtain ⟨X1, XR, HB⟩ := Bo.en2 hW1; clear hW1; have xX1 := X1.cell
  go_upto_region 3 with (fail)
  clear xX1; refine Jo.rk [0, 1, 2, 3, 4] [some 9, some 10, some 11, some 12, some 13] [[], [], [1], [2], [0, 3]] 5 0 [Jo.q4 1 s 9223372036854775808 E, Jo.qp w.heap.size 1, Jo.qb s, Jo.Fact.eq (.agg #[.int .i64 1, .bool s, .int .u64 9223372036854775808, .int .i64 (-1048576)]), Jo.qb false] (by kernel_rfl) (by kernel_rfl) (by decide) rfl ?_ ?_
  · iterate 2 (refine Jo.jm rfl ?_ ?_; rotate_left)
    refine Jo.jm rfl ?_ ?_
    · rintro wj hJ _ rfl K hK; simp only [Jo.z] at hK ⊢; have xX11 := (X1.below hJ).a 1 (.bool s) rfl; go_simp; exact hK.out _ _ rfl (br _ _)
    refine Jo.jm rfl ?_ ?_
    · rintro wj hJ _ rfl K hK; simp only [Jo.z] at hK ⊢; go_simp; refine (nT).mono ?_; rintro ee wk ⟨rfl, B⟩; exact hK.out _ _ rfl B
    refine Jo.jm rfl ?_ ?_
    · rintro wj hJ _ rfl _ rfl K hK; simp only [Jo.z] at hK ⊢; go_simp
      exact hK.out _ _ (by first | rfl | (show Value.bool _ = Value.bool _; simp [hq])) (br _ _)
    exact Jo.Steps.nil
    all_goals (rintro wj hJ; (repeat rintro _ rfl); intro K hK; simp only [Jo.z] at hK ⊢; have xX1 := (X1.below hJ).cell; go_simp; exact hK.out _ _ rfl (br _ _))
  rintro w2 hJ _ rfl _ _ _ rfl _ rfl _ rfl -; simp only [Jo.z]; replace X1 := X1.below hJ; replace XR := XR.below hJ; replace HB := Hqb HB hJ; refine Jo.jdone (by kernel_rfl) ?_; have xX1 := X1.cell; have zX10 := X1.frozen
  go_upto_region 7 with (fail)
  clear xX1 zX10
  have SX : StN w2 (World.setCell w2 ⟨w.heap.size, 2, none⟩ (.int .u64 18446744073709551615)) _ _ #[.int .i64 1, .bool s, .int .u64 18446744073709551615, .int .i64 E] _ := StN.at4 X1 2 (.int .u64 18446744073709551615)
  replace XR := XR.stn SX (by omega); replace HB := Hqs HB SX (by omega); replace X1 := SX.box; clear SX; generalize World.setCell w2 ⟨w.heap.size, 2, none⟩ (.int .u64 18446744073709551615) = w3 at *; have xX1 := X1.cell; have zX10 := X1.frozen; have hw := HW.out
  go_upto_region 8 with (fail)
  clear hw; clear xX1 zX10
  have SX : StN w3 (World.setCell w3 ⟨w.heap.size, 3, none⟩ (.int .i64 (E - 1))) _ _ #[.int .i64 1, .bool s, .int .u64 18446744073709551615, .int .i64 (E - 1)] _ := StN.at4 X1 3 (.int .i64 (E - 1))
  replace XR := XR.stn SX (by omega); replace HB := Hqs HB SX (by omega); replace X1 := SX.box; clear SX; generalize World.setCell w3 ⟨w.heap.size, 3, none⟩ (.int .i64 (E - 1)) = w4 at *; have xXR := XR.cell; have zXR0 := XR.frozen; have xX1 := X1.cell; go_wp2; clear xXR zXR0 xX1; have SX := StN.mk4 XR (.int .i64 1) (.bool s) (.int .u64 18446744073709551615) (.int .i64 (E - 1))
  exact bodyPost_ret (by simp [results, Tryz.results115, go_sem, SX.box.cell]) rfl ⟨_, _, _, _, rfl, hF, (SX.below HB.out (by omega))⟩
theorem nIn_less {w : World} {s : Bool} {M E r : Int} (hF : Fq 1 s (M - 1) E r) (h1 : 9223372036854775808 < M) (h2 : M ≤ 18446744073709551615) : Calls Tryz.prog 115 #[.agg #[.int .i64 1, .bool s, .int .u64 M, .int .i64 E]] w (PN w r) := by
  have hq : M ≠ 9223372036854775808 := by omega
  have e1 : (M == 9223372036854775808) = false := by simpa using hq
  have HW : Hid (IntKind.u64.wrap (M - 1) = M - 1) := Lib.hid (IntWalk.u64_in _ (by omega))
  go_enter Tryz.func115, Tryz.ntmps115
  go_upto_region 1 with (fail)
  generalize hW1 : (w.alloc _).alloc _ = w1 at *; obtain ⟨X1, XR, HB⟩ := Bo.en2 hW1; clear hW1; have xX1 := X1.cell
  go_upto_region 3 with (fail)
  clear xX1; refine Jo.rk [0, 1, 2, 3, 4] [some 9, some 10, some 11, some 12, some 13] [[], [], [1], [2], [0, 3]] 5 0 [Jo.q4 1 s M E, Jo.qp w.heap.size 1, Jo.qb s, Jo.Fact.eq (.agg #[.int .i64 1, .bool s, .int .u64 9223372036854775808, .int .i64 (-1048576)]), Jo.qb false] (by kernel_rfl) (by kernel_rfl) (by decide) rfl ?_ ?_
  · iterate 2 (refine Jo.jm rfl ?_ ?_; rotate_left)
    refine Jo.jm rfl ?_ ?_
    · rintro wj hJ _ rfl K hK; simp only [Jo.z] at hK ⊢; have xX11 := (X1.below hJ).a 1 (.bool s) rfl; go_simp; exact hK.out _ _ rfl (br _ _)
    refine Jo.jm rfl ?_ ?_
    · rintro wj hJ _ rfl K hK; simp only [Jo.z] at hK ⊢; go_simp; refine (nT).mono ?_; rintro ee wk ⟨rfl, B⟩; exact hK.out _ _ rfl B
    refine Jo.jm rfl ?_ ?_
    · rintro wj hJ _ rfl _ rfl K hK; simp only [Jo.z] at hK ⊢; go_simp
      exact hK.out _ _ (by first | rfl | (show Value.bool _ = Value.bool _; simp [hq])) (br _ _)
    exact Jo.Steps.nil
    all_goals (rintro wj hJ; (repeat rintro _ rfl); intro K hK; simp only [Jo.z] at hK ⊢; have xX1 := (X1.below hJ).cell; go_simp; exact hK.out _ _ rfl (br _ _))
  rintro w2 hJ _ rfl _ _ _ rfl _ rfl _ rfl -; simp only [Jo.z]; replace X1 := X1.below hJ; replace XR := XR.below hJ; replace HB := Hqb HB hJ; refine Jo.jdone (by kernel_rfl) ?_; have xX1 := X1.cell; have zX10 := X1.frozen; have hw := HW.out
  go_upto_region 10 with (fail)
  clear hw; clear xX1 zX10
  have SX : StN w2 (World.setCell w2 ⟨w.heap.size, 2, none⟩ (.int .u64 (M - 1))) _ _ #[.int .i64 1, .bool s, .int .u64 (M - 1), .int .i64 E] _ := StN.at4 X1 2 (.int .u64 (M - 1))
  replace XR := XR.stn SX (by omega); replace HB := Hqs HB SX (by omega); replace X1 := SX.box; clear SX; generalize World.setCell w2 ⟨w.heap.size, 2, none⟩ (.int .u64 (M - 1)) = w3 at *; have xXR := XR.cell; have zXR0 := XR.frozen; have xX1 := X1.cell; go_wp2; clear xXR zXR0 xX1; have SX := StN.mk4 XR (.int .i64 1) (.bool s) (.int .u64 (M - 1)) (.int .i64 E)
  exact bodyPost_ret (by simp [results, Tryz.results115, go_sem, SX.box.cell]) rfl ⟨_, _, _, _, rfl, hF, (SX.below HB.out (by omega))⟩
theorem nIn {w : World} {D : Int} {s : Bool} {M E x r : Int} (q : Fq D s M E x) (h0 : D ≠ 0) (hr : nx s x = r) : Calls Tryz.prog 115 #[.agg #[.int .i64 D, .bool s, .int .u64 M, .int .i64 E]] w (PN w r) := by
  rw [nx_in q h0] at hr
  have := TP_eq
  rcases q.plc h0 with ⟨rfl, h1, h2, h3, h4, h5⟩ | ⟨rfl, rfl, rfl, h5⟩ <;> rw [h5] at hr
  · by_cases hm : M = 9223372036854775808
    · subst hm
      by_cases he : E = -1048576
      · subst he; refine nIn_tiny (hr ▸ ?_)
        cases s <;> rfl
      · refine nIn_carry (Fq.fin (by decide) (by decide) (by omega) (by omega) ?_) (by omega) h4; rw [← hr]
        congr 1
        omega
    · refine nIn_less (Fq.fin (by omega) (by omega) h3 h4 ?_) (by omega) (by omega); rw [← hr]
      congr 1
      omega
  · refine nIn_inf (Fq.fin (by decide) (by decide) (by decide) (by decide) ?_); rw [← hr]
    rfl
theorem nNext {w : World} {D M E : Int} {s : Bool} {up : Bool} {r : Int} (hM : M < 18446744073709551616) (hr : nx up (rk D s M E) = r) : Calls Tryz.prog 104 #[.agg #[.int .i64 D, .bool s, .int .u64 M, .int .i64 E], .bool up] w (PN w r) := by
  obtain ⟨x, hx⟩ : ∃ x, rk D s M E = x := ⟨_, rfl⟩; rw [hx] at hr; have HX := Lib.hid hx; have HR := Lib.hid hr; clear hx hr
  go_enter Tryz.func104, Tryz.ntmps104
  go_upto_region 1 with (fail)
  generalize hW1 : (w.alloc _).alloc _ = w1 at *; obtain ⟨X1, XR, HB⟩ := Bo.en2 hW1; clear hW1; have xX1 := X1.cell
  go_wp2_with fail
  refine (nTaken hM HX.out).mono ?_; rintro ee w2 ⟨K1, s1, M1, E1, rfl, q1, B⟩; clear xX1; replace X1 := X1.below B; replace XR := XR.below B; replace HB := Hqb HB B; clear B; have xX1 := X1.cell; have zX10 := X1.frozen
  go_upto_region 2 with (fail)
  clear xX1 zX10; generalize hS : (((w2.setCell _ _).setCell _ _).setCell _ _).setCell _ _ = w3 at *; have SX := StN.of4 X1 hS; replace XR := XR.stn SX (by omega); replace HB := Hqs HB SX (by omega); replace X1 := SX.box; clear SX hS
  by_cases h0 : K1 = 0
  · subst h0; have hz := q1.zero_iff.1 rfl; subst hz
    have hF : Fq 1 (!up) 9223372036854775808 (-1048576) r := Fq.fin (by decide) (by decide) (by decide) (by decide) (by rw [← HR.out]; cases up <;> rfl)
    clear q1; have xX1 := X1.cell
    go_wp2_with fail
    refine (nT).mono ?_; rintro ee w4 ⟨rfl, B⟩; clear xX1; replace X1 := X1.below B; replace XR := XR.below B; replace HB := Hqb HB B; clear B; have xXR := XR.cell; have zXR0 := XR.frozen; have xX1 := X1.cell; go_wp2; clear xXR zXR0 xX1; have SX := StN.mk4 XR (.int .i64 1) (.bool (!up)) (.int .u64 9223372036854775808) (.int .i64 (-1048576))
    exact bodyPost_ret (by simp [results, Tryz.results104, go_sem, SX.box.cell]) rfl ⟨_, _, _, _, rfl, hF, (SX.below HB.out (by omega))⟩
  · have e0 : (K1 == 0) = false := by simpa using h0
    by_cases hs : s1 = up
    · subst hs; have xX1 := X1.cell
      go_wp2_with fail
      refine (nIn q1 h0 HR.out).mono ?_; rintro ee w4 ⟨K2, s2, M2, E2, rfl, q2, B⟩; clear xX1; replace X1 := X1.below B; replace XR := XR.below B; replace HB := Hqb HB B; clear B; have xXR := XR.cell; have zXR0 := XR.frozen; have xX1 := X1.cell; go_wp2; clear xXR zXR0 xX1; have SX := StN.mk4 XR (.int .i64 K2) (.bool s2) (.int .u64 M2) (.int .i64 E2)
      exact bodyPost_ret (by simp [results, Tryz.results104, go_sem, SX.box.cell]) rfl ⟨_, _, _, _, rfl, q2, (SX.below HB.out (by omega))⟩
    · obtain rfl : (!s1) = up := by cases s1 <;> cases up <;> first | rfl | exact absurd rfl hs
      clear hs
      have e2 : (s1 == !s1) = false := by cases s1 <;> rfl
      have xX1 := X1.cell
      go_wp2_with fail
      refine (nOut q1 h0 HR.out).mono ?_; rintro ee w4 ⟨K2, s2, M2, E2, rfl, q2, B⟩; clear xX1; replace X1 := X1.below B; replace XR := XR.below B; replace HB := Hqb HB B; clear B; have xXR := XR.cell; have zXR0 := XR.frozen; have xX1 := X1.cell; go_wp2; clear xXR zXR0 xX1; have SX := StN.mk4 XR (.int .i64 K2) (.bool s2) (.int .u64 M2) (.int .i64 E2)
      exact bodyPost_ret (by simp [results, Tryz.results104, go_sem, SX.box.cell]) rfl ⟨_, _, _, _, rfl, q2, (SX.below HB.out (by omega))⟩
end Go.Proofs.YtpnmphofengoeaaGreatDoor

namespace Go.Proofs.YtpnmphofengoeaaGreatDoor
open Go.RowKit
set_option linter.unusedVariables false
set_option linter.unusedSimpArgs false
set_option maxRecDepth 100000

def fin (s : Bool) (M E : Int) (aw : Bool) : Int := sgi s (if 1048576 < E then (if aw = true then TP else TP - 1) else if E < -1048576 then (if aw = true then 1 else 0) else M - 9223372036854775808 + 1 + (E + 1048576) * 9223372036854775808)
set_option maxHeartbeats 4000000 in
theorem yFin {w : World} {s aw : Bool} {M E r : Int} (h1 : 9223372036854775808 ≤ M) (h2 : M < 18446744073709551616) (hr : fin s M E aw = r) : Calls Tryz.prog 93 #[.bool s, .int .u64 M, .int .i64 E, .bool aw] w (PN w r) := by
  unfold fin at hr
  have htp := TP_eq
  by_cases hb : 1048576 < E
  · rw [if_pos hb] at hr
    by_cases ha : aw = true
    · subst ha; rw [if_pos rfl] at hr; have HR := Lib.hid hr; clear hr
      go_enter Tryz.func93, Tryz.ntmps93
      go_upto_region 1 with (fail)
      generalize hW1 : w.alloc _ = w1 at *; obtain ⟨XR, HB⟩ := Bo.en1 hW1; clear hW1
      go_wp2_with fail
      refine (yInf HR.out).mono ?_; rintro ee w2 ⟨K2, s2, M2, E2, rfl, q2, B⟩; replace XR := XR.below B; replace HB := Hqb HB B; clear B; have xXR := XR.cell; have zXR0 := XR.frozen; go_wp2; clear xXR zXR0; have SX := StN.mk4 XR (.int .i64 K2) (.bool s2) (.int .u64 M2) (.int .i64 E2); exact bodyPost_ret (by simp [results, Tryz.results93, go_sem, SX.box.cell]) rfl ⟨_, _, _, _, rfl, q2, (SX.below HB.out (by omega))⟩
    · have ha : aw = false := by simpa using ha
      subst ha; rw [if_neg (by decide)] at hr
      have hF : Fq 1 s 18446744073709551615 1048576 r := Fq.fin (by decide) (by decide) (by decide) (by decide) hr
      clear hr
      go_enter Tryz.func93, Tryz.ntmps93
      go_upto_region 1 with (fail)
      generalize hW1 : w.alloc _ = w1 at *; obtain ⟨XR, HB⟩ := Bo.en1 hW1; clear hW1; have xXR := XR.cell; have zXR0 := XR.frozen; go_wp2; clear xXR zXR0; have SX := StN.mk4 XR (.int .i64 1) (.bool s) (.int .u64 18446744073709551615) (.int .i64 1048576); exact bodyPost_ret (by simp [results, Tryz.results93, go_sem, SX.box.cell]) rfl ⟨_, _, _, _, rfl, hF, (SX.below HB.out (by omega))⟩
  · rw [if_neg hb] at hr
    by_cases hl : E < -1048576
    · rw [if_pos hl] at hr
      by_cases ha : aw = true
      · subst ha; rw [if_pos rfl] at hr
        have hF : Fq 1 s 9223372036854775808 (-1048576) r := Fq.fin (by decide) (by decide) (by decide) (by decide) hr
        clear hr
        go_enter Tryz.func93, Tryz.ntmps93
        go_upto_region 1 with (fail)
        generalize hW1 : w.alloc _ = w1 at *; obtain ⟨XR, HB⟩ := Bo.en1 hW1; clear hW1; have xXR := XR.cell; have zXR0 := XR.frozen; go_wp2; clear xXR zXR0; have SX := StN.mk4 XR (.int .i64 1) (.bool s) (.int .u64 9223372036854775808) (.int .i64 (-1048576)); exact bodyPost_ret (by simp [results, Tryz.results93, go_sem, SX.box.cell]) rfl ⟨_, _, _, _, rfl, hF, (SX.below HB.out (by omega))⟩
      · have ha : aw = false := by simpa using ha
        subst ha; rw [if_neg (by decide)] at hr
        obtain rfl : 0 = r := by rw [← hr]; cases s <;> rfl
        clear hr
        go_enter Tryz.func93, Tryz.ntmps93
        go_upto_region 1 with (fail)
        generalize hW1 : w.alloc _ = w1 at *; obtain ⟨XR, HB⟩ := Bo.en1 hW1; clear hW1; have xXR := XR.cell; have zXR0 := XR.frozen; go_wp2; clear xXR zXR0; have SX := StN.mk4 XR (.int .i64 0) (.bool false) (.int .u64 0) (.int .i64 0); exact bodyPost_ret (by simp [results, Tryz.results93, go_sem, SX.box.cell]) rfl ⟨_, _, _, _, rfl, Fq.nought, (SX.below HB.out (by omega))⟩
    · rw [if_neg hl] at hr
      have hF : Fq 1 s M E r := Fq.fin h1 h2 (by omega) (by omega) hr
      clear hr
      go_enter Tryz.func93, Tryz.ntmps93
      go_upto_region 1 with (fail)
      generalize hW1 : w.alloc _ = w1 at *; obtain ⟨XR, HB⟩ := Bo.en1 hW1; clear hW1; have xXR := XR.cell; have zXR0 := XR.frozen; go_wp2; clear xXR zXR0; have SX := StN.mk4 XR (.int .i64 1) (.bool s) (.int .u64 M) (.int .i64 E); exact bodyPost_ret (by simp [results, Tryz.results93, go_sem, SX.box.cell]) rfl ⟨_, _, _, _, rfl, hF, (SX.below HB.out (by omega))⟩
end Go.Proofs.YtpnmphofengoeaaGreatDoor

namespace Go.Proofs.YtpnmphofengoeaaGreatDoor
open Go.RowKit
set_option linter.unusedVariables false

def tp (m : Nat) : Nat := m * 2 ^ 64 / 2 ^ blen m
theorem tp_ge {m : Nat} (h : m ≠ 0) : 2 ^ 63 ≤ tp m := by
  unfold tp
  have h1 := blen_le h
  have h2 : blen m ≠ 0 := fun e => h (blen_eq_zero.1 e)
  obtain ⟨k, hk⟩ : ∃ k, blen m = k + 1 := ⟨blen m - 1, by omega⟩
  rw [hk] at h1 ⊢; rw [Nat.le_div_iff_mul_le (Nat.pow_pos (by decide)), Nat.pow_succ, Nat.add_sub_cancel] at *
  have := Nat.mul_le_mul_right (2 ^ 64) h1
  calc 2 ^ 63 * (2 ^ k * 2) = 2 ^ k * 2 ^ 64 := by rw [show (2 : Nat) ^ 64 = 2 ^ 63 * 2 by decide, Nat.mul_comm (2 ^ 63) (2 ^ k * 2), Nat.mul_assoc, Nat.mul_comm 2 (2 ^ 63)]
    _ ≤ m * 2 ^ 64 := this
theorem tp_lt (m : Nat) : tp m < 2 ^ 64 := by
  unfold tp
  rw [Nat.div_lt_iff_lt_mul (Nat.pow_pos (by decide)), Nat.mul_comm (2 ^ 64)]; exact Nat.mul_lt_mul_of_pos_right (blen_lt m) (Nat.pow_pos (by decide))
theorem blen_mul {m : Nat} (h : m ≠ 0) (t : Nat) : blen (m * 2 ^ t) = blen m + t := by
  have := blen_shift (m * 2 ^ t) t (Nat.le_mul_of_pos_left _ (by omega))
  rw [Nat.mul_div_cancel _ (Nat.pow_pos (by decide))] at this
  omega
theorem tp_mul {m : Nat} (h : m ≠ 0) (t : Nat) : tp (m * 2 ^ t) = tp m := by
  unfold tp
  rw [blen_mul h, Nat.pow_add, Nat.mul_right_comm m, Nat.mul_div_mul_right _ _ (Nat.pow_pos (by decide))]
theorem tp_big {m : Nat} (h : 64 ≤ blen m) : tp m = m / 2 ^ (blen m - 64) := by
  unfold tp
  rw [show 2 ^ blen m = 2 ^ (blen m - 64) * 2 ^ 64 by rw [← Nat.pow_add]; congr 1; omega, Nat.mul_div_mul_right _ _ (Nat.pow_pos (by decide))]
theorem tp_small {m : Nat} (h : blen m ≤ 64) : tp m = m * 2 ^ (64 - blen m) := by
  unfold tp
  rw [show 2 ^ 64 = 2 ^ (64 - blen m) * 2 ^ blen m by rw [← Nat.pow_add]; congr 1; omega, ← Nat.mul_assoc, Nat.mul_div_cancel _ (Nat.pow_pos (by decide))]

def xp (m : Nat) (E : Int) : Int := E + (blen m : Nat) - 64
def lo (m : Nat) (E : Int) : Int :=
  if m = 0 then 0 else if 1048576 < xp m E then 19342822337206103650074624 else if xp m E < -1048576 then 0 else (tp m : Int) - 9223372036854775808 + 1 + (xp m E + 1048576) * 9223372036854775808
def ext (m : Nat) (E : Int) : Bool := m == 0 || (decide (xp m E ≤ 1048576) && (decide (-1048576 ≤ xp m E) && decide (blen m ≤ 64)))
def hi (m : Nat) (E : Int) : Int := if ext m E = true then lo m E else lo m E + 1
def rnd (up : Bool) (N E : Int) : Int := sgi (decide (N < 0)) (if (up != decide (N < 0)) = true then hi N.natAbs E else lo N.natAbs E)
theorem lo_mul {m : Nat} (h : m ≠ 0) (t : Nat) (E : Int) : lo (m * 2 ^ t) E = lo m (E + t) := by
  have h2 : m * 2 ^ t ≠ 0 := Nat.mul_ne_zero h (Nat.ne_of_gt (Nat.pow_pos (by decide)))
  unfold lo
  rw [if_neg h, if_neg h2, tp_mul h]
  unfold xp
  rw [blen_mul h, show E + ((blen m + t : Nat) : Int) - 64 = E + (t : Int) + (blen m : Nat) - 64 by omega]
theorem lo_bd (m : Nat) (E : Int) : 0 ≤ lo m E ∧ lo m E ≤ 19342822337206103650074624 := by
  unfold lo
  have h1 := tp_lt m
  by_cases h : m = 0
  · rw [if_pos h]; omega
  · rw [if_neg h]; have h0 := tp_ge h
    by_cases h3 : 1048576 < xp m E
    · rw [if_pos h3]; omega
    · rw [if_neg h3]
      by_cases h4 : xp m E < -1048576
      · rw [if_pos h4]; omega
      · rw [if_neg h4]
        omega
def vp (r : Int) : Int := if r ≤ 0 then 0 else ((r - 1) % 9223372036854775808 + 9223372036854775808) * 2 ^ ((r - 1) / 9223372036854775808 - 1048576 + KK).toNat
def vr (r : Int) : Int := if r < 0 then -vp (-r) else vp r
theorem vp_fin {M E : Int} (h1 : 9223372036854775808 ≤ M) (h2 : M < 18446744073709551616) (h3 : -1048576 ≤ E) : vp (M - 9223372036854775808 + 1 + (E + 1048576) * 9223372036854775808) = M * 2 ^ (E + KK).toNat := by
  unfold vp
  rw [if_neg (by omega)]
  have e1 : (M - 9223372036854775808 + 1 + (E + 1048576) * 9223372036854775808 - 1) % 9223372036854775808 + 9223372036854775808 = M := by omega
  have e2 : (M - 9223372036854775808 + 1 + (E + 1048576) * 9223372036854775808 - 1) / 9223372036854775808 - 1048576 = E := by omega
  rw [e1, e2]
theorem vp_succ {r : Int} (h : 0 ≤ r) : vp r < vp (r + 1) := by
  by_cases h0 : r = 0
  · subst h0
    have : vp 0 = 0 := rfl
    rw [this]
    unfold vp
    rw [if_neg (by omega)]; exact Int.mul_pos (by omega) (p2pos _)
  · obtain ⟨q, m, hm, hm2, e⟩ : ∃ q m : Int, 9223372036854775808 ≤ m ∧ m < 18446744073709551616 ∧ r = m - 9223372036854775808 + 1 + (q + 1048576) * 9223372036854775808 := ⟨(r - 1) / 9223372036854775808 - 1048576, (r - 1) % 9223372036854775808 + 9223372036854775808, by omega, by omega, by omega⟩
    have hq : -1048576 ≤ q := by omega
    have e0 := vp_fin hm hm2 hq; rw [← e] at e0; rw [e0]
    by_cases hc : m = 18446744073709551615
    · have e1 := vp_fin (M := 9223372036854775808) (E := q + 1) (by omega) (by omega) (by omega)
      rw [show (9223372036854775808 : Int) - 9223372036854775808 + 1 + (q + 1 + 1048576) * 9223372036854775808 = r + 1 by omega] at e1
      rw [e1, show (q + 1 + (KK : Int)).toNat = (q + KK).toNat + 1 by rw [KK_eq]; omega, Int.pow_succ, hc, ← Int.mul_assoc, Int.mul_right_comm]
      exact Int.mul_lt_mul_of_pos_right (by omega) (p2pos _)
    · have e1 := vp_fin (M := m + 1) (E := q) (by omega) (by omega) hq
      rw [show m + 1 - 9223372036854775808 + 1 + (q + 1048576) * 9223372036854775808 = r + 1 by omega] at e1
      rw [e1]; exact Int.mul_lt_mul_of_pos_right (by omega) (p2pos _)
theorem vr_succ (r : Int) : vr r < vr (r + 1) := by
  unfold vr
  by_cases h : 0 ≤ r
  · rw [if_neg (by omega), if_neg (by omega)]; exact vp_succ h
  · rw [if_pos (by omega)]
    have := vp_succ (r := -(r + 1)) (by omega)
    rw [show -(r + 1) + 1 = -r by omega] at this
    by_cases h2 : r + 1 < 0
    · rw [if_pos h2]
      omega
    · rw [if_neg h2]
      have e : r + 1 = 0 := by omega
      rw [e] at this ⊢
      rw [show vp (-0) = 0 from rfl] at this
      rw [show vp 0 = 0 from rfl]
      omega
theorem vr_add (r : Int) : ∀ n : Nat, vr r < vr (r + (n + 1 : Nat))
  | 0 => vr_succ r
  | n + 1 => by
    have h1 := vr_add r n; have h2 := vr_succ (r + (n + 1 : Nat))
    rw [show r + ((n + 1 + 1 : Nat) : Int) = r + ((n + 1 : Nat) : Int) + 1 by omega]
    omega
theorem vr_lt {r t : Int} (h : r < t) : vr r < vr t := by
  have := vr_add r (t - r - 1).toNat
  rwa [show r + (((t - r - 1).toNat + 1 : Nat) : Int) = t by omega] at this
theorem vr_cmp (r t : Int) : cmpI (vr r) (vr t) = cmpI r t := by
  rcases cmpI_tri r t with ⟨a1, a2⟩ | ⟨a1, a2⟩ | ⟨a1, a2⟩ <;> rw [a2]
  · exact cmpI_lt (vr_lt a1)
  · exact cmpI_eq (by rw [a1])
  · exact cmpI_gt (vr_lt a1)
theorem vr_neg (r : Int) : vr (-r) = -vr r := by
  unfold vr
  by_cases h : r < 0
  · rw [if_neg (by omega), if_pos h, Int.neg_neg]
  · by_cases h2 : r = 0
    · subst h2; rfl
    · rw [if_pos (by omega), if_neg h, Int.neg_neg]
theorem vr_sgi (s : Bool) (r : Int) : vr (sgi s r) = sgi s (vr r) := by
  cases s
  · rfl
  · exact vr_neg r
theorem lo_vr {m : Nat} {E : Int} (h : m ≠ 0) (h1 : xp m E ≤ 1048576) (h2 : -1048576 ≤ xp m E) (hE : -(KK : Int) ≤ E) (ho : m % 2 = 1) :
    vr (lo m E) ≤ (m : Int) * 2 ^ (E + KK).toNat ∧ (m : Int) * 2 ^ (E + KK).toNat < vr (lo m E + 1) ∧ (ext m E = true → vr (lo m E) = (m : Int) * 2 ^ (E + KK).toNat) ∧ (ext m E = false → vr (lo m E) < (m : Int) * 2 ^ (E + KK).toNat) := by
  have t1 := tp_ge h; have t2 := tp_lt m; have hk := KK_eq
  have hb : 0 ≤ lo m E := (lo_bd m E).1
  have el : lo m E = (tp m : Int) - 9223372036854775808 + 1 + (xp m E + 1048576) * 9223372036854775808 := by
    unfold lo
    rw [if_neg h, if_neg (by omega), if_neg (by omega)]
  have ev : vr (lo m E) = (tp m : Int) * 2 ^ (xp m E + KK).toNat := by
    unfold vr
    rw [if_neg (by omega), el]; exact vp_fin (by omega) (by omega) h2
  have ex : ext m E = decide (blen m ≤ 64) := by
    unfold ext
    rw [show (m == 0) = false by simpa using h, decide_eq_true h1, decide_eq_true h2]
    rfl
  have en : vr (lo m E + 1) = ((tp m : Int) + 1) * 2 ^ (xp m E + KK).toNat := by
    unfold vr
    rw [if_neg (by omega), el]
    by_cases hc : (tp m : Int) = 18446744073709551615
    · have e1 := vp_fin (M := 9223372036854775808) (E := xp m E + 1) (by omega) (by omega) (by omega)
      rw [show (tp m : Int) - 9223372036854775808 + 1 + (xp m E + 1048576) * 9223372036854775808 + 1 = (9223372036854775808 : Int) - 9223372036854775808 + 1 + (xp m E + 1 + 1048576) * 9223372036854775808 by omega, e1, show (xp m E + 1 + (KK : Int)).toNat = (xp m E + KK).toNat + 1 by omega, Int.pow_succ, hc, ← Int.mul_assoc, Int.mul_right_comm]
      rfl
    · have e1 := vp_fin (M := (tp m : Int) + 1) (E := xp m E) (by omega) (by omega) h2
      rw [show (tp m : Int) - 9223372036854775808 + 1 + (xp m E + 1048576) * 9223372036854775808 + 1 = (tp m : Int) + 1 - 9223372036854775808 + 1 + (xp m E + 1048576) * 9223372036854775808 by omega, e1]
  rw [ev, en, ex]
  by_cases hl : blen m ≤ 64
  · have e1 : (m : Int) * 2 ^ (E + KK).toNat = (tp m : Int) * 2 ^ (xp m E + KK).toNat := by
      have hx : (xp m E + KK).toNat + (64 - blen m) = (E + KK).toNat := by unfold xp at h2 ⊢; omega
      rw [tp_small hl, ← hx, Int.pow_add]
      push_cast
      rw [Int.mul_assoc, Int.mul_comm (2 ^ (64 - blen m))]
    have hp := p2pos (xp m E + KK).toNat; rw [e1, decide_eq_true hl]
    refine ⟨Int.le_refl _, Int.mul_lt_mul_of_pos_right (by omega) hp, fun _ => rfl, fun h => by cases h⟩
  · have hd := Nat.div_add_mod m (2 ^ (blen m - 64))
    have hm := Nat.mod_lt m (Nat.pow_pos (n := blen m - 64) (show 0 < 2 by decide))
    have hne : m % 2 ^ (blen m - 64) ≠ 0 := by
      intro e
      have : 2 ∣ m := Nat.dvd_trans (show 2 ∣ 2 ^ (blen m - 64) from ⟨2 ^ (blen m - 64 - 1), by rw [← Nat.pow_succ']; congr 1; omega⟩) (Nat.dvd_of_mod_eq_zero e)
      omega
    rw [← tp_big (by omega)] at hd
    have e1 : (2 : Int) ^ (xp m E + KK).toNat = 2 ^ (blen m - 64) * 2 ^ (E + KK).toNat := by
      rw [← Int.pow_add]
      congr 1
      unfold xp
      omega
    have hp := p2pos (E + KK).toNat
    have c1 : (tp m : Int) * 2 ^ (blen m - 64) < (m : Int) := by
      have : tp m * 2 ^ (blen m - 64) < m := by rw [Nat.mul_comm]; omega
      exact_mod_cast this
    have c2 : (m : Int) < ((tp m : Int) + 1) * 2 ^ (blen m - 64) := by
      have : m < (tp m + 1) * 2 ^ (blen m - 64) := by rw [Nat.mul_comm, Nat.mul_add, Nat.mul_one]; omega
      exact_mod_cast this
    have l1 := Int.mul_lt_mul_of_pos_right c1 hp; have l2 := Int.mul_lt_mul_of_pos_right c2 hp; rw [Int.mul_assoc] at l1 l2; rw [e1, decide_eq_false hl]
    exact ⟨Int.le_of_lt l1, l2, fun h => (by cases h), fun _ => l1⟩
end Go.Proofs.YtpnmphofengoeaaGreatDoor
