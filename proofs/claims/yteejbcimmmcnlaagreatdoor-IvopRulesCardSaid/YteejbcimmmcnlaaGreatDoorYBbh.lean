/-
  Contracts and words that the statement's proof rests on, several texts in one: Fa, Fe, Cc, Ck, Fp, Cd, Ce, Cf.
-/
import Derived.Test.YteejbcimmmcnlaaGreatDoorYBau
import Derived.Test.YteejbcimmmcnlaaGreatDoorYBba
import Derived.Test.YteejbcimmmcnlaaGreatDoorYBbb
import Derived.Test.YteejbcimmmcnlaaGreatDoorYBbg
/-
  What operations make of all numbers of intervals, by the places of their ends: sums, opposites, products; what is within, what the order plays no part in. Plain arithmetic; no Go text.
-/
namespace Go.Proofs.YteejbcimmmcnlaaGreatDoor
open Go.RowKit
set_option linter.unusedVariables false

def In (x : Int) : Prop := -19342822337206103650074625 ≤ x ∧ x ≤ 19342822337206103650074625
theorem wit_mk {a b c d : Int} (h : c ≤ a) (k : b ≤ d) : witI (mkI a b) (mkI c d) = true := by
  by_cases q : a ≤ b ∧ a < 19342822337206103650074625 ∧ -19342822337206103650074625 < b
  · rw [mkI_some q.1 q.2.1 q.2.2, mkI_some (by omega) (by omega) (by omega)]
    simp [witI, h, k]
  · rw [mkI_none q]
    rfl
theorem wit_iff {a b c d : Int} : witI (some (a, b)) (some (c, d)) = true ↔ (c ≤ a ∧ b ≤ d) := by simp [witI]
theorem wit_some {x : Sp} {a b : Int} (h : witI (some (a, b)) x = true) : ∃ c d, x = some (c, d) ∧ c ≤ a ∧ b ≤ d := by
  rcases x with _ | ⟨c, d⟩
  · cases h
  · exact ⟨c, d, rfl, wit_iff.1 h⟩
theorem mkI_in {a b : Int} (ha : In a) (hb : In b) : SpOk (mkI a b) := mkI_ok ha.1 hb.2
theorem SpOk.in1 {a b : Int} (h : SpOk (some (a, b))) : In a ∧ In b := by
  obtain ⟨h1, h2, h3, h4, h5⟩ := h; exact ⟨⟨by omega, by omega⟩, ⟨by omega, by omega⟩⟩
theorem wit_all {x : Sp} (h : SpOk x) : witI x allI = true := by
  rcases x with _ | ⟨a, b⟩
  · rfl
  · exact wit_iff.2 ⟨h.in1.1.1, h.in1.2.2⟩
theorem has_out {a b n : Int} (h : hasI (some (a, b)) n = true) (hn : In n) : -19342822337206103650074625 < n ∧ n < 19342822337206103650074625 ∧ a ≤ n ∧ n ≤ b := by
  simp only [hasI, Bool.and_eq_true, decide_eq_true_eq, Bool.not_eq_true'] at h
  have := infp_false hn.1 hn.2 h.1.1
  exact ⟨this.1, this.2, h.1.2, h.2⟩
theorem has_zero {a b : Int} : hasI (some (a, b)) 0 = (decide (a ≤ 0) && decide (0 ≤ b)) := by
  simp only [hasI, infp_zero, Bool.not_false, Bool.true_and]

def negI (x : Sp) : Sp := match x with
  | none => none
  | some (a, b) => mkI (-b) (-a)
def addI (x y : Sp) : Sp := match x, y with
  | some (a, b), some (c, d) => mkI (addp false a c) (addp true b d)
  | _, _ => none
def addL (l : List Sp) : Sp := match l with
  | [] => some (0, 0)
  | x :: l => l.foldl addI x
def subI (x y : Sp) : Sp := addI x (negI y)
/-- From the least of what an operation makes of the ends to the greatest. -/
def cor (f : Bool → Int → Int → Int) (a b c d : Int) : Sp := mkI (min (min (f false a c) (f false a d)) (min (f false b c) (f false b d))) (max (max (f true a c) (f true a d)) (max (f true b c) (f true b d)))
def mulI (x y : Sp) : Sp := match x, y with
  | some (a, b), some (c, d) => cor mulp a b c d
  | _, _ => none

theorem negI_some {a b : Int} (h : SpOk (some (a, b))) : negI (some (a, b)) = some (-b, -a) := by
  obtain ⟨h1, h2, h3, h4, h5⟩ := h; exact mkI_some (by omega) (by omega) (by omega)
theorem negI_ok {x : Sp} (h : SpOk x) : SpOk (negI x) := by
  rcases x with _ | ⟨a, b⟩
  · exact trivial
  · obtain ⟨⟨h1, h2⟩, h3, h4⟩ := h.in1; exact mkI_in ⟨by omega, by omega⟩ ⟨by omega, by omega⟩
theorem neg_neg {x : Sp} (h : SpOk x) : negI (negI x) = x := by
  rcases x with _ | ⟨a, b⟩
  · rfl
  · have k := negI_ok h; rw [negI_some h] at k ⊢; rw [negI_some k, Int.neg_neg, Int.neg_neg]
theorem neg_wit {x y : Sp} (h : witI x y = true) : witI (negI x) (negI y) = true := by
  rcases x with _ | ⟨a, b⟩
  · rfl
  · obtain ⟨c, d, rfl, h1, h2⟩ := wit_some h; exact wit_mk (by omega) (by omega)
theorem add_none (x : Sp) : addI x none = none := by cases x <;> rfl
theorem add_comm (x y : Sp) : addI x y = addI y x := by
  rcases x with _ | ⟨a, b⟩ <;> rcases y with _ | ⟨c, d⟩ <;> first | rfl | skip
  show mkI _ _ = mkI _ _
  rw [addp_comm (x := a), addp_comm (x := b)]
theorem addp_le2 {x y z t : Int} (up : Bool) (hx : In x) (hy : In y) (hz : In z) (ht : In t) (h : x ≤ y) (k : z ≤ t) : addp up x z ≤ addp up y t := by
  refine Int.le_trans (addp_mono up hx.1 hx.2 hy.1 hy.2 hz.1 hz.2 h) ?_; rw [addp_comm (x := y), addp_comm (x := y)]; exact addp_mono up hz.1 hz.2 ht.1 ht.2 hy.1 hy.2 k
theorem add_wit {x y z t : Sp} (hx : SpOk x) (hy : SpOk y) (hz : SpOk z) (ht : SpOk t) (h : witI x z = true) (k : witI y t = true) : witI (addI x y) (addI z t) = true := by
  rcases x with _ | ⟨a, b⟩
  · rfl
  rcases y with _ | ⟨c, d⟩
  · rfl
  obtain ⟨a2, b2, rfl, h1, h2⟩ := wit_some h; obtain ⟨c2, d2, rfl, k1, k2⟩ := wit_some k; exact wit_mk (addp_le2 false hz.in1.1 hx.in1.1 ht.in1.1 hy.in1.1 h1 k1) (addp_le2 true hx.in1.2 hz.in1.2 hy.in1.2 ht.in1.2 h2 k2)
theorem sub_wit {x y z t : Sp} (hx : SpOk x) (hy : SpOk y) (hz : SpOk z) (ht : SpOk t) (h : witI x z = true) (k : witI y t = true) : witI (subI x y) (subI z t) = true := add_wit hx (negI_ok hy) hz (negI_ok ht) h (neg_wit k)
theorem mkI_neg (a b : Int) : negI (mkI a b) = mkI (-b) (-a) := by
  by_cases q : a ≤ b ∧ a < 19342822337206103650074625 ∧ -19342822337206103650074625 < b
  · rw [mkI_some q.1 q.2.1 q.2.2]
    rfl
  · rw [mkI_none q, mkI_none (by omega)]
    rfl
theorem sub_neg {x y : Sp} (hx : SpOk x) (hy : SpOk y) : subI x y = negI (subI y x) := by
  rcases x with _ | ⟨a, b⟩
  · unfold subI
    show none = negI (addI y none)
    rw [add_none]
    rfl
  rcases y with _ | ⟨c, d⟩
  · rfl
  unfold subI
  rw [negI_some hx, negI_some hy]
  show mkI (addp false a (-d)) (addp true b (-c)) = negI (mkI (addp false c (-b)) (addp true d (-a)))
  rw [mkI_neg]; have e1 := addp_neg (x := d) (y := -a) true; have e2 := addp_neg (x := c) (y := -b) false; rw [Int.neg_neg] at e1 e2; rw [← e1, ← e2, addp_comm (x := a), addp_comm (x := b)]
  rfl
/-- Between the least and the greatest of the corners. -/
def Mono (f : Int → Int) (a b : Int) : Prop := (∀ x y, a ≤ x → x ≤ y → y ≤ b → f x ≤ f y) ∨ (∀ x y, a ≤ x → x ≤ y → y ≤ b → f y ≤ f x)
theorem Mono.lo {f : Int → Int} {a b x : Int} (h : Mono f a b) (h1 : a ≤ x) (h2 : x ≤ b) : min (f a) (f b) ≤ f x := by
  rcases h with h | h
  · have := h a x (Int.le_refl _) h1 h2
    omega
  · have := h x b h1 h2 (Int.le_refl _)
    omega
theorem Mono.hi {f : Int → Int} {a b x : Int} (h : Mono f a b) (h1 : a ≤ x) (h2 : x ≤ b) : f x ≤ max (f a) (f b) := by
  rcases h with h | h
  · have := h x b h1 h2 (Int.le_refl _)
    omega
  · have := h a x (Int.le_refl _) h1 h2
    omega
theorem cor_lo {f : Int → Int → Int} {a b c d x y : Int} (hf : ∀ z, c ≤ z → z ≤ d → Mono (fun x => f x z) a b) (hg : ∀ z, a ≤ z → z ≤ b → Mono (fun y => f z y) c d) (h1 : a ≤ x) (h2 : x ≤ b) (h3 : c ≤ y) (h4 : y ≤ d) :
    min (min (f a c) (f a d)) (min (f b c) (f b d)) ≤ f x y ∧ f x y ≤ max (max (f a c) (f a d)) (max (f b c) (f b d)) := by
  have p : min (f a y) (f b y) ≤ f x y := (hf y h3 h4).lo h1 h2
  have q : f x y ≤ max (f a y) (f b y) := (hf y h3 h4).hi h1 h2
  have r : min (f a c) (f a d) ≤ f a y := (hg a (Int.le_refl _) (by omega)).lo h3 h4
  have s : min (f b c) (f b d) ≤ f b y := (hg b (by omega) (Int.le_refl _)).lo h3 h4
  have t : f a y ≤ max (f a c) (f a d) := (hg a (Int.le_refl _) (by omega)).hi h3 h4
  have u : f b y ≤ max (f b c) (f b d) := (hg b (by omega) (Int.le_refl _)).hi h3 h4
  constructor <;> omega
theorem cor_wit {f : Bool → Int → Int → Int} {a b c d a2 b2 c2 d2 : Int} (hf : ∀ up z, c2 ≤ z → z ≤ d2 → Mono (fun x => f up x z) a2 b2) (hg : ∀ up z, a2 ≤ z → z ≤ b2 → Mono (fun y => f up z y) c2 d2)
    (h0 : a ≤ b) (k0 : c ≤ d) (h1 : a2 ≤ a) (h2 : b ≤ b2) (k1 : c2 ≤ c) (k2 : d ≤ d2) : witI (cor f a b c d) (cor f a2 b2 c2 d2) = true := by
  have L : ∀ up x y, a2 ≤ x → x ≤ b2 → c2 ≤ y → y ≤ d2 → min (min (f up a2 c2) (f up a2 d2)) (min (f up b2 c2) (f up b2 d2)) ≤ f up x y ∧ f up x y ≤ max (max (f up a2 c2) (f up a2 d2)) (max (f up b2 c2) (f up b2 d2)) :=
    fun up x y => cor_lo (hf up) (hg up)
  have p1 := L false a c h1 (by omega) k1 (by omega); have p2 := L false a d h1 (by omega) (by omega) k2; have p3 := L false b c (by omega) h2 k1 (by omega); have p4 := L false b d (by omega) h2 (by omega) k2; have q1 := L true a c h1 (by omega) k1 (by omega); have q2 := L true a d h1 (by omega) (by omega) k2; have q3 := L true b c (by omega) h2 k1 (by omega); have q4 := L true b d (by omega) h2 (by omega) k2
  exact wit_mk (by omega) (by omega)
theorem mulp_mn (up : Bool) {z a b : Int} (hz : In z) (ha : In a) (hb : In b) : Mono (fun x => mulp up x z) a b := by
  rcases Int.lt_or_le z 0 with q | q
  · exact .inr fun x y h1 h2 h3 => mulp_dn up (by have := ha.1; omega) (by have := hb.2; omega) (by have := ha.1; omega) (by have := hb.2; omega) q hz.1 h2
  · exact .inl fun x y h1 h2 h3 => mulp_up up (by have := ha.1; omega) (by have := hb.2; omega) (by have := ha.1; omega) (by have := hb.2; omega) q hz.2 h2
theorem mulp_mn2 (up : Bool) {z a b : Int} (hz : In z) (ha : In a) (hb : In b) : Mono (fun y => mulp up z y) a b := by
  have h := mulp_mn up hz ha hb
  have e : (fun y => mulp up z y) = fun x => mulp up x z := funext fun y => mulp_comm up
  rw [e]; exact h
theorem mul_in {a b c d x y : Int} (up : Bool) (h : SpOk (some (a, b))) (k : SpOk (some (c, d))) (h1 : a ≤ x) (h2 : x ≤ b) (h3 : c ≤ y) (h4 : y ≤ d) :
    min (min (mulp up a c) (mulp up a d)) (min (mulp up b c) (mulp up b d)) ≤ mulp up x y ∧ mulp up x y ≤ max (max (mulp up a c) (mulp up a d)) (max (mulp up b c) (mulp up b d)) :=
  cor_lo (fun z z1 z2 => mulp_mn up ⟨by have := k.in1.1.1; omega, by have := k.in1.2.2; omega⟩ h.in1.1 h.in1.2) (fun z z1 z2 => mulp_mn2 up ⟨by have := h.in1.1.1; omega, by have := h.in1.2.2; omega⟩ k.in1.1 k.in1.2) h1 h2 h3 h4
theorem cor_ok {f : Bool → Int → Int → Int} (hf : ∀ up x y, In (f up x y)) (a b c d : Int) : SpOk (cor f a b c d) := by
  have h1 := hf false a c; have h2 := hf false a d; have h3 := hf false b c; have h4 := hf false b d; have k1 := hf true a c; have k2 := hf true a d; have k3 := hf true b c; have k4 := hf true b d
  unfold In at *
  exact mkI_in ⟨by omega, by omega⟩ ⟨by omega, by omega⟩
theorem mul_comm (x y : Sp) : mulI x y = mulI y x := by
  rcases x with _ | ⟨a, b⟩ <;> rcases y with _ | ⟨c, d⟩ <;> first | rfl | skip
  show cor mulp a b c d = cor mulp c d a b
  unfold cor
  simp only [mulp_comm (x := c), mulp_comm (x := d)]
  congr 1 <;> omega
theorem mul_wit {x y z t : Sp} (hx : SpOk x) (hy : SpOk y) (hz : SpOk z) (ht : SpOk t) (h : witI x z = true) (k : witI y t = true) : witI (mulI x y) (mulI z t) = true := by
  rcases x with _ | ⟨a, b⟩
  · rfl
  rcases y with _ | ⟨c, d⟩
  · rfl
  obtain ⟨a2, b2, rfl, h1, h2⟩ := wit_some h; obtain ⟨c2, d2, rfl, k1, k2⟩ := wit_some k
  exact cor_wit (fun up z z1 z2 => mulp_mn up ⟨by have := ht.in1.1.1; omega, by have := ht.in1.2.2; omega⟩ hz.in1.1 hz.in1.2) (fun up z z1 z2 => mulp_mn2 up ⟨by have := hz.in1.1.1; omega, by have := hz.in1.2.2; omega⟩ ht.in1.1 ht.in1.2) hx.2.1 hy.2.1 h1 h2 k1 k2
end Go.Proofs.YteejbcimmmcnlaaGreatDoor

/-
  Sums of intervals, one behind the other, and how far apart their ends are. Plain arithmetic; no Go text.
-/
namespace Go.Proofs.YteejbcimmmcnlaaGreatDoor
open Go.RowKit
set_option linter.unusedVariables false

def FzI (x : Sp) (h : Nat) : Prop := ∀ a b, x = some (a, b) → Fz a h ∧ Fz b h
theorem FzI.mono {x : Sp} {h k : Nat} (f : FzI x h) (hk : h ≤ k) : FzI x k := fun a b e => ⟨(f a b e).1.mono hk, (f a b e).2.mono hk⟩
theorem FzI.mk {a b : Int} {h : Nat} (f : Fz a h) (g : Fz b h) : FzI (mkI a b) h := fun c d e => by
  unfold mkI at e
  split at e
  · cases e
    exact ⟨f, g⟩
  · cases e
theorem FzI.add {x y : Sp} {h : Nat} (hh : h ≤ 90000) (f : FzI x h) (g : FzI y h) : FzI (addI x y) (h + 66) := by
  rcases x with _ | ⟨a, b⟩
  · exact fun _ _ e => by cases e
  rcases y with _ | ⟨c, d⟩
  · exact fun _ _ e => by cases e
  exact FzI.mk (addp_fz false hh (f a b rfl).1 (g c d rfl).1) (addp_fz true hh (f a b rfl).2 (g c d rfl).2)
end Go.Proofs.YteejbcimmmcnlaaGreatDoor

/-
  The cells of an interval, and what it is taken for.
-/
namespace Go.Proofs.YteejbcimmmcnlaaGreatDoor
open Go.RowKit
set_option linter.unusedVariables false

theorem StN.trans {w w' w'' : World} {g : Nat} {a b c : Array Value} {T : TypeId} (h : StN w w' g a b T) (k : StN w' w'' g b c T) : StN w w'' g a c T :=
  ⟨h.1, k.2.1, fun j hj => (k.2.2.1 j hj).trans (h.2.2.1 j hj), fun B x hB hb => k.2.2.2 B x hB (h.2.2.2 B x hB hb)⟩
theorem StN.mk9 {w : World} {g : Nat} {T : TypeId} {a0 a1 a2 a3 a4 a5 a6 a7 a8 : Value} (X : Bo w g #[a0, a1, a2, a3, a4, a5, a6, a7, a8] T) (v0 v1 v2 v3 v4 v5 v6 v7 v8 : Value) :
    StN w (((((((((w.setCell ⟨g, 0, none⟩ v0).setCell ⟨g, 1, none⟩ v1).setCell ⟨g, 2, none⟩ v2).setCell ⟨g, 3, none⟩ v3).setCell ⟨g, 4, none⟩ v4).setCell ⟨g, 5, none⟩ v5).setCell ⟨g, 6, none⟩ v6).setCell ⟨g, 7, none⟩ v7).setCell ⟨g, 8, none⟩ v8) g #[a0, a1, a2, a3, a4, a5, a6, a7, a8] #[v0, v1, v2, v3, v4, v5, v6, v7, v8] T := by
  have t0 : StN w (w.setCell ⟨g, 0, none⟩ v0) g #[a0, a1, a2, a3, a4, a5, a6, a7, a8] #[v0, a1, a2, a3, a4, a5, a6, a7, a8] T := StN.at4 X 0 v0
  have s0 := t0
  have t1 : StN (w.setCell ⟨g, 0, none⟩ v0) ((w.setCell ⟨g, 0, none⟩ v0).setCell ⟨g, 1, none⟩ v1) g #[v0, a1, a2, a3, a4, a5, a6, a7, a8] #[v0, v1, a2, a3, a4, a5, a6, a7, a8] T := StN.at4 s0.box 1 v1
  have s1 := s0.trans t1
  have t2 : StN ((w.setCell ⟨g, 0, none⟩ v0).setCell ⟨g, 1, none⟩ v1) (((w.setCell ⟨g, 0, none⟩ v0).setCell ⟨g, 1, none⟩ v1).setCell ⟨g, 2, none⟩ v2) g #[v0, v1, a2, a3, a4, a5, a6, a7, a8] #[v0, v1, v2, a3, a4, a5, a6, a7, a8] T := StN.at4 s1.box 2 v2
  have s2 := s1.trans t2
  have t3 : StN (((w.setCell ⟨g, 0, none⟩ v0).setCell ⟨g, 1, none⟩ v1).setCell ⟨g, 2, none⟩ v2) ((((w.setCell ⟨g, 0, none⟩ v0).setCell ⟨g, 1, none⟩ v1).setCell ⟨g, 2, none⟩ v2).setCell ⟨g, 3, none⟩ v3) g #[v0, v1, v2, a3, a4, a5, a6, a7, a8] #[v0, v1, v2, v3, a4, a5, a6, a7, a8] T := StN.at4 s2.box 3 v3
  have s3 := s2.trans t3
  have t4 : StN ((((w.setCell ⟨g, 0, none⟩ v0).setCell ⟨g, 1, none⟩ v1).setCell ⟨g, 2, none⟩ v2).setCell ⟨g, 3, none⟩ v3) (((((w.setCell ⟨g, 0, none⟩ v0).setCell ⟨g, 1, none⟩ v1).setCell ⟨g, 2, none⟩ v2).setCell ⟨g, 3, none⟩ v3).setCell ⟨g, 4, none⟩ v4) g #[v0, v1, v2, v3, a4, a5, a6, a7, a8] #[v0, v1, v2, v3, v4, a5, a6, a7, a8] T := StN.at4 s3.box 4 v4
  have s4 := s3.trans t4
  have t5 : StN (((((w.setCell ⟨g, 0, none⟩ v0).setCell ⟨g, 1, none⟩ v1).setCell ⟨g, 2, none⟩ v2).setCell ⟨g, 3, none⟩ v3).setCell ⟨g, 4, none⟩ v4) ((((((w.setCell ⟨g, 0, none⟩ v0).setCell ⟨g, 1, none⟩ v1).setCell ⟨g, 2, none⟩ v2).setCell ⟨g, 3, none⟩ v3).setCell ⟨g, 4, none⟩ v4).setCell ⟨g, 5, none⟩ v5) g #[v0, v1, v2, v3, v4, a5, a6, a7, a8] #[v0, v1, v2, v3, v4, v5, a6, a7, a8] T := StN.at4 s4.box 5 v5
  have s5 := s4.trans t5
  have t6 : StN ((((((w.setCell ⟨g, 0, none⟩ v0).setCell ⟨g, 1, none⟩ v1).setCell ⟨g, 2, none⟩ v2).setCell ⟨g, 3, none⟩ v3).setCell ⟨g, 4, none⟩ v4).setCell ⟨g, 5, none⟩ v5) (((((((w.setCell ⟨g, 0, none⟩ v0).setCell ⟨g, 1, none⟩ v1).setCell ⟨g, 2, none⟩ v2).setCell ⟨g, 3, none⟩ v3).setCell ⟨g, 4, none⟩ v4).setCell ⟨g, 5, none⟩ v5).setCell ⟨g, 6, none⟩ v6) g #[v0, v1, v2, v3, v4, v5, a6, a7, a8] #[v0, v1, v2, v3, v4, v5, v6, a7, a8] T := StN.at4 s5.box 6 v6
  have s6 := s5.trans t6
  have t7 : StN (((((((w.setCell ⟨g, 0, none⟩ v0).setCell ⟨g, 1, none⟩ v1).setCell ⟨g, 2, none⟩ v2).setCell ⟨g, 3, none⟩ v3).setCell ⟨g, 4, none⟩ v4).setCell ⟨g, 5, none⟩ v5).setCell ⟨g, 6, none⟩ v6) ((((((((w.setCell ⟨g, 0, none⟩ v0).setCell ⟨g, 1, none⟩ v1).setCell ⟨g, 2, none⟩ v2).setCell ⟨g, 3, none⟩ v3).setCell ⟨g, 4, none⟩ v4).setCell ⟨g, 5, none⟩ v5).setCell ⟨g, 6, none⟩ v6).setCell ⟨g, 7, none⟩ v7) g #[v0, v1, v2, v3, v4, v5, v6, a7, a8] #[v0, v1, v2, v3, v4, v5, v6, v7, a8] T := StN.at4 s6.box 7 v7
  have s7 := s6.trans t7
  have t8 : StN ((((((((w.setCell ⟨g, 0, none⟩ v0).setCell ⟨g, 1, none⟩ v1).setCell ⟨g, 2, none⟩ v2).setCell ⟨g, 3, none⟩ v3).setCell ⟨g, 4, none⟩ v4).setCell ⟨g, 5, none⟩ v5).setCell ⟨g, 6, none⟩ v6).setCell ⟨g, 7, none⟩ v7) (((((((((w.setCell ⟨g, 0, none⟩ v0).setCell ⟨g, 1, none⟩ v1).setCell ⟨g, 2, none⟩ v2).setCell ⟨g, 3, none⟩ v3).setCell ⟨g, 4, none⟩ v4).setCell ⟨g, 5, none⟩ v5).setCell ⟨g, 6, none⟩ v6).setCell ⟨g, 7, none⟩ v7).setCell ⟨g, 8, none⟩ v8) g #[v0, v1, v2, v3, v4, v5, v6, v7, a8] #[v0, v1, v2, v3, v4, v5, v6, v7, v8] T := StN.at4 s7.box 8 v8
  have s8 := s7.trans t8; exact s8
/-- The cells of an interval that may be, and which one it is. -/
def Ci (e : Bool) (K : Int) (s : Bool) (M E K' : Int) (s' : Bool) (M' E' : Int) : Sp → Prop
  | none => e = true ∧ Fq K s M E 0 ∧ Fq K' s' M' E' 0
  | some (a, b) => e = false ∧ Fq K s M E a ∧ Fq K' s' M' E' b ∧ a ≤ b ∧ a < 19342822337206103650074625 ∧ -19342822337206103650074625 < b
section
variable {e e2 : Bool} {K M E K' M' E' K2 M2 E2 K2' M2' E2' : Int} {s s' s2 s2' : Bool} {x y : Sp}
theorem Ci.ok (h : Ci e K s M E K' s' M' E' x) : SpOk x := by
  rcases x with _ | ⟨a, b⟩
  · exact trivial
  · obtain ⟨_, q1, q2, h1, h2, h3⟩ := h; exact ⟨q1.bd.1, h1, q2.bd.2, h2, h3⟩
theorem Ci.top (h : Ci e K s M E K' s' M' E' x) : M < 18446744073709551616 ∧ M' < 18446744073709551616 := by
  rcases x with _ | ⟨a, b⟩
  · exact ⟨h.2.1.top, h.2.2.top⟩
  · exact ⟨h.2.1.top, h.2.2.1.top⟩
theorem Ci.uniq (h : Ci e K s M E K' s' M' E' x) (k : Ci e2 K2 s2 M2 E2 K2' s2' M2' E2' x) : e = e2 ∧ K = K2 ∧ s = s2 ∧ M = M2 ∧ E = E2 ∧ K' = K2' ∧ s' = s2' ∧ M' = M2' ∧ E' = E2' := by
  rcases x with _ | ⟨a, b⟩
  · obtain ⟨h1, q1, q2⟩ := h; obtain ⟨k1, p1, p2⟩ := k; obtain ⟨c1, c2, c3, c4⟩ := q1.uniq p1; obtain ⟨d1, d2, d3, d4⟩ := q2.uniq p2; exact ⟨h1.trans k1.symm, c1, c2, c3, c4, d1, d2, d3, d4⟩
  · obtain ⟨h1, q1, q2, _⟩ := h; obtain ⟨k1, p1, p2, _⟩ := k; obtain ⟨c1, c2, c3, c4⟩ := q1.uniq p1; obtain ⟨d1, d2, d3, d4⟩ := q2.uniq p2; exact ⟨h1.trans k1.symm, c1, c2, c3, c4, d1, d2, d3, d4⟩
theorem Ci.fn (h : Ci e K s M E K' s' M' E' x) (k : Ci e K s M E K' s' M' E' y) : x = y := by
  rcases x with _ | ⟨a, b⟩ <;> rcases y with _ | ⟨c, d⟩
  · rfl
  · have := h.1.symm.trans k.1
    cases this
  · have := h.1.symm.trans k.1
    cases this
  · rw [← h.2.1.rk, ← h.2.2.1.rk, ← k.2.1.rk, ← k.2.2.1.rk]
end
theorem Ci.none : Ci true 0 false 0 0 0 false 0 0 none := ⟨rfl, Fq.nought, Fq.nought⟩
/-- What an interval is taken for, whatever its cells. -/
def rkI (e : Bool) (K : Int) (s : Bool) (M E K' : Int) (s' : Bool) (M' E' : Int) : Sp := if e = true then none else if MayQ K s M E ∧ MayQ K' s' M' E' then mkI (rk K s M E) (rk K' s' M' E') else none
/-- Whether it may be. -/
def mayI (e : Bool) (K : Int) (s : Bool) (M E K' : Int) (s' : Bool) (M' E' : Int) : Bool := if e = true then (decide (K = 0 ∧ s = false ∧ M = 0 ∧ E = 0) && decide (K' = 0 ∧ s' = false ∧ M' = 0 ∧ E' = 0)) else decide (rkI e K s M E K' s' M' E' ≠ none)
section
variable {e : Bool} {K M E K' M' E' : Int} {s s' : Bool} {x : Sp}
theorem rkI_t : rkI true K s M E K' s' M' E' = none := if_pos rfl
theorem rkI_f : rkI false K s M E K' s' M' E' = if MayQ K s M E ∧ MayQ K' s' M' E' then mkI (rk K s M E) (rk K' s' M' E') else none := if_neg ff
theorem rkI_ok (hM : M < 18446744073709551616) (hM' : M' < 18446744073709551616) : SpOk (rkI e K s M E K' s' M' E') := by
  cases e
  · rw [rkI_f]
    by_cases h : MayQ K s M E ∧ MayQ K' s' M' E'
    · rw [if_pos h]; exact mkI_ok (rk_fq hM h.1).bd.1 (rk_fq hM' h.2).bd.2
    · rw [if_neg h]; exact trivial
  · exact trivial
theorem mayI_ci (hM : M < 18446744073709551616) (hM' : M' < 18446744073709551616) (h : mayI e K s M E K' s' M' E' = true) : Ci e K s M E K' s' M' E' (rkI e K s M E K' s' M' E') := by
  unfold mayI at h
  cases e
  · rw [if_neg ff, decide_eq_true_iff] at h; rw [rkI_f] at h ⊢
    by_cases hq : MayQ K s M E ∧ MayQ K' s' M' E'
    · rw [if_pos hq] at h ⊢
      by_cases hc : rk K s M E ≤ rk K' s' M' E' ∧ rk K s M E < 19342822337206103650074625 ∧ -19342822337206103650074625 < rk K' s' M' E'
      · rw [mkI_some hc.1 hc.2.1 hc.2.2]; exact ⟨rfl, rk_fq hM hq.1, rk_fq hM' hq.2, hc⟩
      · exact absurd (mkI_none hc) h
    · rw [if_neg hq] at h; exact absurd rfl h
  · rw [if_pos rfl, Bool.and_eq_true, decide_eq_true_iff, decide_eq_true_iff] at h; obtain ⟨⟨rfl, rfl, rfl, rfl⟩, rfl, rfl, rfl, rfl⟩ := h; exact Ci.none
theorem mayI_no (h : mayI e K s M E K' s' M' E' = false) : rkI e K s M E K' s' M' E' = none := by
  cases e
  · unfold mayI at h
    rw [if_neg ff, decide_eq_false_iff_not] at h; exact Decidable.not_not.1 h
  · exact rkI_t
theorem Ci.rk (h : Ci e K s M E K' s' M' E' x) : rkI e K s M E K' s' M' E' = x := by
  rcases x with _ | ⟨a, b⟩
  · obtain ⟨rfl, _⟩ := h; exact rkI_t
  · obtain ⟨rfl, q1, q2, h1, h2, h3⟩ := h; rw [rkI_f, if_pos ⟨q1.1, q2.1⟩, q1.rk, q2.rk, mkI_some h1 h2 h3]
theorem Ci.may (h : Ci e K s M E K' s' M' E' x) : mayI e K s M E K' s' M' E' = true := by
  have hr := h.rk
  unfold mayI
  rcases x with _ | ⟨a, b⟩
  · obtain ⟨rfl, q1, q2⟩ := h; obtain ⟨rfl, rfl, rfl, rfl⟩ := q1.uniq Fq.nought; obtain ⟨rfl, rfl, rfl, rfl⟩ := q2.uniq Fq.nought
    rfl
  · obtain ⟨rfl, _⟩ := h; rw [if_neg ff, hr]
    rfl
end
/-- An interval is answered. -/
def PV (w : World) (x : Sp) (e : Ending) (w' : World) : Prop := ∃ e0 K s M E K' s' M' E', e = .returned (.agg #[.bool e0, .int .i64 K, .bool s, .int .u64 M, .int .i64 E, .int .i64 K', .bool s', .int .u64 M', .int .i64 E']) ∧ Ci e0 K s M E K' s' M' E' x ∧ Below w.heap.size w w'
def Jo.Fact.iv (x : Sp) : Jo.Fact := ⟨fun v w => ∃ e0 K s M E K' s' M' E', v = .agg #[.bool e0, .int .i64 K, .bool s, .int .u64 M, .int .i64 E, .int .i64 K', .bool s', .int .u64 M', .int .i64 E'] ∧ Ci e0 K s M E K' s' M' E' x, fun v w w' h b => h⟩
/-- A slice of intervals, as they came in; what they are taken for is l. -/
def Il8 (w : World) (A : Option Addr) (n c : Nat) (l : List Sp) : Prop :=
  l.length = n ∧ n ≤ c ∧ n ≤ 1099511627776 ∧ (0 < n → ∃ b o, A = some ⟨b, o, none⟩ ∧ ∀ k, k < n → ∃ e K s M E K' s' M' E', w.cell? ⟨b, o + k * 9, none⟩ = some (.bool e) ∧ w.cell? ⟨b, o + k * 9 + 1, none⟩ = some (.int .i64 K) ∧ w.cell? ⟨b, o + k * 9 + 2, none⟩ = some (.bool s) ∧ w.cell? ⟨b, o + k * 9 + 3, none⟩ = some (.int .u64 M) ∧ w.cell? ⟨b, o + k * 9 + 4, none⟩ = some (.int .i64 E) ∧ w.cell? ⟨b, o + k * 9 + 5, none⟩ = some (.int .i64 K') ∧ w.cell? ⟨b, o + k * 9 + 6, none⟩ = some (.bool s') ∧ w.cell? ⟨b, o + k * 9 + 7, none⟩ = some (.int .u64 M') ∧ w.cell? ⟨b, o + k * 9 + 8, none⟩ = some (.int .i64 E') ∧ M < 18446744073709551616 ∧ M' < 18446744073709551616 ∧ rkI e K s M E K' s' M' E' = l.getD k none)
theorem Il8.below {w w' : World} {A : Option Addr} {n c : Nat} {l : List Sp} (h : Il8 w A n c l) (hb : Below w.heap.size w w') : Il8 w' A n c l := by
  obtain ⟨h1, h2, h3, h4⟩ := h
  refine ⟨h1, h2, h3, fun hn => ?_⟩
  obtain ⟨b, o, e, hc⟩ := h4 hn
  refine ⟨b, o, e, fun k hk => ?_⟩
  obtain ⟨e, K, s, M, E, K', s', M', E', c0, c1, c2, c3, c4, c5, c6, c7, c8, hM, hM', hr⟩ := hc k hk
  have t : ∀ {i : Nat} {v : Value}, w.cell? ⟨b, i, none⟩ = some v → w'.cell? ⟨b, i, none⟩ = some v := fun c => (hb.cell (p := ⟨b, _, none⟩) (block_lt_of_cell c)).trans c
  exact ⟨e, K, s, M, E, K', s', M', E', t c0, t c1, t c2, t c3, t c4, t c5, t c6, t c7, t c8, hM, hM', hr⟩
theorem Il8.ok {w : World} {A : Option Addr} {n c : Nat} {l : List Sp} (h : Il8 w A n c l) : ∀ y ∈ l, SpOk y := by
  intro y hy
  obtain ⟨k, hk, e⟩ := List.getElem_of_mem hy; obtain ⟨h1, h2, h3, h4⟩ := h; obtain ⟨b, o, _, hc⟩ := h4 (by omega); obtain ⟨e0, K, s, M, E, K', s', M', E', _, _, _, _, _, _, _, _, _, hM, hM', hr⟩ := hc k (by omega)
  have : l.getD k none = y := by
    rw [List.getD_eq_getElem?_getD, List.getElem?_eq_getElem hk, e]
    rfl
  rw [← this, ← hr]; exact rkI_ok hM hM'
end Go.Proofs.YteejbcimmmcnlaaGreatDoor
namespace Go.Proofs.YteejbcimmmcnlaaGreatDoor
open Go.RowKit
set_option linter.unusedVariables false
theorem StN.of9 {w w1 : World} {g : Nat} {T : TypeId} {a0 a1 a2 a3 a4 a5 a6 a7 a8 v0 v1 v2 v3 v4 v5 v6 v7 v8 : Value} (X : Bo w g #[a0, a1, a2, a3, a4, a5, a6, a7, a8] T) (h : ((((((((w.setCell ⟨g, 0, none⟩ v0).setCell ⟨g, 1, none⟩ v1).setCell ⟨g, 2, none⟩ v2).setCell ⟨g, 3, none⟩ v3).setCell ⟨g, 4, none⟩ v4).setCell ⟨g, 5, none⟩ v5).setCell ⟨g, 6, none⟩ v6).setCell ⟨g, 7, none⟩ v7).setCell ⟨g, 8, none⟩ v8 = w1) : StN w w1 g #[a0, a1, a2, a3, a4, a5, a6, a7, a8] #[v0, v1, v2, v3, v4, v5, v6, v7, v8] T := h ▸ StN.mk9 X v0 v1 v2 v3 v4 v5 v6 v7 v8
end Go.Proofs.YteejbcimmmcnlaaGreatDoor

/-
  The lower and the upper ends of many intervals, what they have together and their hull by these. Plain; no Go text.
-/
namespace Go.Proofs.YteejbcimmmcnlaaGreatDoor
open Go.RowKit
set_option linter.unusedVariables false

/-- The ends of one: none of the empty one. -/
def lo1 : Sp → List Int
  | none => []
  | some (a, _) => [a]
def hi1 : Sp → List Int
  | none => []
  | some (_, b) => [b]
def lowL : List Sp → List Int
  | [] => []
  | x :: l => lo1 x ++ lowL l
def highL : List Sp → List Int
  | [] => []
  | x :: l => hi1 x ++ highL l
theorem lowL_append : ∀ (l m : List Sp), lowL (l ++ m) = lowL l ++ lowL m
  | [], m => rfl
  | x :: l, m => by
    show lo1 x ++ lowL (l ++ m) = (lo1 x ++ lowL l) ++ lowL m
    rw [lowL_append l m, List.append_assoc]
theorem highL_append : ∀ (l m : List Sp), highL (l ++ m) = highL l ++ highL m
  | [], m => rfl
  | x :: l, m => by
    show hi1 x ++ highL (l ++ m) = (hi1 x ++ highL l) ++ highL m
    rw [highL_append l m, List.append_assoc]
theorem lowL_take {l : List Sp} {k : Nat} (h : k < l.length) : lowL (l.take (k + 1)) = lowL (l.take k) ++ lo1 (l.getD k none) := by
  rw [List.take_succ_eq_append_getElem h, lowL_append, List.getD_eq_getElem?_getD, List.getElem?_eq_getElem h]; exact congrArg _ (List.append_nil _)
theorem highL_take {l : List Sp} {k : Nat} (h : k < l.length) : highL (l.take (k + 1)) = highL (l.take k) ++ hi1 (l.getD k none) := by
  rw [List.take_succ_eq_append_getElem h, highL_append, List.getD_eq_getElem?_getD, List.getElem?_eq_getElem h]; exact congrArg _ (List.append_nil _)
theorem len_lo : ∀ l : List Sp, (lowL l).length ≤ l.length
  | [] => Nat.le_refl _
  | none :: l => Nat.le_succ_of_le (len_lo l)
  | some (a, b) :: l => Nat.succ_le_succ (len_lo l)
theorem meetI_mk (A B a b : Int) : meetI (mkI A B) (some (a, b)) = mkI (max A a) (min B b) := by
  by_cases h : A ≤ B ∧ A < 19342822337206103650074625 ∧ -19342822337206103650074625 < B
  · rw [mkI_some h.1 h.2.1 h.2.2]
    rfl
  · rw [mkI_none h, mkI_none (fun c => h (by omega))]
    rfl
theorem meet_fold : ∀ (l : List Sp) (A B : Int), (lowL l).length = l.length → l.foldl meetI (mkI A B) = mkI ((lowL l).foldl max A) ((highL l).foldl min B)
  | [], A, B, _ => rfl
  | none :: l, A, B, h => by
    have h1 : (lowL l).length = l.length + 1 := h
    have h2 := len_lo l
    omega
  | some (a, b) :: l, A, B, h => by
    show l.foldl meetI (meetI (mkI A B) (some (a, b))) = _
    rw [meetI_mk]; exact meet_fold l (max A a) (min B b) (Nat.succ_inj.1 h)
theorem meet_some {l : List Sp} (h : (lowL l).length = l.length) : meetL l = mkI (mxp (lowL l)) (mnp (highL l)) := by
  have e : allI = mkI (-19342822337206103650074625) 19342822337206103650074625 := (mkI_some (by omega) (by omega) (by omega)).symm
  unfold meetL mxp mnp
  rw [e, TP_eq]; exact meet_fold l _ _ h
theorem meet_gone : ∀ (l : List Sp) (x : Sp), (lowL l).length < l.length → l.foldl meetI x = none
  | [], x, h => absurd h (Nat.lt_irrefl _)
  | none :: l, x, h => by
    show l.foldl meetI (meetI x none) = none
    rw [meetI_none]; exact meet_stuck l
  | some (a, b) :: l, x, h => meet_gone l _ (Nat.lt_of_succ_lt_succ h)
theorem meet_no {l : List Sp} (h : (lowL l).length < l.length) : meetL l = none := meet_gone l allI h
theorem hullI_mk {A B a b : Int} (h : A = 19342822337206103650074625 ∧ B = -19342822337206103650074625 ∨ A ≤ B ∧ A < 19342822337206103650074625 ∧ -19342822337206103650074625 < B) (k : SpOk (some (a, b))) :
    hullI (mkI A B) (some (a, b)) = mkI (min A a) (max B b) ∧ (min A a ≤ max B b ∧ min A a < 19342822337206103650074625 ∧ -19342822337206103650074625 < max B b) := by
  obtain ⟨k1, k2, k3, k4, k5⟩ := k; refine ⟨?_, by omega, by omega, by omega⟩
  rcases h with ⟨rfl, rfl⟩ | ⟨h1, h2, h3⟩
  · rw [mkI_none (by omega), mkI_some (by omega) (by omega) (by omega)]
    have e1 : min 19342822337206103650074625 a = a := by omega
    have e2 : max (-19342822337206103650074625) b = b := by omega
    rw [e1, e2]
    rfl
  · rw [mkI_some h1 h2 h3]
    rfl
theorem hull_fold : ∀ (l : List Sp) (A B : Int), (A = 19342822337206103650074625 ∧ B = -19342822337206103650074625 ∨ A ≤ B ∧ A < 19342822337206103650074625 ∧ -19342822337206103650074625 < B) → (∀ y ∈ l, SpOk y) → l.foldl hullI (mkI A B) = mkI ((lowL l).foldl min A) ((highL l).foldl max B)
  | [], A, B, _, _ => rfl
  | none :: l, A, B, h, k => by
    show l.foldl hullI (hullI (mkI A B) none) = _
    rw [hullI_none]
    exact hull_fold l A B h (fun y hy => k y (List.mem_cons_of_mem _ hy))
  | some (a, b) :: l, A, B, h, k => by
    obtain ⟨e, g⟩ := hullI_mk h (k _ (List.mem_cons_self ..))
    show l.foldl hullI (hullI (mkI A B) (some (a, b))) = _
    rw [e]
    exact hull_fold l _ _ (.inr g) (fun y hy => k y (List.mem_cons_of_mem _ hy))
theorem hull_ends {l : List Sp} (h : ∀ y ∈ l, SpOk y) : hullL l = mkI (mnp (lowL l)) (mxp (highL l)) := by
  have e : (none : Sp) = mkI 19342822337206103650074625 (-19342822337206103650074625) := (mkI_none (by omega)).symm
  unfold hullL mxp mnp
  rw [e, TP_eq]; exact hull_fold l _ _ (.inl ⟨rfl, rfl⟩) h
/-- A row of numbers, by their cells. -/
def nrow : List (Int × Bool × Int × Int) → List Value
  | [] => []
  | (K, s, M, E) :: l => .int .i64 K :: .bool s :: .int .u64 M :: .int .i64 E :: nrow l
theorem nrow_append : ∀ l m, nrow (l ++ m) = nrow l ++ nrow m
  | [], m => rfl
  | (K, s, M, E) :: l, m => by
    show _ :: _ :: _ :: _ :: nrow (l ++ m) = _
    rw [nrow_append l m]
    rfl
theorem nrow_at : ∀ (l : List (Int × Bool × Int × Int)) (k : Nat) (K : Int) (s : Bool) (M E : Int), l[k]? = some (K, s, M, E) → (nrow l)[k * 4]? = some (.int .i64 K) ∧ (nrow l)[k * 4 + 1]? = some (.bool s) ∧ (nrow l)[k * 4 + 2]? = some (.int .u64 M) ∧ (nrow l)[k * 4 + 3]? = some (.int .i64 E)
  | [], k, _, _, _, _, h => by cases h
  | (K, s, M, E) :: l, 0, _, _, _, _, h => by
    cases h
    exact ⟨rfl, rfl, rfl, rfl⟩
  | (K, s, M, E) :: l, k + 1, K2, s2, M2, E2, h => by
    have := nrow_at l k K2 s2 M2 E2 h
    have e : (k + 1) * 4 = k * 4 + 4 := by omega
    rw [e]; exact this
/-- A slice of numbers of the call's own, that may be appended to; their places are l. -/
def Na (w : World) (base : Nat) (A : Option Addr) (n c : Nat) (l : List Int) : Prop :=
  ∃ r : List (Int × Bool × Int × Int), w.ownsRow base 24 4 (.slice A n c) n (nrow r) ∧ r.length = n ∧ l.length = n ∧ ∀ k, k < n → ∃ K s M E, r[k]? = some (K, s, M, E) ∧ Fq K s M E (l.getD k 0)
theorem Na.nil (w : World) (base : Nat) : Na w base none 0 0 [] := ⟨[], World.ownsRow_nil w base _ 4, rfl, rfl, fun k h => absurd h (Nat.not_lt_zero _)⟩
theorem Na.len {w : World} {base n c : Nat} {A : Option Addr} {l : List Int} (h : Na w base A n c l) : l.length = n := by
  obtain ⟨_, _, _, h, _⟩ := h; exact h
/-- It lies below, so nothing above changes it. -/
theorem Na.below {w w' : World} {base n c : Nat} {A : Option Addr} {l : List Int} (h : Na w base A n c l) (hb : Below w.heap.size w w') : Na w' base A n c l := by
  obtain ⟨r, h1, h2⟩ := h; refine ⟨r, ⟨h1.1, ?_⟩, h2⟩
  rcases h1.2 with h3 | ⟨g, cap, cur, hv, hg, hh, q⟩
  · exact .inl h3
  · refine .inr ⟨g, cap, cur, hv, hg, ?_, q⟩; rw [hb.block g (Array.getElem?_eq_some_iff.1 hh).1]; exact hh
/-- It reads as a slice. -/
theorem Na.nl {w : World} {base n c : Nat} {A : Option Addr} {l : List Int} (h : Na w base A n c l) (hn : n ≤ 1099511627776) : Nl w A n c l := by
  obtain ⟨r, h1, h2, h3, h4⟩ := h
  rcases h1.2 with ⟨e1, e2⟩ | ⟨g, cap, cur, hv, hg, hh, hc, hm, hs, ht⟩
  · injection e1 with a1 a2 a3
    subst a1; subst a2; subst a3
    exact ⟨h3, Nat.le_refl _, by omega, fun h => absurd h (Nat.lt_irrefl _)⟩
  · injection hv with a1 a2 a3
    subst a1; subst a3
    refine ⟨h3, hc, hn, fun _ => ⟨g, 0, rfl, fun k hk => ?_⟩⟩
    obtain ⟨K, s, M, E, hr, q⟩ := h4 k hk; obtain ⟨c0, c1, c2, c3⟩ := nrow_at r k K s M E hr
    have cell : ∀ j v, (nrow r)[j]? = some v → w.cell? ⟨g, 0 + j, none⟩ = some v := by
      intro j v hv
      rw [cell_of_row w g (0 + j) _ _ (0, 0) hh, Nat.zero_add, ← Array.getElem?_toList]; rw [← ht, List.getElem?_take] at hv
      split at hv
      · exact hv
      · cases hv
    exact ⟨K, s, M, E, cell _ _ c0, by rw [Nat.add_assoc]; exact cell _ _ c1, by rw [Nat.add_assoc]; exact cell _ _ c2, by rw [Nat.add_assoc]; exact cell _ _ c3, q.top, q.rk⟩
end Go.Proofs.YteejbcimmmcnlaaGreatDoor

/-
  Sums of many intervals by the sums of their ends; which lists have an empty one. Plain arithmetic; no Go text.
-/
namespace Go.Proofs.YteejbcimmmcnlaaGreatDoor
open Go.RowKit
set_option linter.unusedVariables false

def gone : List Sp → Bool
  | [] => false
  | none :: _ => true
  | some _ :: l => gone l
theorem gone_at : ∀ {l : List Sp} {k : Nat}, k < l.length → l.getD k none = none → gone l = true
  | none :: _, _, _, _ => rfl
  | some _ :: l, 0, _, e => by cases e
  | some _ :: l, k + 1, h, e => gone_at (l := l) (k := k) (Nat.lt_of_succ_lt_succ h) e
theorem gone_no : ∀ {l : List Sp}, (∀ k, k < l.length → l.getD k none ≠ none) → gone l = false
  | [], _ => rfl
  | none :: l, h => absurd rfl (h 0 (Nat.succ_pos _))
  | some _ :: l, h => gone_no (l := l) fun k hk => h (k + 1) (Nat.succ_lt_succ hk)
theorem gone_get : ∀ {l : List Sp} {k : Nat}, gone l = false → k < l.length → ∃ a b, l.getD k none = some (a, b)
  | none :: _, _, h, _ => by cases h
  | some (a, b) :: l, 0, _, _ => ⟨a, b, rfl⟩
  | some _ :: l, k + 1, h, hk => gone_get (l := l) (k := k) h (Nat.lt_of_succ_lt_succ hk)
theorem gone_fold : ∀ l : List Sp, l.foldl addI none = none
  | [] => rfl
  | x :: l => gone_fold l
theorem gone_fold2 : ∀ {l : List Sp} (x : Sp), gone l = true → l.foldl addI x = none
  | none :: l, x, _ => by
    show l.foldl addI (addI x none) = none
    rw [add_none, gone_fold]
  | some _ :: l, x, h => gone_fold2 (l := l) _ h
theorem add_gone : ∀ {l : List Sp}, gone l = true → addL l = none
  | none :: l, _ => gone_fold l
  | some p :: l, h => gone_fold2 (l := l) (some p) h
theorem addp_lt {x y : Int} (x1 : -19342822337206103650074625 ≤ x) (x2 : x < 19342822337206103650074625) (y1 : -19342822337206103650074625 ≤ y) (y2 : y < 19342822337206103650074625) : addp false x y < 19342822337206103650074625 := by
  cases hx : infp x
  · cases hy : infp y
    · obtain ⟨a, b⟩ := infp_false x1 (by omega) hx; obtain ⟨c, d⟩ := infp_false y1 (by omega) hy; have h := (addp_spec false a b c d).1.2.1
      omega
    · rw [addp_ft false hx hy]; exact y2
  · have e := infp_true hx
    cases hy : infp y
    · rw [addp_tf false hx hy]; exact x2
    · have e2 := infp_true hy; rw [addp_same false hx (by omega)]; exact x2
theorem addp_gt {x y : Int} (x1 : -19342822337206103650074625 < x) (x2 : x ≤ 19342822337206103650074625) (y1 : -19342822337206103650074625 < y) (y2 : y ≤ 19342822337206103650074625) : -19342822337206103650074625 < addp true x y := by
  have h := addp_lt (x := -x) (y := -y) (by omega) (by omega) (by omega) (by omega); have e := addp_neg (x := x) (y := y) true; rw [Bool.not_true] at e
  omega
theorem addI_some {a b c d : Int} (h : SpOk (some (a, b))) (k : SpOk (some (c, d))) : addI (some (a, b)) (some (c, d)) = some (addp false a c, addp true b d) ∧ SpOk (some (addp false a c, addp true b d)) := by
  obtain ⟨h1, h2, h3, h4, h5⟩ := h; obtain ⟨k1, k2, k3, k4, k5⟩ := k; have l1 := addp_lt h1 h4 k1 k4; have l2 := addp_gt h5 h3 k5 k3
  have l3 : addp false a c ≤ addp true b d := by
    refine Int.le_trans (addp_le2 false ⟨by omega, by omega⟩ ⟨by omega, by omega⟩ ⟨by omega, by omega⟩ ⟨by omega, by omega⟩ h2 k2) ?_; exact addp_le (by omega) (by omega) (by omega) (by omega)
  have b1 := addp_bd (x := a) (y := c) false (by omega) (by omega) (by omega) (by omega); have b2 := addp_bd (x := b) (y := d) true (by omega) (by omega) (by omega) (by omega)
  have o : SpOk (some (addp false a c, addp true b d)) := ⟨b1.1, l3, b2.2, l1, l2⟩
  exact ⟨o.mk, o⟩
theorem add_fold : ∀ {l : List Sp} {a b : Int}, gone l = false → (∀ y ∈ l, SpOk y) → SpOk (some (a, b)) → l.foldl addI (some (a, b)) = some ((lowL l).foldl (addp false) a, (highL l).foldl (addp true) b) ∧ SpOk (some ((lowL l).foldl (addp false) a, (highL l).foldl (addp true) b))
  | [], a, b, _, _, h => ⟨rfl, h⟩
  | none :: l, _, _, h, _, _ => by cases h
  | some (c, d) :: l, a, b, h, hl, hab => by
    obtain ⟨e, o⟩ := addI_some hab (hl (some (c, d)) (List.mem_cons_self ..))
    have := add_fold (l := l) h (fun y hy => hl y (List.mem_cons_of_mem _ hy)) o
    rw [← e] at this; exact this
/-- What Add makes of the sums of the ends. -/
theorem add_ends : ∀ {l : List Sp}, gone l = false → (∀ y ∈ l, SpOk y) → mkI ((lowL l).foldl (addp false) 0) ((highL l).foldl (addp true) 0) = addL l
  | [], _, _ => by decide
  | none :: l, h, _ => by cases h
  | some (c, d) :: l, h, hl => by
    have k := hl (some (c, d)) (List.mem_cons_self ..); have i := k.in1
    obtain ⟨e, o⟩ := add_fold (l := l) h (fun y hy => hl y (List.mem_cons_of_mem _ hy)) k
    show mkI ((lowL l).foldl (addp false) (addp false 0 c)) ((highL l).foldl (addp true) (addp true 0 d)) = l.foldl addI (some (c, d))
    rw [addp_comm (x := 0) (y := c), addp_comm (x := 0) (y := d), addp_zero false i.1.1 i.1.2, addp_zero true i.2.1 i.2.2, e, o.mk]
end Go.Proofs.YteejbcimmmcnlaaGreatDoor

/-
  What the document's None, All, May, Fair, Make and Point of intervals do.
-/
namespace Go.Proofs.YteejbcimmmcnlaaGreatDoor
open Go.RowKit
set_option linter.unusedVariables false
set_option linter.unusedSimpArgs false
set_option maxRecDepth 100000

theorem fq_inf2 (s : Bool) : Fq 2 s 0 0 (sgi s TP) := ⟨.inr (.inr ⟨rfl, rfl, rfl⟩), by decide, by
  cases s <;> rfl⟩
end Go.Proofs.YteejbcimmmcnlaaGreatDoor

/-
  What the document's Has and Within do.
-/
namespace Go.Proofs.YteejbcimmmcnlaaGreatDoor
open Go.RowKit
set_option linter.unusedVariables false
set_option linter.unusedSimpArgs false
set_option maxRecDepth 100000

theorem cmp_le {x y c : Int} (h : cmpI x y = c) : decide (c ≤ 0) = decide (x ≤ y) := by
  rw [← h]
  by_cases e : x ≤ y
  · rw [decide_eq_true e]
    exact decide_eq_true (by rcases cmpI_tri x y with ⟨a, b⟩ | ⟨a, b⟩ | ⟨a, b⟩ <;> rw [b] <;> omega)
  · rw [decide_eq_false e]
    exact decide_eq_false (by rcases cmpI_tri x y with ⟨a, b⟩ | ⟨a, b⟩ | ⟨a, b⟩ <;> rw [b] <;> omega)
end Go.Proofs.YteejbcimmmcnlaaGreatDoor

/-
  What the document's Two, Both, Meet and Hull of intervals do.
-/
namespace Go.Proofs.YteejbcimmmcnlaaGreatDoor
open Go.RowKit
set_option linter.unusedVariables false
set_option linter.unusedSimpArgs false
set_option maxRecDepth 100000

theorem Nl.lit2 {W : World} {g : Nat} {D1 D2 M1 M2 E1 E2 r1 r2 : Int} {s1 s2 : Bool} (hg : W.heap.size = g) (h1 : M1 < 18446744073709551616) (h2 : M2 < 18446744073709551616) (k1 : rk D1 s1 M1 E1 = r1) (k2 : rk D2 s2 M2 E2 = r2) :
    Nl (W.alloc (.cells #[.int .i64 D1, .bool s1, .int .u64 M1, .int .i64 E1, .int .i64 D2, .bool s2, .int .u64 M2, .int .i64 E2] 24)) (some ⟨g, 0, none⟩) 2 2 [r1, r2] := by
  subst hg; have hh := heap_alloc_new W (.cells #[.int .i64 D1, .bool s1, .int .u64 M1, .int .i64 E1, .int .i64 D2, .bool s2, .int .u64 M2, .int .i64 E2] 24)
  refine ⟨rfl, Nat.le_refl _, by decide, fun _ => ⟨_, 0, rfl, fun k hk => ?_⟩⟩
  rcases (by omega : k = 0 ∨ k = 1) with rfl | rfl
  · exact ⟨D1, s1, M1, E1, by rw [cell_of_row _ _ _ _ _ _ hh]; rfl, by rw [cell_of_row _ _ _ _ _ _ hh]; rfl, by rw [cell_of_row _ _ _ _ _ _ hh]; rfl, by rw [cell_of_row _ _ _ _ _ _ hh]; rfl, h1, k1⟩
  · exact ⟨D2, s2, M2, E2, by rw [cell_of_row _ _ _ _ _ _ hh]; rfl, by rw [cell_of_row _ _ _ _ _ _ hh]; rfl, by rw [cell_of_row _ _ _ _ _ _ hh]; rfl, by rw [cell_of_row _ _ _ _ _ _ hh]; rfl, h2, k2⟩
theorem mxp_two {a b : Int} (ha : -19342822337206103650074625 ≤ a) : mxp [a, b] = max a b := by
  have := TP_eq
  show max (max (-TP) a) b = _
  omega
end Go.Proofs.YteejbcimmmcnlaaGreatDoor
