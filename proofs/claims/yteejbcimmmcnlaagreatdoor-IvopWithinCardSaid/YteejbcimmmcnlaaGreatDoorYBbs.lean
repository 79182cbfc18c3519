/-
  Contracts and words that the statement's proof rests on, several texts in one: Fd, Ff, Fn.
-/
import Derived.Below
import Derived.BigQuiet
import Derived.Carry
import Derived.Deep.DeepCutAuto
import Derived.Deep.Draws
import Derived.Deep.MidRow
import Derived.Deep.QuietTactic
import Derived.Deep.RegionHeld3
import Derived.Deep.RegionWith
import Derived.IntWalk
import Derived.Laws.Bits64b
import Derived.Laws.CopyOwn
import Derived.Laws.Externs
import Derived.Laws.MakeOwn
import Derived.Laws.OwnMore
import Derived.Laws.Rows
import Derived.Lib.BitFns
import Derived.Lib.Hide
import Derived.Lib.Mul64
import Derived.Lib.TrailingZeros
import Derived.Maps.AppendAt
import Derived.StillTailTactics
import Derived.Test.YteejbcimmmcnlaaGreatDoorRows
import Derived.WalkKit
import Derived.WalkLawsBesides
import Derived.WalkSpells
import Derived.Test.YteejbcimmmcnlaaGreatDoorYBbk
import Derived.Test.YteejbcimmmcnlaaGreatDoorYBbl
import Derived.Test.YteejbcimmmcnlaaGreatDoorYBbm
import Derived.Test.YteejbcimmmcnlaaGreatDoorYBbp
import Derived.Test.YteejbcimmmcnlaaGreatDoorYBbr
/-
  Exact sums, products, squares and quotients of numbers of intervals; intervals of whole numbers. Plain arithmetic; no Go text.
-/
namespace Go.Proofs.YteejbcimmmcnlaaGreatDoor
open Go.RowKit
set_option linter.unusedVariables false

/-- One that is worth V is within an interval. -/
def Wi (V : Int) (x : Sp) : Prop := match x with
  | none => False
  | some (a, b) => (a = -19342822337206103650074625 ∨ vr a ≤ V) ∧ (b = 19342822337206103650074625 ∨ V ≤ vr b)
theorem side_of {V lo hi p p2 : Int} (hd : Dn V p) (hu : Up V p2) (h1 : lo ≤ p) (h2 : p2 ≤ hi) (h3 : -19342822337206103650074625 ≤ lo) (h4 : hi ≤ 19342822337206103650074625) : mkI lo hi = some (lo, hi) ∧ SpOk (some (lo, hi)) ∧ Wi V (some (lo, hi)) := by
  have le := dn_le_up hd hu; obtain ⟨d1, d2, d3, d4⟩ := hd; obtain ⟨u1, u2, u3, u4⟩ := hu; refine ⟨mkI_some (by omega) (by omega) (by omega), ⟨h3, by omega, h4, by omega, by omega⟩, ?_, ?_⟩
  · by_cases c : lo = -19342822337206103650074625
    · exact .inl c
    · right
      have := d3 (by omega)
      have := vr_le h1
      omega
  · by_cases c : hi = 19342822337206103650074625
    · exact .inl c
    · right
      have := u3 (by omega)
      rw [vr_neg] at this
      have := vr_le h2
      omega
theorem mulp_spec {x y : Int} (x1 : -19342822337206103650074625 < x) (x2 : x < 19342822337206103650074625) (y1 : -19342822337206103650074625 < y) (y2 : y < 19342822337206103650074625) : Dn (vl (ml (ep x) (ep y))) (mulp false x y) ∧ Up (vl (ml (ep x) (ep y))) (mulp true x y) := by
  obtain ⟨nf, v⟩ := pro_spec x1 x2 y1 y2
  by_cases h : x = 0 ∨ y = 0
  · rw [mulp_zero false h, mulp_zero true h]
    have e : vl (ml (ep x) (ep y)) = vr 0 := by
      have hz : vr x * vr y = 0 := by rcases h with e | e <;> rw [e, show vr 0 = 0 from rfl] <;> simp
      rw [hz] at v
      rcases Int.mul_eq_zero.1 v with e | e
      · rw [e]; rfl
      · have := p2pos KK
        omega
    rw [e]; exact ⟨dn_self (by decide) (by decide), up_self (by decide) (by decide)⟩
  · have hm : ¬ (infp x = true ∨ infp y = true) := by rw [infp_fin x1 x2, infp_fin y1 y2]; simp
    rw [mulp_fin false h hm, mulp_fin true h hm]; exact rnd_spec nf
theorem In.fin {x : Int} (h1 : -19342822337206103650074625 < x) (h2 : x < 19342822337206103650074625) : In x := ⟨by omega, by omega⟩
theorem add_holds {X Y : Sp} {x y : Int} (hX : SpOk X) (hY : SpOk Y) (x1 : -19342822337206103650074625 < x) (x2 : x < 19342822337206103650074625) (y1 : -19342822337206103650074625 < y) (y2 : y < 19342822337206103650074625) (hx : hasI X x = true) (hy : hasI Y y = true) : Wi (vr x + vr y) (addI X Y) := by
  rcases X with _ | ⟨a, b⟩
  · cases hx
  rcases Y with _ | ⟨c, d⟩
  · cases hy
  obtain ⟨_, _, h3, h4⟩ := has_out hx (In.fin x1 x2); obtain ⟨_, _, k3, k4⟩ := has_out hy (In.fin y1 y2); have A := hX.in1; have C := hY.in1
  have s := fun up => addp_spec (x := x) (y := y) up x1 x2 y1 y2
  have l := addp_le2 false A.1 (In.fin x1 x2) C.1 (In.fin y1 y2) h3 k3; have u := addp_le2 true (In.fin x1 x2) A.2 (In.fin y1 y2) C.2 h4 k4; have r := side_of (s false).1 (s true).2 l u (addp_bd false A.1.1 A.1.2 C.1.1 C.1.2).1 (addp_bd true A.2.1 A.2.2 C.2.1 C.2.2).2
  show Wi _ (mkI _ _)
  rw [r.1]; exact r.2.2
theorem sub_holds {X Y : Sp} {x y : Int} (hX : SpOk X) (hY : SpOk Y) (x1 : -19342822337206103650074625 < x) (x2 : x < 19342822337206103650074625) (y1 : -19342822337206103650074625 < y) (y2 : y < 19342822337206103650074625) (hx : hasI X x = true) (hy : hasI Y y = true) : Wi (vr x - vr y) (subI X Y) := by
  have := add_holds (y := -y) hX (negI_ok hY) x1 x2 (by omega) (by omega) hx (by
    rcases Y with _ | ⟨c, d⟩
    · cases hy
    · obtain ⟨_, _, k3, k4⟩ := has_out hy (In.fin y1 y2); rw [negI_some hY]; exact has_in (by omega) (by omega) (by omega) (by omega))
  rw [vr_neg] at this; exact this
theorem mul_holds {X Y : Sp} {x y : Int} (hX : SpOk X) (hY : SpOk Y) (x1 : -19342822337206103650074625 < x) (x2 : x < 19342822337206103650074625) (y1 : -19342822337206103650074625 < y) (y2 : y < 19342822337206103650074625) (hx : hasI X x = true) (hy : hasI Y y = true) : Wi (vl (ml (ep x) (ep y))) (mulI X Y) := by
  rcases X with _ | ⟨a, b⟩
  · cases hx
  rcases Y with _ | ⟨c, d⟩
  · cases hy
  obtain ⟨_, _, h3, h4⟩ := has_out hx (In.fin x1 x2); obtain ⟨_, _, k3, k4⟩ := has_out hy (In.fin y1 y2); have s := mulp_spec x1 x2 y1 y2; have l := (mul_in false hX hY h3 h4 k3 k4).1; have u := (mul_in true hX hY h3 h4 k3 k4).2
  have b1 := fun up (i j : Int) => mulp_bd (x := i) (y := j) up
  have l1 := b1 false a c; have l2 := b1 false a d; have l3 := b1 false b c; have l4 := b1 false b d; have u1 := b1 true a c; have u2 := b1 true a d; have u3 := b1 true b c; have u4 := b1 true b d; have r := side_of s.1 s.2 l u (by omega) (by omega)
  show Wi _ (cor mulp a b c d)
  unfold cor
  rw [r.1]; exact r.2.2
theorem sqr_holds {X : Sp} {x : Int} (hX : SpOk X) (x1 : -19342822337206103650074625 < x) (x2 : x < 19342822337206103650074625) (hx : hasI X x = true) : Wi (vl (ml (ep x) (ep x))) (sqrI X) := by
  rcases X with _ | ⟨a, b⟩
  · cases hx
  obtain ⟨_, _, h3, h4⟩ := has_out hx (In.fin x1 x2); have s := mulp_spec x1 x2 x1 x2; rw [sqr_eq hX]; obtain ⟨A1, A2, A3, A4, A5⟩ := hX
  have e : ∀ up, ∃ t, 0 ≤ t ∧ (t = x ∨ t = -x) ∧ mulp up x x = mulp up t t := fun up => by
    by_cases c : 0 ≤ x
    · exact ⟨x, c, .inl rfl, rfl⟩
    · exact ⟨-x, by omega, .inr rfl, (mulp_negs up x).symm⟩
  obtain ⟨t, t1, t2, t3⟩ := e false; obtain ⟨v, v1, v2, v3⟩ := e true; have l := mulp_sq (x := max 0 (max a (-b))) (y := t) false (by omega) (by omega) (by omega); have u := mulp_sq (x := v) (y := max b (-a)) true v1 (by omega) (by omega); rw [← t3] at l; rw [← v3] at u; have r := side_of s.1 s.2 l u (mulp_bd false).1 (mulp_bd true).2; rw [r.1]; exact r.2.2
/-- From one whole number to another. -/
def Zi (a b : Int) : Sp := some (opl a, opl b)
theorem opl_le {a b : Int} (h1 : -9223372036854775808 ≤ a) (h : a ≤ b) (h2 : b ≤ 9223372036854775807) : opl a ≤ opl b := by
  have c := opl_cmp (a := a) (b := b) h1 (by omega) (by omega) h2
  rcases cmpI_tri (opl a) (opl b) with ⟨p, e⟩ | ⟨p, e⟩ | ⟨p, e⟩
  · omega
  · omega
  · rw [e] at c
    rcases cmpI_tri a b with ⟨s, f⟩ | ⟨s, f⟩ | ⟨s, f⟩ <;> omega
theorem opl_fin {a : Int} (h1 : -9223372036854775807 ≤ a) (h2 : a ≤ 9223372036854775807) : -19342822337206103650074625 < opl a ∧ opl a < 19342822337206103650074625 := by
  rcases Int.lt_or_le 0 a with c | c
  · have := opl_pos c h2
    omega
  · by_cases d : a = 0
    · subst d
      decide
    · have := opl_pos (n := -a) (by omega) (by omega)
      rw [opl_neg] at this
      omega
theorem opl_min {a b : Int} (h1 : -9223372036854775808 ≤ a) (h2 : a ≤ 9223372036854775807) (h3 : -9223372036854775808 ≤ b) (h4 : b ≤ 9223372036854775807) : min (opl a) (opl b) = opl (min a b) ∧ max (opl a) (opl b) = opl (max a b) := by
  rcases Int.lt_or_le b a with c | c
  · have := opl_le h3 (show b ≤ a by omega) h2
    rw [show min a b = b by omega, show max a b = a by omega]
    omega
  · have := opl_le h1 c h4
    rw [show min a b = a by omega, show max a b = b by omega]
    omega
theorem Zi.mk {a b : Int} (h1 : -9223372036854775807 ≤ a) (h : a ≤ b) (h2 : b ≤ 9223372036854775807) : mkI (opl a) (opl b) = Zi a b ∧ SpOk (Zi a b) := by
  have A := opl_fin h1 (show a ≤ 9223372036854775807 by omega)
  have B := opl_fin (show -9223372036854775807 ≤ b by omega) h2
  have C := opl_le (by omega) h h2; exact ⟨mkI_some C A.2 B.1, ⟨by omega, C, by omega, A.2, B.1⟩⟩
theorem opl_add {a b : Int} (up : Bool) (h1 : -1000000000000000000 ≤ a) (h2 : a ≤ 1000000000000000000) (h3 : -1000000000000000000 ≤ b) (h4 : b ≤ 1000000000000000000) : addp up (opl a) (opl b) = opl (a + b) := by
  obtain ⟨a1, a2⟩ := opl_fin (a := a) (by omega) (by omega); obtain ⟨b1, b2⟩ := opl_fin (a := b) (by omega) (by omega); obtain ⟨c1, c2⟩ := opl_fin (a := a + b) (by omega) (by omega); rw [addp_ff up (infp_fin a1 a2) (infp_fin b1 b2)]; obtain ⟨nf, v⟩ := sum_spec a1 a2 b1 b2; refine rnd_exact nf up c1 c2 ?_; rw [v, opl_vr (by omega) (by omega), opl_vr (by omega) (by omega), opl_vr (by omega) (by omega), Int.add_mul]
theorem opl_nz {a : Int} (h : a ≠ 0) (h1 : -9223372036854775807 ≤ a) (h2 : a ≤ 9223372036854775807) : opl a ≠ 0 := by
  rcases Int.lt_or_le 0 a with c | c
  · have := opl_pos c h2
    omega
  · have := opl_pos (n := -a) (by omega) (by omega)
    rw [opl_neg] at this
    omega
theorem opl_mul {a b : Int} (up : Bool) (h1 : -1000000000 ≤ a) (h2 : a ≤ 1000000000) (h3 : -1000000000 ≤ b) (h4 : b ≤ 1000000000) : mulp up (opl a) (opl b) = opl (a * b) := by
  by_cases c : a = 0 ∨ b = 0
  · rw [mulp_zero up (c.imp (fun e => by subst e; rfl) (fun e => by subst e; rfl)), show a * b = 0 from Int.mul_eq_zero.2 c]
    rfl
  · have hp : (a * b).natAbs ≤ 1000000000 * 1000000000 := by
      rw [Int.natAbs_mul]; exact Nat.mul_le_mul (by omega) (by omega)
    obtain ⟨a1, a2⟩ := opl_fin (a := a) (by omega) (by omega); obtain ⟨b1, b2⟩ := opl_fin (a := b) (by omega) (by omega); obtain ⟨c1, c2⟩ := opl_fin (a := a * b) (by omega) (by omega); refine mulp_exact up (opl_nz (by omega) (by omega) (by omega)) (opl_nz (by omega) (by omega) (by omega)) a1 a2 b1 b2 c1 c2 ?_; rw [opl_vr (by omega) (by omega), opl_vr (by omega) (by omega), opl_vr (n := a * b) (by omega) (by omega)]
    simp only [Int.mul_assoc, Int.mul_left_comm]
theorem Zi.add {a b c d : Int} (h1 : -100000000000000000 ≤ a) (h : a ≤ b) (h2 : b ≤ 100000000000000000) (k1 : -100000000000000000 ≤ c) (k : c ≤ d) (k2 : d ≤ 100000000000000000) : addI (Zi a b) (Zi c d) = Zi (a + c) (b + d) := by
  show mkI _ _ = _
  rw [opl_add false (by omega) (by omega) (by omega) (by omega), opl_add true (by omega) (by omega) (by omega) (by omega)]; exact (Zi.mk (by omega) (by omega) (by omega)).1
theorem Zi.neg {a b : Int} (h1 : -100000000000000000 ≤ a) (h : a ≤ b) (h2 : b ≤ 100000000000000000) : negI (Zi a b) = Zi (-b) (-a) := by
  show mkI _ _ = _
  rw [← opl_neg, ← opl_neg]; exact (Zi.mk (by omega) (by omega) (by omega)).1
theorem zmul_bd {a b : Int} {A B : Nat} (h : a.natAbs ≤ A) (k : b.natAbs ≤ B) : (a * b).natAbs ≤ A * B := by
  rw [Int.natAbs_mul]; exact Nat.mul_le_mul h k
theorem Zi.mul {a b c d : Int} (h1 : -1000000000 ≤ a) (h : a ≤ b) (h2 : b ≤ 1000000000) (k1 : -1000000000 ≤ c) (k : c ≤ d) (k2 : d ≤ 1000000000) : mulI (Zi a b) (Zi c d) = Zi (min (min (a * c) (a * d)) (min (b * c) (b * d))) (max (max (a * c) (a * d)) (max (b * c) (b * d))) := by
  show cor mulp _ _ _ _ = _
  unfold cor
  simp only [opl_mul _ h1 (show a ≤ 1000000000 by omega) k1 (show c ≤ 1000000000 by omega), opl_mul _ h1 (show a ≤ 1000000000 by omega) (show -1000000000 ≤ d by omega) k2, opl_mul _ (show -1000000000 ≤ b by omega) h2 k1 (show c ≤ 1000000000 by omega), opl_mul _ (show -1000000000 ≤ b by omega) h2 (show -1000000000 ≤ d by omega) k2]
  have n1 := zmul_bd (a := a) (b := c) (A := 1000000000) (B := 1000000000) (by omega) (by omega); have n2 := zmul_bd (a := a) (b := d) (A := 1000000000) (B := 1000000000) (by omega) (by omega); have n3 := zmul_bd (a := b) (b := c) (A := 1000000000) (B := 1000000000) (by omega) (by omega); have n4 := zmul_bd (a := b) (b := d) (A := 1000000000) (B := 1000000000) (by omega) (by omega); generalize a * c = p at *
  generalize a * d = q at *; generalize b * c = r at *; generalize b * d = s at *; have e1 := opl_min (a := p) (b := q) (by omega) (by omega) (by omega) (by omega); have e2 := opl_min (a := r) (b := s) (by omega) (by omega) (by omega) (by omega); rw [e1.1, e1.2, e2.1, e2.2, (opl_min (a := min p q) (b := min r s) (by omega) (by omega) (by omega) (by omega)).1, (opl_min (a := max p q) (b := max r s) (by omega) (by omega) (by omega) (by omega)).2]
  exact (Zi.mk (by omega) (by omega) (by omega)).1
theorem Zi.point {a b : Int} (h1 : -1000000000 ≤ a) (h2 : a ≤ 1000000000) (k1 : -1000000000 ≤ b) (k2 : b ≤ 1000000000) : hullI (mkI (opl a) (opl a)) (mkI (opl b) (opl b)) = Zi (min a b) (max a b) := by
  rw [(Zi.mk (a := a) (b := a) (by omega) (Int.le_refl _) (by omega)).1, (Zi.mk (a := b) (b := b) (by omega) (Int.le_refl _) (by omega)).1]
  show mkI _ _ = _
  have e := opl_min (a := a) (b := b) (by omega) (by omega) (by omega) (by omega); rw [e.1, e.2]; exact (Zi.mk (by omega) (by omega) (by omega)).1
theorem Zi.wit {a b c d : Int} (h1 : -9223372036854775807 ≤ c) (h : c ≤ a) (k : b ≤ d) (ha : a ≤ 9223372036854775807) (hb : -9223372036854775807 ≤ b) (h2 : d ≤ 9223372036854775807) : witI (Zi a b) (Zi c d) = true :=
  wit_iff.2 ⟨opl_le (by omega) h ha, opl_le (by omega) k h2⟩
theorem least4 (p q r s : Int) : ∃ m, min (min p q) (min r s) = m ∧ m ≤ p ∧ m ≤ q ∧ m ≤ r ∧ m ≤ s ∧ ∀ t, t ≤ p → t ≤ q → t ≤ r → t ≤ s → t ≤ m := ⟨_, rfl, by omega, by omega, by omega, by omega, fun t _ _ _ _ => by omega⟩
theorem most4 (p q r s : Int) : ∃ m, max (max p q) (max r s) = m ∧ p ≤ m ∧ q ≤ m ∧ r ≤ m ∧ s ≤ m ∧ ∀ t, p ≤ t → q ≤ t → r ≤ t → s ≤ t → m ≤ t := ⟨_, rfl, by omega, by omega, by omega, by omega, fun t _ _ _ _ => by omega⟩
theorem zbd {x y : Int} (hx : x.natAbs ≤ 1000000) (hy : y.natAbs ≤ 1000000) : -1000000000000 ≤ x * y ∧ x * y ≤ 1000000000000 := by
  have := zmul_bd hx hy
  omega
set_option maxHeartbeats 2000000 in
theorem spreads {a b c d e f : Int} (h1 : -1000000 ≤ a) (h2 : a ≤ b) (h3 : b ≤ 1000000) (k1 : -1000000 ≤ c) (k2 : c ≤ d) (k3 : d ≤ 1000000) (l1 : -1000000 ≤ e) (l2 : e ≤ f) (l3 : f ≤ 1000000) :
    witI (mulI (Zi a b) (addI (Zi c d) (Zi e f))) (addI (mulI (Zi a b) (Zi c d)) (mulI (Zi a b) (Zi e f))) = true ∧ witI (Zi a b) (addI (subI (Zi a b) (Zi c d)) (Zi c d)) = true ∧
      ∃ p q, mulI (Zi a b) (addI (Zi c d) (Zi e f)) = Zi p q ∧ -9223372036854775807 ≤ p ∧ p ≤ q ∧ q ≤ 9223372036854775807 := by
  have n1 := zbd (x := a) (y := c) (by omega) (by omega); have n2 := zbd (x := a) (y := d) (by omega) (by omega); have n3 := zbd (x := b) (y := c) (by omega) (by omega); have n4 := zbd (x := b) (y := d) (by omega) (by omega); have n5 := zbd (x := a) (y := e) (by omega) (by omega); have n6 := zbd (x := a) (y := f) (by omega) (by omega); have n7 := zbd (x := b) (y := e) (by omega) (by omega); have n8 := zbd (x := b) (y := f) (by omega) (by omega)
  rw [Zi.add (by omega) k2 (by omega) (by omega) l2 (by omega), Zi.mul (by omega) h2 (by omega) (by omega) (by omega) (by omega), Zi.mul (by omega) h2 (by omega) (by omega) k2 (by omega), Zi.mul (by omega) h2 (by omega) (by omega) l2 (by omega)]
  unfold subI
  rw [Zi.neg (by omega) k2 (by omega), Zi.add (by omega) h2 (by omega) (by omega) (by omega) (by omega), Zi.add (by omega) (by omega) (by omega) (by omega) k2 (by omega)]; simp only [Int.mul_add]; generalize a * c = p1 at *; generalize a * d = p2 at *; generalize b * c = p3 at *; generalize b * d = p4 at *; generalize a * e = p5 at *; generalize a * f = p6 at *; generalize b * e = p7 at *; generalize b * f = p8 at *
  obtain ⟨m, hm, m1, m2, m3, m4, m5⟩ := least4 p1 p2 p3 p4; obtain ⟨M, hM, M1, M2, M3, M4, M5⟩ := most4 p1 p2 p3 p4; obtain ⟨k, hk, i1, i2, i3, i4, i5⟩ := least4 p5 p6 p7 p8; obtain ⟨K2, hK, I1, I2, I3, I4, I5⟩ := most4 p5 p6 p7 p8; obtain ⟨u, hu, u1, u2, u3, u4, u5⟩ := least4 (p1 + p5) (p2 + p6) (p3 + p7) (p4 + p8); obtain ⟨U, hU, U1, U2, U3, U4, U5⟩ := most4 (p1 + p5) (p2 + p6) (p3 + p7) (p4 + p8)
  rw [hm, hM, hk, hK, hu, hU]; clear hm hM hk hK hu hU
  have b1 : m + k ≤ u := u5 _ (Int.add_le_add m1 i1) (Int.add_le_add m2 i2) (Int.add_le_add m3 i3) (Int.add_le_add m4 i4)
  have b2 : U ≤ M + K2 := U5 _ (Int.add_le_add M1 I1) (Int.add_le_add M2 I2) (Int.add_le_add M3 I3) (Int.add_le_add M4 I4)
  have b3 : u ≤ U := Int.le_trans u1 U1
  have b4 : -1000000000000 ≤ m := m5 _ n1.1 n2.1 n3.1 n4.1
  have b5 : M ≤ 1000000000000 := M5 _ n1.2 n2.2 n3.2 n4.2
  have b6 : -1000000000000 ≤ k := i5 _ n5.1 n6.1 n7.1 n8.1
  have b7 : K2 ≤ 1000000000000 := I5 _ n5.2 n6.2 n7.2 n8.2
  have b8 : m ≤ M := Int.le_trans m1 M1
  have b9 : k ≤ K2 := Int.le_trans i1 I1
  clear u1 u2 u3 u4 u5 U1 U2 U3 U4 U5 m1 m2 m3 m4 m5 M1 M2 M3 M4 M5 i1 i2 i3 i4 i5 I1 I2 I3 I4 I5 n1 n2 n3 n4 n5 n6 n7 n8; rw [Zi.add (by omega) (by omega) (by omega) (by omega) (by omega) (by omega)]; exact ⟨Zi.wit (by omega) (by omega) (by omega) (by omega) (by omega) (by omega), Zi.wit (by omega) (by omega) (by omega) (by omega) (by omega) (by omega), u, U, rfl, by omega, by omega, by omega⟩
end Go.Proofs.YteejbcimmmcnlaaGreatDoor

/-
  The chapter's examples: places of whole numbers' intervals. Plain arithmetic; no Go text.
-/
namespace Go.Proofs.YteejbcimmmcnlaaGreatDoor
open Go.RowKit
set_option linter.unusedVariables false

theorem aw_mul : mulI (Zi (-1) 2) (Zi 3 4) = Zi (-4) 8 := by
  rw [Zi.mul (by decide) (by decide) (by decide) (by decide) (by decide) (by decide)]
  rfl
theorem aw_sqr : sqrI (Zi (-1) 2) = Zi 0 4 := by
  have k := (Zi.mk (a := -1) (b := 2) (by decide) (by decide) (by decide)).2; have e := sqr_eq (a := opl (-1)) (b := opl 2) k; have p1 := opl_pos (n := 1) (by decide) (by decide); have p2 := opl_pos (n := 2) (by decide) (by decide); have l12 := opl_le (a := 1) (b := 2) (by decide) (by decide) (by decide)
  have n1 : opl (-1) = -opl 1 := opl_neg 1
  have h1 : max 0 (max (opl (-1)) (-opl 2)) = 0 := by omega
  have h2 : max (opl 2) (-opl (-1)) = opl 2 := by omega
  rw [h1, h2, mulp_zero false (.inl rfl), opl_mul true (by decide) (by decide) (by decide) (by decide)] at e
  show sqrI (some (opl (-1), opl 2)) = _
  rw [e]; exact (Zi.mk (a := 0) (b := 4) (by decide) (by decide) (by decide)).1
theorem aw_div {q : Bool → Int → Int → Int} (hq : QF q) : ∃ u, divI q (Zi 1 2) (Zi 0 4) = some (u, 19342822337206103650074625) ∧ 0 < u ∧ u < 19342822337206103650074625 ∧ SpOk (some (u, 19342822337206103650074625)) := by
  have p1 := opl_pos (n := 1) (by decide) (by decide); have p4 := opl_pos (n := 4) (by decide) (by decide); have l12 := opl_le (a := 1) (b := 2) (by decide) (by decide) (by decide); have e := (dvI_up (q := q) (a := opl 1) (b := opl 2) (d := opl 4) p4.1 l12).1 p1.1; have s := qt_sid (hq false (opl 1) (opl 4)) p4.1 (infp_fin (by omega) p1.2) (infp_fin (by omega) p4.2); have bd := s.bd; have s0 := s; rw [sid_f] at s
  have lt : q false (opl 1) (opl 4) < 19342822337206103650074625 := by have := s.2.1; omega
  have pos : 0 < q false (opl 1) (opl 4) := by
    have t : Sid false (vr 1) 1 1 := sid_exact (by decide) (by decide) (by decide) (Int.mul_one _)
    have m := t.mono (by decide) (vr_pos p4.1) s0 (by
      rw [opl_vr (by decide) (by decide), opl_vr (by decide) (by decide), Int.mul_one]
      have v1 : vr 1 = 2 ^ (63 - 1048576 + (KK : Int)).toNat := vp_one
      have hk : (KK : Int) = (63 - 1048576 + (KK : Int)).toNat + 1048513 := by
        have : KK = 4194304 := rfl
        omega
      have hk2 : KK = (63 - 1048576 + (KK : Int)).toNat + 1048511 + 2 := by omega
      rw [v1]; generalize (63 - 1048576 + (KK : Int)).toNat = n at *
      have h4 : (2 : Int) ^ n * 4 ≤ 1 * 2 ^ KK := by
        rw [Int.one_mul, hk2, Int.pow_add, show (2 : Int) ^ 2 = 4 from rfl]
        exact Int.mul_le_mul_of_nonneg_right (p2_le (by omega)) (by decide)
      have h5 := Int.mul_le_mul_of_nonneg_right h4 (Int.le_of_lt (p2pos KK)); rw [Int.mul_assoc] at h5; exact h5)
    omega
  refine ⟨q false (opl 1) (opl 4), ?_, pos, lt, ?_⟩
  · show divI q (some (opl 1, opl 2)) (some (opl 0, opl 4)) = _
    rw [opl_zero, e]; exact mkI_some (by omega) lt (by omega)
  · exact ⟨by omega, by omega, by omega, lt, by omega⟩
end Go.Proofs.YteejbcimmmcnlaaGreatDoor

/-
  What every statement of layer 9 begins with: the chapter's examples.
-/
namespace Go.Proofs.YteejbcimmmcnlaaGreatDoor
open Go.RowKit
set_option linter.unusedVariables false
set_option linter.unusedSimpArgs false
set_option maxRecDepth 100000

theorem fin_one9 {K M E r : Int} {s : Bool} (q : Fq K s M E r) (h0 : r ≠ 0) (h1 : -19342822337206103650074625 < r) (h2 : r < 19342822337206103650074625) : K = 1 := by
  rcases q.cases with ⟨rfl, rfl, rfl, rfl, h⟩ | ⟨rfl, _⟩ | ⟨rfl, rfl, rfl, ⟨rfl, h⟩ | ⟨rfl, h⟩⟩
  · omega
  · rfl
  · omega
  · omega
theorem Zi.all {a b : Int} (h1 : -9223372036854775807 ≤ a) (h : a ≤ b) (h2 : b ≤ 9223372036854775807) : mkI (opl a) (opl b) = Zi a b := (Zi.mk h1 h h2).1
set_option maxHeartbeats 8000000 in
theorem awake9 {w : World} {q : Bool → Int → Int → Int} (hT : Tab w) (hq : QF q) : Calls Tryz.prog 10 #[] w (PB w true) := by
  obtain ⟨u, hd, u0, u1, u2⟩ := aw_div hq; have hm := aw_mul; have hs := aw_sqr
  have n4 : opl (-4) ≠ 0 ∧ -19342822337206103650074625 < opl (-4) ∧ opl (-4) < 19342822337206103650074625 := ⟨opl_nz (by decide) (by decide) (by decide), opl_fin (by decide) (by decide)⟩
  have hw : Zi (-4) 8 = some (opl (-4), opl 8) := rfl
  have mx1 := Zi.all (a := (-1)) (b := 2) (by decide) (by decide) (by decide); have mx2 := Zi.all (a := 3) (b := 4) (by decide) (by decide) (by decide); have mx3 := Zi.all (a := (-4)) (b := 8) (by decide) (by decide) (by decide); have mx4 := Zi.all (a := 1) (b := 2) (by decide) (by decide) (by decide); have mx5 := Zi.all (a := 0) (b := 4) (by decide) (by decide) (by decide)
  have ek4 : sgi (decide (((-4) : Int) < 0)) (lo ((-4) : Int).natAbs 0) = opl (-4) := rfl
  have ek1 : sgi (decide (((-1) : Int) < 0)) (lo ((-1) : Int).natAbs 0) = opl (-1) := rfl
  have ei0 : sgi (decide ((0 : Int) < 0)) (lo (0 : Int).natAbs 0) = opl 0 := rfl
  have ei1 : sgi (decide ((1 : Int) < 0)) (lo (1 : Int).natAbs 0) = opl 1 := rfl
  have ei2 : sgi (decide ((2 : Int) < 0)) (lo (2 : Int).natAbs 0) = opl 2 := rfl
  have ei3 : sgi (decide ((3 : Int) < 0)) (lo (3 : Int).natAbs 0) = opl 3 := rfl
  have ei4 : sgi (decide ((4 : Int) < 0)) (lo (4 : Int).natAbs 0) = opl 4 := rfl
  have ei8 : sgi (decide ((8 : Int) < 0)) (lo (8 : Int).natAbs 0) = opl 8 := rfl
  have z0 : opl 0 = 0 := rfl
  generalize opl (-4) = k4 at *; generalize opl (-1) = k1 at *; generalize opl 1 = i1 at *; generalize opl 2 = i2 at *; generalize opl 3 = i3 at *; generalize opl 4 = i4 at *; generalize opl 8 = i8 at *; rw [z0] at *; generalize Zi (-1) 2 = x1 at *; generalize Zi 3 4 = x2 at *; generalize Zi (-4) 8 = x3 at *; generalize Zi 1 2 = x4 at *; generalize Zi 0 4 = x5 at *; subst hw; have Hk4 := Lib.hid ek4
  clear ek4; have Hk1 := Lib.hid ek1; clear ek1; have Hi0 := Lib.hid ei0; clear ei0; have Hi1 := Lib.hid ei1; clear ei1; have Hi2 := Lib.hid ei2; clear ei2; have Hi3 := Lib.hid ei3; clear ei3; have Hi4 := Lib.hid ei4; clear ei4; have Hi8 := Lib.hid ei8; clear ei8; have Mx1 := Lib.hid mx1; clear mx1; have Mx2 := Lib.hid mx2; clear mx2; have Mx3 := Lib.hid mx3; clear mx3; have Mx4 := Lib.hid mx4; clear mx4
  have Mx5 := Lib.hid mx5; clear mx5; have HD := Lib.hid hd; have HMU := Lib.hid hm; have HSQ := Lib.hid hs
  have HU : Hid (cmpI u 0 = 1) := Lib.hid (by rcases cmpI_tri u 0 with ⟨a, b⟩ | ⟨a, b⟩ | ⟨a, b⟩ <;> omega)
  have HQ := Lib.hid hq; have HN := Lib.hid n4; clear hd hm hs hq n4 z0 u0 u1 u2
  go_enter Tryz.func10, Tryz.ntmps10
  have HB := Lib.hid (Below.refl w.heap.size w)
  go_wp2_with fail
  refine (kvOf (by decide) (by decide) (by decide) (by decide) Hk1.out Hi2.out Mx1.out).mono ?_; rintro ee w1 ⟨e1, K1, s1, M1, E1, K1b, s1b, M1b, E1b, rfl, v1, B⟩; replace hT := hT.below B; replace HB := Lib.hid (bt HB.out B); clear B
  go_wp2_with fail
  refine (kvOf (by decide) (by decide) (by decide) (by decide) Hi3.out Hi4.out Mx2.out).mono ?_; rintro ee w2 ⟨e2, K2, s2, M2, E2, K2b, s2b, M2b, E2b, rfl, v2, B⟩; replace hT := hT.below B; replace HB := Lib.hid (bt HB.out B); clear B
  go_wp2_with fail
  refine (fkMul v1.top.1 v1.top.2 v2.top.1 v2.top.2 v1.rk v2.rk HMU.out).mono ?_; rintro ee w3 ⟨e3, K3, s3, M3, E3, K3b, s3b, M3b, E3b, rfl, v3, B⟩; replace hT := hT.below B; replace HB := Lib.hid (bt HB.out B); clear B; clear v1 v2; obtain ⟨rfl, a3, b3, o3a, o3l, o3h⟩ := v3
  obtain rfl : K3 = 1 := fin_one9 a3 HN.out.1 HN.out.2.1 HN.out.2.2
  go_upto_region 2 with (fail)
  have lX1 := Nat.le_refl (World.heap w3).size; generalize hWn : w3.alloc _ = w4 at *; obtain ⟨X1, BW⟩ := Bo.nw hWn; clear hWn; replace hT := hT.below BW; replace HB := Lib.hid (bt HB.out BW); clear BW; clear lX1
  have v3 : Ci false 1 s3 M3 E3 K3b s3b M3b E3b (some (k4, i8)) := ⟨rfl, a3, b3, o3a, o3l, o3h⟩
  clear a3 b3 o3a o3l o3h
  go_wp2_with fail
  refine (kvOf (by decide) (by decide) (by decide) (by decide) Hi1.out Hi2.out Mx4.out).mono ?_; rintro ee w5 ⟨e4, K4, s4, M4, E4, K4b, s4b, M4b, E4b, rfl, v4, B⟩; replace X1 := X1.below B; replace hT := hT.below B; replace HB := Lib.hid (bt HB.out B); clear B
  go_wp2_with fail
  refine (kvOf (by decide) (by decide) (by decide) (by decide) Hi0.out Hi4.out Mx5.out).mono ?_; rintro ee w6 ⟨e5, K5, s5, M5, E5, K5b, s5b, M5b, E5b, rfl, v5, B⟩; replace X1 := X1.below B; replace hT := hT.below B; replace HB := Lib.hid (bt HB.out B); clear B
  go_wp2_with fail
  refine (fkDiv hT HQ.out v4.top.1 v4.top.2 v5.top.1 v5.top.2 v4.rk v5.rk HD.out).mono ?_; rintro ee w7 ⟨e6, K6, s6, M6, E6, K6b, s6b, M6b, E6b, rfl, v6, B⟩; replace X1 := X1.below B; replace hT := hT.below B; replace HB := Lib.hid (bt HB.out B); clear B; clear v4 v5; obtain ⟨rfl, a6, b6, _, _, _⟩ := v6; obtain ⟨rfl, rfl, rfl, rfl⟩ := b6.uniq (fq_inf2 false)
  go_upto_region 3 with (fail)
  have lX2 := Nat.le_refl (World.heap w7).size; have nX2X1 := X1.lt; generalize hWn : w7.alloc _ = w8 at *; obtain ⟨X2, BW⟩ := Bo.nw hWn; clear hWn; replace X1 := X1.below BW; replace hT := hT.below BW; replace HB := Lib.hid (bt HB.out BW); clear BW; clear lX2; refine Jo.rk [0, 1, 2, 3, 4, 5, 6, 7, 8, 9, 10, 11, 12, 13, 14, 15, 16, 17, 18, 19, 20, 21, 22, 23, 24, 25, 26, 27, 28, 29, 30, 31, 32, 33] [some 9, some 10, some 11, some 12, some 13, some 14, some 15, some 16, some 17, some 18, some 19, some 20, some 21, some 22, some 23, some 24, some 25, some 26, some 27, some 28, some 29, some 30, some 31, some 32, some 33, some 34, some 35, some 36, some 37, some 38, some 39, some 40, some 41, some 0] [[], [], [0, 1], [2], [3], [3, 4], [3, 5], [3, 6], [7], [8], [8, 9], [8, 10], [8, 11], [8, 12], [13], [14], [14, 15], [14], [14, 16, 17], [14, 18], [19], [20], [20, 21], [20], [20, 22, 23], [20, 24], [20, 25], [26], [27], [27, 28], [27], [27, 29, 30], [27, 31], [32]] 34 0 [Jo.q9 false 1 s3 M3 E3 K3b s3b M3b E3b, Jo.Fact.iv (some (k4, i8)), Jo.qb true, Jo.qb true, Jo.qp w3.heap.size 0, Jo.qb false, Jo.qb true, Jo.qb true, Jo.qb true, Jo.qp w3.heap.size 1, Jo.qp w3.heap.size 1, Jo.qi 1, Jo.qb true, Jo.qb true, Jo.qb true, Jo.qp w7.heap.size 5, Jo.q4 2 false 0 0, Jo.q4 2 false 0 0, Jo.qb true, Jo.qb true, Jo.qb true, Jo.qp w7.heap.size 1, Jo.q4 K6 s6 M6 E6, Jo.Fact.num 0, Jo.qi 1, Jo.qb true, Jo.qb true, Jo.qb true, Jo.Fact.iv x1, Jo.Fact.iv x5, Jo.Fact.iv x5, Jo.qb true, Jo.qb true, Jo.qb true] (by kernel_rfl) (by kernel_rfl) (by decide) rfl ?_ ?_
  · refine Jo.jm rfl ?_ ?_
    · rintro wj hJ K hK; simp only [Jo.z] at hK ⊢; obtain ⟨xX10, xX11, xX12, xX13, xX14, xX15, xX16, xX17, xX18⟩ := (X1.below hJ).u9; go_simp; exact hK.out _ _ rfl (br _ _)
    refine Jo.jm rfl ?_ ?_
    · rintro wj hJ K hK; simp only [Jo.z] at hK ⊢; go_simp; refine (kvOf (by decide) (by decide) (by decide) (by decide) Hk4.out Hi8.out Mx3.out).mono ?_; rintro ee wk ⟨e7, K7, s7, M7, E7, K7b, s7b, M7b, E7b, rfl, v7, B⟩; exact hK.out _ _ ⟨e7, K7, s7, M7, E7, K7b, s7b, M7b, E7b, rfl, v7⟩ B
    refine Jo.jm rfl ?_ ?_
    · rintro wj hJ _ rfl _ ⟨e7, K7, s7, M7, E7, K7b, s7b, M7b, E7b, rfl, v7⟩ K hK; simp only [Jo.z] at hK ⊢; obtain ⟨rfl, rfl, rfl, rfl, rfl, rfl, rfl, rfl, rfl⟩ := v3.uniq v7; go_simp
      exact hK.out _ _ (by first | rfl | (show Value.bool _ = Value.bool _; simp)) (br _ _)
    refine Jo.jm rfl ?_ ?_
    · rintro wj hJ _ rfl K hK; simp only [Jo.z] at hK ⊢; go_simp; exact hK.out _ _ rfl (br _ _)
    refine Jo.jm rfl ?_ ?_
    · rintro wj hJ _ rfl K hK; simp only [Jo.z] at hK ⊢; go_simp; exact hK.out _ _ rfl (br _ _)
    refine Jo.jm rfl ?_ ?_
    · rintro wj hJ _ rfl _ rfl K hK; simp only [Jo.z] at hK ⊢; have xX10 := (X1.below hJ).a 0 (.bool false) rfl; go_simp; exact hK.out _ _ rfl (br _ _)
    refine Jo.jm rfl ?_ ?_
    · rintro wj hJ _ rfl _ rfl K hK; simp only [Jo.z] at hK ⊢; go_simp; exact hK.out _ _ rfl (br _ _)
    refine Jo.jm rfl ?_ ?_
    · rintro wj hJ _ rfl _ rfl K hK; simp only [Jo.z] at hK ⊢; go_simp; exact hK.out _ _ rfl (br _ _)
    refine Jo.jm rfl ?_ ?_
    · rintro wj hJ _ rfl K hK; simp only [Jo.z] at hK ⊢; go_simp; exact hK.out _ _ rfl (br _ _)
    refine Jo.jm rfl ?_ ?_
    · rintro wj hJ _ rfl K hK; simp only [Jo.z] at hK ⊢; go_simp; exact hK.out _ _ rfl (br _ _)
    refine Jo.jm rfl ?_ ?_
    · rintro wj hJ _ rfl _ rfl K hK; simp only [Jo.z] at hK ⊢; go_simp; exact hK.out _ _ rfl (br _ _)
    refine Jo.jm rfl ?_ ?_
    · rintro wj hJ _ rfl _ rfl K hK; simp only [Jo.z] at hK ⊢; have xX11 := (X1.below hJ).a 1 (.int .i64 1) rfl; go_simp; exact hK.out _ _ rfl (br _ _)
    refine Jo.jm rfl ?_ ?_
    · rintro wj hJ _ rfl _ rfl K hK; simp only [Jo.z] at hK ⊢; go_simp; exact hK.out _ _ rfl (br _ _)
    refine Jo.jm rfl ?_ ?_
    · rintro wj hJ _ rfl _ rfl K hK; simp only [Jo.z] at hK ⊢; go_simp; exact hK.out _ _ rfl (br _ _)
    refine Jo.jm rfl ?_ ?_
    · rintro wj hJ _ rfl K hK; simp only [Jo.z] at hK ⊢; go_simp; exact hK.out _ _ rfl (br _ _)
    refine Jo.jm rfl ?_ ?_
    · rintro wj hJ _ rfl K hK; simp only [Jo.z] at hK ⊢; go_simp; exact hK.out _ _ rfl (br _ _)
    refine Jo.jm rfl ?_ ?_
    · rintro wj hJ _ rfl _ rfl K hK; simp only [Jo.z] at hK ⊢; obtain ⟨xX25, xX26, xX27, xX28⟩ := (X2.below hJ).v9; go_simp; exact hK.out _ _ rfl (br _ _)
    refine Jo.jm rfl ?_ ?_
    · rintro wj hJ _ rfl K hK; simp only [Jo.z] at hK ⊢; go_simp; refine (nInfE false).mono ?_; rintro ee wk ⟨rfl, B⟩; exact hK.out _ _ rfl B
    refine Jo.jm rfl ?_ ?_
    · rintro wj hJ _ rfl _ rfl _ rfl K hK; simp only [Jo.z] at hK ⊢; go_simp
      exact hK.out _ _ (by first | rfl | (show Value.bool _ = Value.bool _; simp)) (br _ _)
    refine Jo.jm rfl ?_ ?_
    · rintro wj hJ _ rfl _ rfl K hK; simp only [Jo.z] at hK ⊢; go_simp; exact hK.out _ _ rfl (br _ _)
    refine Jo.jm rfl ?_ ?_
    · rintro wj hJ _ rfl K hK; simp only [Jo.z] at hK ⊢; go_simp; exact hK.out _ _ rfl (br _ _)
    refine Jo.jm rfl ?_ ?_
    · rintro wj hJ _ rfl K hK; simp only [Jo.z] at hK ⊢; go_simp; exact hK.out _ _ rfl (br _ _)
    refine Jo.jm rfl ?_ ?_
    · rintro wj hJ _ rfl _ rfl K hK; simp only [Jo.z] at hK ⊢; obtain ⟨xX21, xX22, xX23, xX24⟩ := (X2.below hJ).w9; go_simp; exact hK.out _ _ rfl (br _ _)
    refine Jo.jm rfl ?_ ?_
    · rintro wj hJ _ rfl K hK; simp only [Jo.z] at hK ⊢; go_simp; refine (nOf _ (by decide) (by decide) Hi0.out).mono ?_; rintro ee wk ⟨K8, s8, M8, E8, rfl, q8, B⟩; exact hK.out _ _ ⟨K8, s8, M8, E8, rfl, q8⟩ B
    refine Jo.jm rfl ?_ ?_
    · rintro wj hJ _ rfl _ rfl _ ⟨K8, s8, M8, E8, rfl, q8⟩ K hK; simp only [Jo.z] at hK ⊢; go_simp; refine (nCmp (z := 1) a6.top q8.top (by rw [a6.rk, q8.rk]; exact HU.out)).mono ?_; rintro ee wk ⟨rfl, B⟩; exact hK.out _ _ rfl B
    refine Jo.jm rfl ?_ ?_
    · rintro wj hJ _ rfl _ rfl K hK; simp only [Jo.z] at hK ⊢
      skip
      go_simp
      exact hK.out _ _ (by first | rfl | (show Value.bool _ = Value.bool _; simp only [ht])) (br _ _)
    refine Jo.jm rfl ?_ ?_
    · rintro wj hJ _ rfl _ rfl K hK; simp only [Jo.z] at hK ⊢; go_simp; exact hK.out _ _ rfl (br _ _)
    refine Jo.jm rfl ?_ ?_
    · rintro wj hJ _ rfl K hK; simp only [Jo.z] at hK ⊢; go_simp; exact hK.out _ _ rfl (br _ _)
    refine Jo.jm rfl ?_ ?_
    · rintro wj hJ _ rfl K hK; simp only [Jo.z] at hK ⊢; go_simp; refine (kvOf (by decide) (by decide) (by decide) (by decide) Hk1.out Hi2.out Mx1.out).mono ?_; rintro ee wk ⟨e9, K9, s9, M9, E9, K9b, s9b, M9b, E9b, rfl, v9, B⟩; exact hK.out _ _ ⟨e9, K9, s9, M9, E9, K9b, s9b, M9b, E9b, rfl, v9⟩ B
    refine Jo.jm rfl ?_ ?_
    · rintro wj hJ _ rfl _ ⟨e9, K9, s9, M9, E9, K9b, s9b, M9b, E9b, rfl, v9⟩ K hK; simp only [Jo.z] at hK ⊢; go_simp; refine (fkSqr v9.top.1 v9.top.2 v9.rk HSQ.out).mono ?_; rintro ee wk ⟨e10, K10, s10, M10, E10, K10b, s10b, M10b, E10b, rfl, v10, B⟩; exact hK.out _ _ ⟨e10, K10, s10, M10, E10, K10b, s10b, M10b, E10b, rfl, v10⟩ B
    refine Jo.jm rfl ?_ ?_
    · rintro wj hJ _ rfl K hK; simp only [Jo.z] at hK ⊢; go_simp; refine (kvOf (by decide) (by decide) (by decide) (by decide) Hi0.out Hi4.out Mx5.out).mono ?_; rintro ee wk ⟨e11, K11, s11, M11, E11, K11b, s11b, M11b, E11b, rfl, v11, B⟩; exact hK.out _ _ ⟨e11, K11, s11, M11, E11, K11b, s11b, M11b, E11b, rfl, v11⟩ B
    refine Jo.jm rfl ?_ ?_
    · rintro wj hJ _ rfl _ ⟨e10, K10, s10, M10, E10, K10b, s10b, M10b, E10b, rfl, v10⟩ _ ⟨e11, K11, s11, M11, E11, K11b, s11b, M11b, E11b, rfl, v11⟩ K hK; simp only [Jo.z] at hK ⊢; obtain ⟨rfl, rfl, rfl, rfl, rfl, rfl, rfl, rfl, rfl⟩ := v10.uniq v11; go_simp
      exact hK.out _ _ (by first | rfl | (show Value.bool _ = Value.bool _; simp)) (br _ _)
    refine Jo.jm rfl ?_ ?_
    · rintro wj hJ _ rfl _ rfl K hK; simp only [Jo.z] at hK ⊢; go_simp; exact hK.out _ _ rfl (br _ _)
    refine Jo.jm rfl ?_ ?_
    · rintro wj hJ _ rfl K hK; simp only [Jo.z] at hK ⊢; go_simp; exact hK.out _ _ rfl (br _ _)
    exact Jo.Steps.nil
  rintro w9 hJ _ rfl _ ⟨e7, K7, s7, M7, E7, K7b, s7b, M7b, E7b, rfl, v7⟩ _ rfl _ rfl _ _ _ rfl _ rfl _ rfl _ rfl _ _ _ _ _ rfl _ rfl _ rfl _ rfl _ _ _ rfl _ rfl _ rfl _ rfl _ rfl _ _ _ rfl _ ⟨K8, s8, M8, E8, rfl, _⟩ _ rfl _ rfl _ rfl _ rfl _ ⟨e9, K9, s9, M9, E9, K9b, s9b, M9b, E9b, rfl, v9⟩ _ ⟨e10, K10, s10, M10, E10, K10b, s10b, M10b, E10b, rfl, v10⟩ _ ⟨e11, K11, s11, M11, E11, K11b, s11b, M11b, E11b, rfl, v11⟩ _ rfl _ rfl _ rfl -
  simp only [Jo.z]; replace X1 := X1.below hJ; replace X2 := X2.below hJ; replace hT := hT.below hJ; replace HB := Lib.hid (bt HB.out hJ); refine Jo.jdone (by kernel_rfl) ?_; go_wp2
  go_ret
  exact ⟨rfl, HB.out⟩
end Go.Proofs.YteejbcimmmcnlaaGreatDoor
