/-
  Contracts and words that the statement's proof rests on, several texts in one: Fb, Fh, Fs.
-/
import Derived.Below
import Derived.BigQuiet
import Derived.Carry
import Derived.Deep.DeepCutAuto
import Derived.Deep.Draws
import Derived.Deep.MidRow
import Derived.Deep.QuietTactic
import Derived.Deep.RegionHeld3
import Derived.Deep.RegionWith
import Derived.IntWalk
import Derived.Laws.Bits64b
import Derived.Laws.CopyOwn
import Derived.Laws.Externs
import Derived.Laws.MakeOwn
import Derived.Laws.OwnMore
import Derived.Laws.Rows
import Derived.Lib.BitFns
import Derived.Lib.Hide
import Derived.Lib.Mul64
import Derived.Lib.TrailingZeros
import Derived.Maps.AppendAt
import Derived.StillTailTactics
import Derived.Test.YteejbcimmmcnlaaGreatDoorRows
import Derived.WalkKit
import Derived.WalkLawsBesides
import Derived.WalkSpells
import Derived.Test.YteejbcimmmcnlaaGreatDoorYBag
import Derived.Test.YteejbcimmmcnlaaGreatDoorYBah
import Derived.Test.YteejbcimmmcnlaaGreatDoorYBai
import Derived.Test.YteejbcimmmcnlaaGreatDoorYBaj
import Derived.Test.YteejbcimmmcnlaaGreatDoorYBam
import Derived.Test.YteejbcimmmcnlaaGreatDoorYBaq
import Derived.Test.YteejbcimmmcnlaaGreatDoorYBbb
import Derived.Test.YteejbcimmmcnlaaGreatDoorYBbh
import Derived.Test.YteejbcimmmcnlaaGreatDoorYBbk
/-
  What quotients make of all numbers of intervals, by the places of their ends. Plain arithmetic; no Go text.
-/
namespace Go.Proofs.YteejbcimmmcnlaaGreatDoor
open Go.RowKit
set_option linter.unusedVariables false

/-- The quotients' places as a function. -/
def QF (q : Bool → Int → Int → Int) : Prop := ∀ up x y, Qt up x y (q up x y)
theorem qf_ex : ∃ q, QF q := by
  have h : ∀ p : Bool × Int × Int, ∃ r, Qt p.1 p.2.1 p.2.2 r := fun p => qt_ex p.1 p.2.1 p.2.2
  exact ⟨fun up x y => Classical.choose (h (up, x, y)), fun up x y => Classical.choose_spec (h (up, x, y))⟩
theorem QF.in {q : Bool → Int → Int → Int} (hq : QF q) (up : Bool) (x y : Int) : In (q up x y) := (hq up x y).bd
/-- The quotient by one above nought, as a bound. -/
theorem qt_sid {up : Bool} {x y r : Int} (h : Qt up x y r) (hy : 0 < y) (hx : infp x = false) (hi : infp y = false) : Sid up (vr x * 2 ^ KK) (vr y) r := by
  by_cases h0 : x = 0
  · have : r = 0 := (qt_zero (by omega) (.inl h0)).1 h
    subst this; subst h0; refine sid_exact (vr_pos hy) (by decide) (by decide) ?_
    rw [show vr 0 = 0 from rfl, Int.zero_mul, Int.zero_mul]
  · have := (qt_fin (by omega) (by simp [h0, hi]) hx).1 h
    rw [decide_eq_false (show ¬ y < 0 by omega), wsg_f, wsg_f] at this
    exact this
theorem qt_top {up : Bool} {x y r : Int} (h : Qt up x y r) (hy : 0 < y) (hi : infp y = false) (hx : infp x = true) : r = x := by
  have htp := TP_eq; have h2 := infp_true hx
  have := (qt_inf (by omega) (fun e => e.elim (fun e => by omega) (fun e => by rw [hi] at e; cases e)) hx).1 h
  rw [this, decide_eq_false (show ¬ y < 0 by omega)]
  rcases h2 with rfl | rfl
  · rw [decide_eq_false (by decide), show (false != false) = false from rfl, wsg_f, htp]
  · rw [decide_eq_true (by decide), show (true != false) = true from rfl, wsg_t, htp]
/-- The greater the dividend, the greater the quotient by one above nought. -/
theorem qt_x {up : Bool} {x x2 y r r2 : Int} (hx : In x) (hx2 : In x2) (hy : 0 < y) (hyi : y ≤ 19342822337206103650074625) (h : x ≤ x2) (a : Qt up x y r) (b : Qt up x2 y r2) : r ≤ r2 := by
  have hab := a.bd; have hbb := b.bd
  cases hi : infp y
  · cases h1 : infp x
    · cases h2 : infp x2
      · refine (qt_sid a hy h1 hi).mono (vr_pos hy) (vr_pos hy) (qt_sid b hy h2 hi) ?_; exact Int.mul_le_mul_of_nonneg_right (Int.mul_le_mul_of_nonneg_right (vr_le h) (Int.le_of_lt (p2pos KK))) (vr_nn (Int.le_of_lt hy))
      · have := qt_top b hy hi h2
        rcases infp_true h2 with e | e
        · omega
        · have := infp_false hx.1 hx.2 h1
          omega
    · have := qt_top a hy hi h1
      rcases infp_true h1 with e | e
      · have e2 : x2 = x := by have := hx2.2; omega
        subst e2
        have := qt_top b hy hi h1
        omega
      · omega
  · have e1 := (qt_zero (by omega) (.inr hi)).1 a; have e2 := (qt_zero (by omega) (.inr hi)).1 b
    omega
theorem qt_nn {up : Bool} {x y r : Int} (hx : In x) (h0 : 0 ≤ x) (hy : 0 < y) (hyi : y ≤ 19342822337206103650074625) (h : Qt up x y r) : 0 ≤ r :=
  qt_x (x := 0) ⟨by decide, by decide⟩ hx hy hyi h0 ((qt_zero (by omega) (.inl rfl)).2 rfl) h
/-- The greater the divisor above nought, the less the quotient of what is not below nought. -/
theorem qt_y {up : Bool} {x y y2 r r2 : Int} (hx : In x) (h0 : 0 ≤ x) (hy : 0 < y) (h : y ≤ y2) (hyi : y2 ≤ 19342822337206103650074625) (a : Qt up x y r) (b : Qt up x y2 r2) : r2 ≤ r := by
  have hbb := b.bd
  cases hi : infp y2
  · obtain ⟨_, k2⟩ := infp_false (by omega) hyi hi
    have hi1 : infp y = false := infp_fin (by omega) (by omega)
    cases h1 : infp x
    · refine (qt_sid b (by omega) h1 hi).mono (vr_pos (by omega)) (vr_pos hy) (qt_sid a hy h1 hi1) ?_; exact Int.mul_le_mul_of_nonneg_left (vr_le h) (Int.mul_nonneg (vr_nn h0) (Int.le_of_lt (p2pos KK)))
    · have := qt_top a hy hi1 h1
      rcases infp_true h1 with e | e
      · omega
      · omega
  · have e2 := (qt_zero (by omega) (.inr hi)).1 b
    have := qt_nn hx h0 hy (by omega) a
    omega
theorem In.neg {x : Int} (h : In x) : In (-x) := ⟨by have := h.2; omega, by have := h.1; omega⟩
theorem qt_y' {up : Bool} {x y y2 r r2 : Int} (hx : In x) (h0 : x ≤ 0) (hy : 0 < y) (h : y ≤ y2) (hyi : y2 ≤ 19342822337206103650074625) (a : Qt up x y r) (b : Qt up x y2 r2) : r ≤ r2 := by
  have := qt_y hx.neg (by omega) hy h hyi (qt_neg (by omega) a) (qt_neg (by omega) b)
  omega
theorem qt_flip {up : Bool} {x y r : Int} (hy : y ≠ 0) (h : Qt up x y r) : Qt up (-x) (-y) r := qt_negs hy h
/-- Whatever the sign of the divisor. -/
theorem q_mn {q : Bool → Int → Int → Int} (hq : QF q) (up : Bool) {z a b : Int} (hz : In z) (h0 : z ≠ 0) (ha : In a) (hb : In b) : Mono (fun x => q up x z) a b := by
  rcases Int.lt_or_le z 0 with k | k
  · refine .inr fun x y h1 h2 h3 => ?_
    have X : In x := ⟨by have := ha.1; omega, by have := hb.2; omega⟩
    have Y : In y := ⟨by have := ha.1; omega, by have := hb.2; omega⟩
    exact qt_x Y.neg X.neg (by omega) hz.neg.2 (by omega) (qt_flip h0 (hq up y z)) (qt_flip h0 (hq up x z))
  · refine .inl fun x y h1 h2 h3 => ?_
    have X : In x := ⟨by have := ha.1; omega, by have := hb.2; omega⟩
    have Y : In y := ⟨by have := ha.1; omega, by have := hb.2; omega⟩
    exact qt_x X Y (by omega) hz.2 h2 (hq up x z) (hq up y z)
theorem q_mn2 {q : Bool → Int → Int → Int} (hq : QF q) (up : Bool) {z a b : Int} (hz : In z) (ha : In a) (hb : In b) (h0 : ¬ (a ≤ 0 ∧ 0 ≤ b)) : Mono (fun y => q up z y) a b := by
  have h1 := ha.1; have h2 := hb.2
  by_cases hab : a ≤ b
  case neg => exact .inl fun x y k1 k2 k3 => by omega
  rcases Int.lt_or_le b 0 with k | k
  · rcases Int.lt_or_le z 0 with s | s
    · exact .inl fun x y k1 k2 k3 => qt_y hz.neg (by omega) (by omega) (by omega) (by omega) (qt_flip (by omega) (hq up z y)) (qt_flip (by omega) (hq up z x))
    · exact .inr fun x y k1 k2 k3 => qt_y' hz.neg (by omega) (by omega) (by omega) (by omega) (qt_flip (by omega) (hq up z y)) (qt_flip (by omega) (hq up z x))
  · rcases Int.lt_or_le z 0 with s | s
    · exact .inl fun x y k1 k2 k3 => qt_y' hz (by omega) (by omega) (by omega) (by omega) (hq up z x) (hq up z y)
    · exact .inr fun x y k1 k2 k3 => qt_y hz (by omega) (by omega) (by omega) (by omega) (hq up z x) (hq up z y)

def divI (q : Bool → Int → Int → Int) (x y : Sp) : Sp := match x, y with
  | some (a, b), some (c, d) =>
    if c = 0 ∧ d = 0 then none
    else if ¬ (c ≤ 0 ∧ 0 ≤ d) then cor q a b c d
    else if (a ≤ 0 ∧ 0 ≤ b) ∨ (c < 0 ∧ 0 < d) then allI
    else if (0 < (if a < 0 then b else a)) ↔ (0 < (if d = 0 then c else d)) then mkI (q false (if a < 0 then b else a) (if d = 0 then c else d)) 19342822337206103650074625
    else mkI (-19342822337206103650074625) (q true (if a < 0 then b else a) (if d = 0 then c else d))
  | _, _ => none
section
variable {q : Bool → Int → Int → Int}
theorem dvI_zero {a b c d : Int} (h : c = 0 ∧ d = 0) : divI q (some (a, b)) (some (c, d)) = none := if_pos h
theorem dvI_cor {a b c d : Int} (h : ¬ (c ≤ 0 ∧ 0 ≤ d)) : divI q (some (a, b)) (some (c, d)) = cor q a b c d := by
  show (if _ then _ else _) = _
  rw [if_neg (by omega), if_pos h]
theorem dvI_all {a b c d : Int} (h0 : ¬ (c = 0 ∧ d = 0)) (h : c ≤ 0 ∧ 0 ≤ d) (k : (a ≤ 0 ∧ 0 ≤ b) ∨ (c < 0 ∧ 0 < d)) : divI q (some (a, b)) (some (c, d)) = allI := by
  show (if _ then _ else _) = _
  rw [if_neg h0, if_neg (fun e => e h), if_pos k]
/-- On an edge: the divisor's numbers are above nought. -/
theorem dvI_up {a b d : Int} (hd : 0 < d) (hab : a ≤ b) : (0 < a → divI q (some (a, b)) (some (0, d)) = mkI (q false a d) 19342822337206103650074625) ∧ (b < 0 → divI q (some (a, b)) (some (0, d)) = mkI (-19342822337206103650074625) (q true b d)) := by
  constructor
  · intro h
    show (if _ then _ else _) = _
    rw [if_neg (by omega), if_neg (by omega), if_neg (by omega), if_neg (show ¬ a < 0 by omega), if_neg (show ¬ d = 0 by omega), if_pos ⟨fun _ => hd, fun _ => h⟩]
  · intro h
    show (if _ then _ else _) = _
    rw [if_neg (by omega), if_neg (by omega), if_neg (by omega), if_pos (show a < 0 by omega), if_neg (show ¬ d = 0 by omega), if_neg (fun e => by have := e.2 hd; omega)]
theorem dvI_dn {a b c : Int} (hc : c < 0) (hab : a ≤ b) : (0 < a → divI q (some (a, b)) (some (c, 0)) = mkI (-19342822337206103650074625) (q true a c)) ∧ (b < 0 → divI q (some (a, b)) (some (c, 0)) = mkI (q false b c) 19342822337206103650074625) := by
  constructor
  · intro h
    show (if _ then _ else _) = _
    rw [if_neg (by omega), if_neg (by omega), if_neg (by omega), if_neg (show ¬ a < 0 by omega), if_pos (rfl : (0 : Int) = 0), if_neg (fun e => by have := e.1 h; omega)]
  · intro h
    show (if _ then _ else _) = _
    rw [if_neg (by omega), if_neg (by omega), if_neg (by omega), if_pos (show a < 0 by omega), if_pos (rfl : (0 : Int) = 0), if_pos ⟨fun e => by omega, fun e => by omega⟩]
/-- What there may be: which of the ways. -/
theorem dvI_way {a b c d : Int} (hab : a ≤ b) (hcd : c ≤ d) : (c = 0 ∧ d = 0) ∨ ¬ (c ≤ 0 ∧ 0 ≤ d) ∨ (¬ (c = 0 ∧ d = 0) ∧ (c ≤ 0 ∧ 0 ≤ d) ∧ ((a ≤ 0 ∧ 0 ≤ b) ∨ (c < 0 ∧ 0 < d))) ∨ (c = 0 ∧ 0 < d ∧ 0 < a) ∨ (c = 0 ∧ 0 < d ∧ b < 0) ∨ (c < 0 ∧ d = 0 ∧ 0 < a) ∨ (c < 0 ∧ d = 0 ∧ b < 0) := by omega
theorem top_in : In 19342822337206103650074625 := ⟨by decide, by decide⟩
theorem bot_in : In (-19342822337206103650074625) := ⟨by decide, by decide⟩
theorem dvI_ok (hq : QF q) {x y : Sp} (hx : SpOk x) (hy : SpOk y) : SpOk (divI q x y) := by
  rcases x with _ | ⟨a, b⟩
  · exact trivial
  rcases y with _ | ⟨c, d⟩
  · exact trivial
  have hab := hx.2.1; have hcd := hy.2.1
  rcases dvI_way hab hcd with h | h | ⟨h0, h1, h2⟩ | ⟨rfl, h1, h2⟩ | ⟨rfl, h1, h2⟩ | ⟨h1, rfl, h2⟩ | ⟨h1, rfl, h2⟩
  · rw [dvI_zero h]; exact trivial
  · rw [dvI_cor h]; exact cor_ok (f := q) hq.in a b c d
  · rw [dvI_all h0 h1 h2]; exact all_ok
  · rw [(dvI_up h1 hab).1 h2]; exact mkI_in (hq.in _ _ _) top_in
  · rw [(dvI_up h1 hab).2 h2]; exact mkI_in bot_in (hq.in _ _ _)
  · rw [(dvI_dn h1 hab).1 h2]; exact mkI_in bot_in (hq.in _ _ _)
  · rw [(dvI_dn h1 hab).2 h2]; exact mkI_in (hq.in _ _ _) top_in
/-- Farther from nought, by what is nearer to it: the quotient is greater. -/
theorem q_far (hq : QF q) (up : Bool) {n p e r : Int} (hn : 0 < n) (hp : n ≤ p) (hr : 0 < r) (he : r ≤ e) (p2 : In p) (e2 : In e) : q up n e ≤ q up p r := by
  have N : In n := ⟨by omega, by have := p2.2; omega⟩
  have := qt_x N p2 (by omega) e2.2 hp (hq up n e) (hq up p e)
  have := qt_y p2 (by omega) hr he e2.2 (hq up p r) (hq up p e)
  omega
theorem q_side (hq : QF q) (x y : Int) (hy : y ≠ 0) : q false x y ≤ q true x y := by
  have A := hq false x y; have B := hq true x y
  by_cases h : x = 0 ∨ infp y = true
  · have e1 := (qt_zero hy h).1 A; have e2 := (qt_zero hy h).1 B
    omega
  · cases hx : infp x
    · have a := (qt_fin hy h hx).1 A; have b := (qt_fin hy h hx).1 B
      rcases sid_two (sg_vr_pos hy) a b with h | h <;> omega
    · have e1 := (qt_inf hy h hx).1 A; have e2 := (qt_inf hy h hx).1 B
      omega
theorem q_flip (hq : QF q) (up : Bool) (x y : Int) (hy : y ≠ 0) : q up (-x) (-y) = q up x y := (qt_negs hy (hq up x y)).uniq (hq up (-x) (-y)) |>.symm
theorem q_neg (hq : QF q) (up : Bool) (x y : Int) (hy : y ≠ 0) : q (!up) (-x) y = -q up x y := ((qt_neg hy (hq up x y)).uniq (hq (!up) (-x) y)).symm
/-- All quotients are on one side of one. -/
theorem far_pp (hq : QF q) (up : Bool) {n p e r : Int} (hn : 0 < n) (hp : n ≤ p) (hr : 0 < r) (he : r ≤ e) (p2 : In p) (e2 : In e) : q false n e ≤ q up p r := by
  have := q_far hq false hn hp hr he p2 e2
  have := q_side hq p r (by omega)
  cases up <;> omega
theorem far_nn (hq : QF q) (up : Bool) {n p e r : Int} (hn : n < 0) (hp : p ≤ n) (hr : r < 0) (he : e ≤ r) (p2 : In p) (e2 : In e) : q false n e ≤ q up p r := by
  rw [← q_flip hq false n e (by omega), ← q_flip hq up p r (by omega)]; exact far_pp hq up (by omega) (by omega) (by omega) (by omega) p2.neg e2.neg
theorem far_np (hq : QF q) (up : Bool) {n p e r : Int} (hn : n < 0) (hp : p ≤ n) (hr : 0 < r) (he : r ≤ e) (p2 : In p) (e2 : In e) : q up p r ≤ q true n e := by
  have h := far_pp (n := -n) (p := -p) hq (!up) (by omega) (by omega) hr he p2.neg e2
  have e3 : q false (-n) e = -q true n e := q_neg hq true n e (by omega)
  have e4 := q_neg hq up p r (by omega)
  omega
theorem far_pn (hq : QF q) (up : Bool) {n p e r : Int} (hn : 0 < n) (hp : n ≤ p) (hr : r < 0) (he : e ≤ r) (p2 : In p) (e2 : In e) : q up p r ≤ q true n e := by
  rw [← q_flip hq true n e (by omega), ← q_flip hq up p r (by omega)]; exact far_np hq up (by omega) (by omega) (by omega) (by omega) p2.neg e2.neg
theorem dvI_wit (hq : QF q) {x y z t : Sp} (hx : SpOk x) (hy : SpOk y) (hz : SpOk z) (ht : SpOk t) (h : witI x z = true) (k : witI y t = true) : witI (divI q x y) (divI q z t) = true := by
  have hok := dvI_ok hq hx hy
  rcases x with _ | ⟨a, b⟩
  · rfl
  rcases y with _ | ⟨c, d⟩
  · rfl
  obtain ⟨a2, b2, rfl, h1, h2⟩ := wit_some h; obtain ⟨c2, d2, rfl, k1, k2⟩ := wit_some k; have hab := hx.2.1; have hcd := hy.2.1; have hab2 := hz.2.1; have hcd2 := ht.2.1; have A := hx.in1.1; have B := hx.in1.2; have C2 := ht.in1.1; have D2 := ht.in1.2
  rcases dvI_way hab2 hcd2 with e | e | ⟨e0, e1, e2⟩ | ⟨rfl, e1, e2⟩ | ⟨rfl, e1, e2⟩ | ⟨e1, rfl, e2⟩ | ⟨e1, rfl, e2⟩
  · rw [dvI_zero (show c = 0 ∧ d = 0 by omega)]
    rfl
  · rw [dvI_cor e, dvI_cor (show ¬ (c ≤ 0 ∧ 0 ≤ d) by omega)]
    exact cor_wit (fun up z z1 z2 => q_mn hq up ⟨by have := C2.1; omega, by have := D2.2; omega⟩ (by omega) hz.in1.1 hz.in1.2) (fun up z z1 z2 => q_mn2 hq up ⟨by have := hz.in1.1.1; omega, by have := hz.in1.2.2; omega⟩ C2 D2 e) hab hcd h1 h2 k1 k2
  · rw [dvI_all e0 e1 e2]; exact wit_all hok
  · rw [(dvI_up e1 hab2).1 e2]
    by_cases c0 : c = 0
    · subst c0
      by_cases d0 : d = 0
      · rw [dvI_zero ⟨rfl, d0⟩]
        rfl
      · rw [(dvI_up (by omega) hab).1 (by omega)]; exact wit_mk (far_pp hq false e2 h1 (by omega) k2 A D2) (Int.le_refl _)
    · rw [dvI_cor (by omega)]
      have p := fun (u v : Int) (i1 : a2 ≤ u) (i2 : In u) (i3 : 0 < v) (i4 : v ≤ d2) => far_pp hq false e2 i1 i3 i4 i2 D2
      have := p a c h1 A (by omega) (by omega)
      have := p a d h1 A (by omega) (by omega)
      have := p b c (by omega) B (by omega) (by omega)
      have := p b d (by omega) B (by omega) (by omega)
      have := (hq.in true a c).2
      have := (hq.in true a d).2
      have := (hq.in true b c).2
      have := (hq.in true b d).2
      exact wit_mk (by omega) (by omega)
  · rw [(dvI_up e1 hab2).2 e2]
    by_cases c0 : c = 0
    · subst c0
      by_cases d0 : d = 0
      · rw [dvI_zero ⟨rfl, d0⟩]
        rfl
      · rw [(dvI_up (by omega) hab).2 (by omega)]; exact wit_mk (Int.le_refl _) (far_np hq true e2 h2 (by omega) k2 B D2)
    · rw [dvI_cor (by omega)]
      have p := fun (u v : Int) (i1 : u ≤ b2) (i2 : In u) (i3 : 0 < v) (i4 : v ≤ d2) => far_np hq true e2 i1 i3 i4 i2 D2
      have := p a c (by omega) A (by omega) (by omega)
      have := p a d (by omega) A (by omega) (by omega)
      have := p b c h2 B (by omega) (by omega)
      have := p b d h2 B (by omega) (by omega)
      have := (hq.in false a c).1
      have := (hq.in false a d).1
      have := (hq.in false b c).1
      have := (hq.in false b d).1
      exact wit_mk (by omega) (by omega)
  · rw [(dvI_dn e1 hab2).1 e2]
    by_cases d0 : d = 0
    · subst d0
      by_cases c0 : c = 0
      · rw [dvI_zero ⟨c0, rfl⟩]
        rfl
      · rw [(dvI_dn (by omega) hab).1 (by omega)]; exact wit_mk (Int.le_refl _) (far_pn hq true e2 h1 (by omega) k1 A C2)
    · rw [dvI_cor (by omega)]
      have p := fun (u v : Int) (i1 : a2 ≤ u) (i2 : In u) (i3 : v < 0) (i4 : c2 ≤ v) => far_pn hq true e2 i1 i3 i4 i2 C2
      have := p a c h1 A (by omega) (by omega)
      have := p a d h1 A (by omega) (by omega)
      have := p b c (by omega) B (by omega) (by omega)
      have := p b d (by omega) B (by omega) (by omega)
      have := (hq.in false a c).1
      have := (hq.in false a d).1
      have := (hq.in false b c).1
      have := (hq.in false b d).1
      exact wit_mk (by omega) (by omega)
  · rw [(dvI_dn e1 hab2).2 e2]
    by_cases d0 : d = 0
    · subst d0
      by_cases c0 : c = 0
      · rw [dvI_zero ⟨c0, rfl⟩]
        rfl
      · rw [(dvI_dn (by omega) hab).2 (by omega)]; exact wit_mk (far_nn hq false e2 h2 (by omega) k1 B C2) (Int.le_refl _)
    · rw [dvI_cor (by omega)]
      have p := fun (u v : Int) (i1 : u ≤ b2) (i2 : In u) (i3 : v < 0) (i4 : c2 ≤ v) => far_nn hq false e2 i1 i3 i4 i2 C2
      have := p a c (by omega) A (by omega) (by omega)
      have := p a d (by omega) A (by omega) (by omega)
      have := p b c h2 B (by omega) (by omega)
      have := p b d h2 B (by omega) (by omega)
      have := (hq.in true a c).2
      have := (hq.in true a d).2
      have := (hq.in true b c).2
      have := (hq.in true b d).2
      exact wit_mk (by omega) (by omega)
end
end Go.Proofs.YteejbcimmmcnlaaGreatDoor

/-
  What the document's products of intervals, and quotients by one that has no nought, do.
-/
namespace Go.Proofs.YteejbcimmmcnlaaGreatDoor
open Go.RowKit
set_option linter.unusedVariables false
set_option linter.unusedSimpArgs false
set_option maxRecDepth 100000

theorem Nl.of4 {w : World} {g : Nat} {K1 K2 K3 K4 M1 M2 M3 M4 E1 E2 E3 E4 r1 r2 r3 r4 : Int} {s1 s2 s3 s4 : Bool} (X : Bo w g #[.int .i64 K1, .bool s1, .int .u64 M1, .int .i64 E1, .int .i64 K2, .bool s2, .int .u64 M2, .int .i64 E2, .int .i64 K3, .bool s3, .int .u64 M3, .int .i64 E3, .int .i64 K4, .bool s4, .int .u64 M4, .int .i64 E4] 24)
    (q1 : Fq K1 s1 M1 E1 r1) (q2 : Fq K2 s2 M2 E2 r2) (q3 : Fq K3 s3 M3 E3 r3) (q4 : Fq K4 s4 M4 E4 r4) : Nl w (some ⟨g, 0, none⟩) 4 4 [r1, r2, r3, r4] := by
  refine ⟨rfl, Nat.le_refl _, by decide, fun _ => ⟨_, 0, rfl, fun k hk => ?_⟩⟩
  rcases (by omega : k = 0 ∨ k = 1 ∨ k = 2 ∨ k = 3) with rfl | rfl | rfl | rfl
  · exact ⟨K1, s1, M1, E1, X.at rfl, X.at rfl, X.at rfl, X.at rfl, q1.top, q1.rk⟩
  · exact ⟨K2, s2, M2, E2, X.at rfl, X.at rfl, X.at rfl, X.at rfl, q2.top, q2.rk⟩
  · exact ⟨K3, s3, M3, E3, X.at rfl, X.at rfl, X.at rfl, X.at rfl, q3.top, q3.rk⟩
  · exact ⟨K4, s4, M4, E4, X.at rfl, X.at rfl, X.at rfl, X.at rfl, q4.top, q4.rk⟩
theorem mnp_four {a b c d : Int} (ha : a ≤ 19342822337206103650074625) : mnp [a, b, c, d] = min (min a b) (min c d) := by
  have := TP_eq
  show min (min (min (min TP a) b) c) d = _
  omega
theorem mxp_four {a b c d : Int} (ha : -19342822337206103650074625 ≤ a) : mxp [a, b, c, d] = max (max a b) (max c d) := by
  have := TP_eq
  show max (max (max (max (-TP) a) b) c) d = _
  omega
/-- What an operation makes of the ends, one behind the other. -/
def four (f : Bool → Int → Int → Int) (up : Bool) (a b c d : Int) : List Int := [f up a c, f up a d, f up b c, f up b d]
theorem four_cor {f : Bool → Int → Int → Int} {a b c d : Int} (h1 : f false a c ≤ 19342822337206103650074625) (h2 : -19342822337206103650074625 ≤ f true a c) : mkI (mnp (four f false a b c d)) (mxp (four f true a b c d)) = cor f a b c d := by
  unfold four cor
  rw [mnp_four h1, mxp_four h2]
end Go.Proofs.YteejbcimmmcnlaaGreatDoor

/-
  What an operation makes of the ends of two intervals; what ivop.Mul does.
-/
namespace Go.Proofs.YteejbcimmmcnlaaGreatDoor
open Go.RowKit
set_option linter.unusedVariables false
set_option linter.unusedSimpArgs false
set_option maxRecDepth 100000

def TabIf (b : Bool) (w : World) : Prop := b = true → Tab w
theorem TabIf.below {b : Bool} {w w' : World} (h : TabIf b w) (hb : Below w.heap.size w w') : TabIf b w' := fun e => (h e).below hb
/-- What is asked of an operation that is handed on: it makes F0 of two places. -/
def OpQ (fid : FuncId) (F0 : Bool → Int → Int → Int) (b : Bool) : Prop := (∀ (args : Array Value) (w : World), (callFunc fid args).run Tryz.prog w = .ok (.enter fid args) w) ∧ ∀ (w : World) (D : Int) (s : Bool) (M E D' : Int) (s' : Bool) (M' E' : Int) (up : Bool) (x y r : Int), TabIf b w → M < 18446744073709551616 → M' < 18446744073709551616 → rk D s M E = x → rk D' s' M' E' = y → F0 up x y = r → Calls Tryz.prog fid #[.agg #[.int .i64 D, .bool s, .int .u64 M, .int .i64 E], .agg #[.int .i64 D', .bool s', .int .u64 M', .int .i64 E'], .bool up] w (PN w r)
set_option maxHeartbeats 8000000 in
theorem fkFour {w : World} {fid : FuncId} {F0 : Bool → Int → Int → Int} {b up : Bool} {g1 g2 g3 : Nat} {K1 M1 E1 K1b M1b E1b K2 M2 E2 K2b M2b E2b : Int} {s1 s1b s2 s2b : Bool} {xa xb ya yb : Int} (hop : OpQ fid F0 b) (hI : TabIf b w) (X1 : Bo w g1 #[.func (.func fid) #[] #[]] 82) (X2 : Bo w g2 #[.bool false, .int .i64 K1, .bool s1, .int .u64 M1, .int .i64 E1, .int .i64 K1b, .bool s1b, .int .u64 M1b, .int .i64 E1b] 26) (X3 : Bo w g3 #[.bool false, .int .i64 K2, .bool s2, .int .u64 M2, .int .i64 E2, .int .i64 K2b, .bool s2b, .int .u64 M2b, .int .i64 E2b] 26)
    (a1 : Fq K1 s1 M1 E1 xa) (b1 : Fq K1b s1b M1b E1b xb) (a2 : Fq K2 s2 M2 E2 ya) (b2 : Fq K2b s2b M2b E2b yb) : Calls Tryz.prog 95 #[.bool up, .pointer (some ⟨g1, 0, none⟩), .pointer (some ⟨g2, 0, none⟩), .pointer (some ⟨g3, 0, none⟩)] w (fun e w' => ∃ A c, e = .returned (.slice A 4 c) ∧ Nl w' A 4 c (four F0 up xa xb ya yb) ∧ Below w.heap.size w w') := by
  obtain ⟨u1, h1⟩ : ∃ u, F0 up xa ya = u := ⟨_, rfl⟩; obtain ⟨u2, h2⟩ : ∃ u, F0 up xa yb = u := ⟨_, rfl⟩; obtain ⟨u3, h3⟩ : ∃ u, F0 up xb ya = u := ⟨_, rfl⟩; obtain ⟨u4, h4⟩ : ∃ u, F0 up xb yb = u := ⟨_, rfl⟩
  have HF : Hid (four F0 up xa xb ya yb = [u1, u2, u3, u4]) := Lib.hid (by unfold four; rw [h1, h2, h3, h4])
  have H1 := Lib.hid h1; have H2 := Lib.hid h2; have H3 := Lib.hid h3; have H4 := Lib.hid h4; have HOP := Lib.hid hop; have HB := Lib.hid (Below.refl w.heap.size w); clear h1 h2 h3 h4 hop
  go_enter Tryz.func95, Tryz.ntmps95
  go_upto_region 1 with (fail)
  refine Jo.rk [0, 1, 2, 3, 4, 5, 6, 7, 8, 9, 10, 11, 12, 13, 14, 15, 16, 17, 18, 19, 20, 21, 22, 23, 24, 25, 26, 27, 28] [some 6, some 7, some 8, some 9, some 10, some 11, some 12, some 13, some 14, some 15, some 16, some 17, some 18, some 19, some 20, some 21, some 22, some 23, some 24, some 25, some 26, some 27, some 28, some 29, some 30, some 31, some 32, some 33, some 34, some 5] [[], [], [1], [], [3], [], [0, 2, 4, 5], [], [], [8], [], [10], [], [7, 9, 11, 12], [], [], [15], [], [17], [], [14, 16, 18, 19], [], [], [22], [], [24], [], [21, 23, 25, 26], [6, 13, 20, 27], []] 30 1 [Jo.Fact.eq (.func (.func fid) #[] #[]), Jo.qp g2 1, Jo.q4 K1 s1 M1 E1, Jo.qp g3 1, Jo.q4 K2 s2 M2 E2, Jo.qb up, Jo.Fact.num u1, Jo.Fact.eq (.func (.func fid) #[] #[]), Jo.qp g2 1, Jo.q4 K1 s1 M1 E1, Jo.qp g3 5, Jo.q4 K2b s2b M2b E2b, Jo.qb up, Jo.Fact.num u2, Jo.Fact.eq (.func (.func fid) #[] #[]), Jo.qp g2 5, Jo.q4 K1b s1b M1b E1b, Jo.qp g3 1, Jo.q4 K2 s2 M2 E2, Jo.qb up, Jo.Fact.num u3, Jo.Fact.eq (.func (.func fid) #[] #[]), Jo.qp g2 5, Jo.q4 K1b s1b M1b E1b, Jo.qp g3 5, Jo.q4 K2b s2b M2b E2b, Jo.qb up, Jo.Fact.num u4, Jo.Fact.nl 4 [u1, u2, u3, u4], Jo.Fact.any] (by kernel_rfl) (by kernel_rfl) (by decide) rfl ?_ ?_
  · refine Jo.jm rfl ?_ ?_
    · rintro wj hJ K hK; simp only [Jo.z] at hK ⊢; have xX10 := (X1.below hJ).a 0 (.func (.func fid) #[] #[]) rfl; go_simp; exact hK.out _ _ rfl (br _ _)
    refine Jo.jm rfl ?_ ?_
    · rintro wj hJ K hK; simp only [Jo.z] at hK ⊢; go_simp; exact hK.out _ _ rfl (br _ _)
    refine Jo.jm rfl ?_ ?_
    · rintro wj hJ _ rfl K hK; simp only [Jo.z] at hK ⊢; obtain ⟨xX21, xX22, xX23, xX24⟩ := (X2.below hJ).w9; go_simp; exact hK.out _ _ rfl (br _ _)
    refine Jo.jm rfl ?_ ?_
    · rintro wj hJ K hK; simp only [Jo.z] at hK ⊢; go_simp; exact hK.out _ _ rfl (br _ _)
    refine Jo.jm rfl ?_ ?_
    · rintro wj hJ _ rfl K hK; simp only [Jo.z] at hK ⊢; obtain ⟨xX31, xX32, xX33, xX34⟩ := (X3.below hJ).w9; go_simp; exact hK.out _ _ rfl (br _ _)
    refine Jo.jm rfl ?_ ?_
    · rintro wj hJ K hK; simp only [Jo.z] at hK ⊢; go_simp; exact hK.out _ _ rfl (br _ _)
    refine Jo.jm rfl ?_ ?_
    · rintro wj hJ _ rfl _ rfl _ rfl _ rfl K hK; simp only [Jo.z] at hK ⊢; go_simp; rw [HOP.out.1]; simp only [Oper.upon]; refine (HOP.out.2 _ _ _ _ _ _ _ _ _ _ _ _ _ (hI.below hJ) a1.top a2.top a1.rk a2.rk H1.out).mono ?_; rintro ee wk ⟨K21, s21, M21, E21, rfl, q21, B⟩; exact hK.out _ _ ⟨K21, s21, M21, E21, rfl, q21⟩ B
    refine Jo.jm rfl ?_ ?_
    · rintro wj hJ K hK; simp only [Jo.z] at hK ⊢; have xX10 := (X1.below hJ).a 0 (.func (.func fid) #[] #[]) rfl; go_simp; exact hK.out _ _ rfl (br _ _)
    refine Jo.jm rfl ?_ ?_
    · rintro wj hJ K hK; simp only [Jo.z] at hK ⊢; go_simp; exact hK.out _ _ rfl (br _ _)
    refine Jo.jm rfl ?_ ?_
    · rintro wj hJ _ rfl K hK; simp only [Jo.z] at hK ⊢; obtain ⟨xX21, xX22, xX23, xX24⟩ := (X2.below hJ).w9; go_simp; exact hK.out _ _ rfl (br _ _)
    refine Jo.jm rfl ?_ ?_
    · rintro wj hJ K hK; simp only [Jo.z] at hK ⊢; go_simp; exact hK.out _ _ rfl (br _ _)
    refine Jo.jm rfl ?_ ?_
    · rintro wj hJ _ rfl K hK; simp only [Jo.z] at hK ⊢; obtain ⟨xX35, xX36, xX37, xX38⟩ := (X3.below hJ).v9; go_simp; exact hK.out _ _ rfl (br _ _)
    refine Jo.jm rfl ?_ ?_
    · rintro wj hJ K hK; simp only [Jo.z] at hK ⊢; go_simp; exact hK.out _ _ rfl (br _ _)
    refine Jo.jm rfl ?_ ?_
    · rintro wj hJ _ rfl _ rfl _ rfl _ rfl K hK; simp only [Jo.z] at hK ⊢; go_simp; rw [HOP.out.1]; simp only [Oper.upon]; refine (HOP.out.2 _ _ _ _ _ _ _ _ _ _ _ _ _ (hI.below hJ) a1.top b2.top a1.rk b2.rk H2.out).mono ?_; rintro ee wk ⟨K22, s22, M22, E22, rfl, q22, B⟩; exact hK.out _ _ ⟨K22, s22, M22, E22, rfl, q22⟩ B
    refine Jo.jm rfl ?_ ?_
    · rintro wj hJ K hK; simp only [Jo.z] at hK ⊢; have xX10 := (X1.below hJ).a 0 (.func (.func fid) #[] #[]) rfl; go_simp; exact hK.out _ _ rfl (br _ _)
    refine Jo.jm rfl ?_ ?_
    · rintro wj hJ K hK; simp only [Jo.z] at hK ⊢; go_simp; exact hK.out _ _ rfl (br _ _)
    refine Jo.jm rfl ?_ ?_
    · rintro wj hJ _ rfl K hK; simp only [Jo.z] at hK ⊢; obtain ⟨xX25, xX26, xX27, xX28⟩ := (X2.below hJ).v9; go_simp; exact hK.out _ _ rfl (br _ _)
    refine Jo.jm rfl ?_ ?_
    · rintro wj hJ K hK; simp only [Jo.z] at hK ⊢; go_simp; exact hK.out _ _ rfl (br _ _)
    refine Jo.jm rfl ?_ ?_
    · rintro wj hJ _ rfl K hK; simp only [Jo.z] at hK ⊢; obtain ⟨xX31, xX32, xX33, xX34⟩ := (X3.below hJ).w9; go_simp; exact hK.out _ _ rfl (br _ _)
    refine Jo.jm rfl ?_ ?_
    · rintro wj hJ K hK; simp only [Jo.z] at hK ⊢; go_simp; exact hK.out _ _ rfl (br _ _)
    refine Jo.jm rfl ?_ ?_
    · rintro wj hJ _ rfl _ rfl _ rfl _ rfl K hK; simp only [Jo.z] at hK ⊢; go_simp; rw [HOP.out.1]; simp only [Oper.upon]; refine (HOP.out.2 _ _ _ _ _ _ _ _ _ _ _ _ _ (hI.below hJ) b1.top a2.top b1.rk a2.rk H3.out).mono ?_; rintro ee wk ⟨K23, s23, M23, E23, rfl, q23, B⟩; exact hK.out _ _ ⟨K23, s23, M23, E23, rfl, q23⟩ B
    refine Jo.jm rfl ?_ ?_
    · rintro wj hJ K hK; simp only [Jo.z] at hK ⊢; have xX10 := (X1.below hJ).a 0 (.func (.func fid) #[] #[]) rfl; go_simp; exact hK.out _ _ rfl (br _ _)
    refine Jo.jm rfl ?_ ?_
    · rintro wj hJ K hK; simp only [Jo.z] at hK ⊢; go_simp; exact hK.out _ _ rfl (br _ _)
    refine Jo.jm rfl ?_ ?_
    · rintro wj hJ _ rfl K hK; simp only [Jo.z] at hK ⊢; obtain ⟨xX25, xX26, xX27, xX28⟩ := (X2.below hJ).v9; go_simp; exact hK.out _ _ rfl (br _ _)
    refine Jo.jm rfl ?_ ?_
    · rintro wj hJ K hK; simp only [Jo.z] at hK ⊢; go_simp; exact hK.out _ _ rfl (br _ _)
    refine Jo.jm rfl ?_ ?_
    · rintro wj hJ _ rfl K hK; simp only [Jo.z] at hK ⊢; obtain ⟨xX35, xX36, xX37, xX38⟩ := (X3.below hJ).v9; go_simp; exact hK.out _ _ rfl (br _ _)
    refine Jo.jm rfl ?_ ?_
    · rintro wj hJ K hK; simp only [Jo.z] at hK ⊢; go_simp; exact hK.out _ _ rfl (br _ _)
    refine Jo.jm rfl ?_ ?_
    · rintro wj hJ _ rfl _ rfl _ rfl _ rfl K hK; simp only [Jo.z] at hK ⊢; go_simp; rw [HOP.out.1]; simp only [Oper.upon]; refine (HOP.out.2 _ _ _ _ _ _ _ _ _ _ _ _ _ (hI.below hJ) b1.top b2.top b1.rk b2.rk H4.out).mono ?_; rintro ee wk ⟨K24, s24, M24, E24, rfl, q24, B⟩; exact hK.out _ _ ⟨K24, s24, M24, E24, rfl, q24⟩ B
    refine Jo.jm rfl ?_ ?_
    · rintro wj hJ _ ⟨K21, s21, M21, E21, rfl, q21⟩ _ ⟨K22, s22, M22, E22, rfl, q22⟩ _ ⟨K23, s23, M23, E23, rfl, q23⟩ _ ⟨K24, s24, M24, E24, rfl, q24⟩ K hK; simp only [Jo.z] at hK ⊢; go_simp; exact hK.out _ _ ⟨_, 4, rfl, Nl.of4 (Bo.new _ _ _) q21 q22 q23 q24⟩ (bel1 _ _)
    exact Jo.Steps.nil
  rintro w8 hJ _ rfl _ _ _ rfl _ _ _ rfl _ rfl _ ⟨K21, s21, M21, E21, rfl, q21⟩ _ rfl _ _ _ rfl _ _ _ rfl _ rfl _ ⟨K22, s22, M22, E22, rfl, q22⟩ _ rfl _ _ _ rfl _ _ _ rfl _ rfl _ ⟨K23, s23, M23, E23, rfl, q23⟩ _ rfl _ _ _ rfl _ _ _ rfl _ rfl _ ⟨K24, s24, M24, E24, rfl, q24⟩ _ ⟨A9, c9, rfl, h9⟩ -; simp only [Jo.z]; replace X1 := X1.below hJ; replace X2 := X2.below hJ; replace X3 := X3.below hJ; replace hI := hI.below hJ
  replace HB := Lib.hid (bt HB.out hJ)
  refine Jo.jnext (i := 29) (o := ⟨some 5, _, _, _, _, _⟩) (by kernel_rfl) rfl (fun K hK => ?_)
  go_simp; refine hK.out _ _ ?_; clear hK K; refine Jo.jdone (by kernel_rfl) ?_; go_wp2
  go_ret
  exact ⟨_, _, rfl, HF.out ▸ h9, HB.out⟩
set_option maxHeartbeats 8000000 in
theorem fkOf {w : World} {fid : FuncId} {F0 : Bool → Int → Int → Int} {b : Bool} {K1 M1 E1 K1b M1b E1b K2 M2 E2 K2b M2b E2b : Int} {s1 s1b s2 s2b : Bool} {xa xb ya yb : Int} {z : Sp} (hop : OpQ fid F0 b) (hI : TabIf b w) (v1 : Ci false K1 s1 M1 E1 K1b s1b M1b E1b (some (xa, xb))) (v2 : Ci false K2 s2 M2 E2 K2b s2b M2b E2b (some (ya, yb))) (hF : F0 false xa ya ≤ 19342822337206103650074625 ∧ -19342822337206103650074625 ≤ F0 true xa ya) (hr : cor F0 xa xb ya yb = z) :
    Calls Tryz.prog 53 #[.agg #[.bool false, .int .i64 K1, .bool s1, .int .u64 M1, .int .i64 E1, .int .i64 K1b, .bool s1b, .int .u64 M1b, .int .i64 E1b], .agg #[.bool false, .int .i64 K2, .bool s2, .int .u64 M2, .int .i64 E2, .int .i64 K2b, .bool s2b, .int .u64 M2b, .int .i64 E2b], .func (.func fid) #[] #[]] w (PV w z) := by
  have hmf : ∀ (fn : Fn) (first cap : Array Value) (w : World), (Instr.makeFunc fn first cap).run Tryz.prog w = .ok (.func fn first cap) w := fun _ _ _ _ => rfl
  obtain ⟨_, a1, b1, o1, o1l, o1h⟩ := v1; obtain ⟨_, a2, b2, o2, o2l, o2h⟩ := v2; rw [← four_cor hF.1 hF.2] at hr; obtain ⟨u, hu⟩ : ∃ u, mnp (four F0 false xa xb ya yb) = u := ⟨_, rfl⟩; obtain ⟨v, hv⟩ : ∃ v, mxp (four F0 true xa xb ya yb) = v := ⟨_, rfl⟩; rw [hu, hv] at hr; have HU := Lib.hid hu; have HV := Lib.hid hv; have HR := Lib.hid hr; have HOP := Lib.hid hop; clear hu hv hr hop hF o1 o1l o1h o2 o2l o2h
  go_enter Tryz.func53, Tryz.ntmps53
  go_upto_region 1 with (fail)
  generalize hW1 : (((w.alloc _).alloc _).alloc _).alloc _ = w1 at *; obtain ⟨X3, X4, X5, XR, HB⟩ := Bo.en4 hW1; replace hI := hI.below HB.out; clear hW1
  go_wp2_with fail
  refine (fkFour HOP.out hI X5 X3 X4 a1 b1 a2 b2).mono ?_; rintro ee w2 ⟨A1, c1, rfl, N1, B⟩; replace X3 := X3.below B; replace X4 := X4.below B; replace X5 := X5.below B; replace XR := XR.below B; replace hI := hI.below B; replace HB := Lib.hid (bt HB.out B); clear B
  go_wp2_with fail
  refine (nLeast N1 HU.out).mono ?_; rintro ee w3 ⟨K11, s11, M11, E11, rfl, q11, B⟩; replace X3 := X3.below B; replace X4 := X4.below B; replace X5 := X5.below B; replace XR := XR.below B; replace hI := hI.below B; replace N1 := N1.below B; replace HB := Lib.hid (bt HB.out B); clear B; clear N1
  go_wp2_with fail
  refine (fkFour HOP.out hI X5 X3 X4 a1 b1 a2 b2).mono ?_; rintro ee w4 ⟨A2, c2, rfl, N2, B⟩; replace X3 := X3.below B; replace X4 := X4.below B; replace X5 := X5.below B; replace XR := XR.below B; replace hI := hI.below B; replace HB := Lib.hid (bt HB.out B); clear B
  go_wp2_with fail
  refine (nMost N2 HV.out).mono ?_; rintro ee w5 ⟨K12, s12, M12, E12, rfl, q12, B⟩; replace X3 := X3.below B; replace X4 := X4.below B; replace X5 := X5.below B; replace XR := XR.below B; replace hI := hI.below B; replace N2 := N2.below B; replace HB := Lib.hid (bt HB.out B); clear B; clear N2
  go_wp2_with fail
  refine (kvMake q11.top q12.top q11.rk q12.rk HR.out).mono ?_; rintro ee w6 ⟨e13, K13, s13, M13, E13, K13b, s13b, M13b, E13b, rfl, v13, B⟩; replace X3 := X3.below B; replace X4 := X4.below B; replace X5 := X5.below B; replace XR := XR.below B; replace hI := hI.below B; replace HB := Lib.hid (bt HB.out B); clear B; clear hI; clear X5; obtain ⟨xXR0, xXR1, xXR2, xXR3, xXR4, xXR5, xXR6, xXR7, xXR8⟩ := XR.u9
  have zXR0 := XR.frozen; go_wp2; clear xXR0 zXR0 xXR1 xXR2 xXR3 xXR4 xXR5 xXR6 xXR7 xXR8; have SX := StN.mk9 XR (.bool e13) (.int .i64 K13) (.bool s13) (.int .u64 M13) (.int .i64 E13) (.int .i64 K13b) (.bool s13b) (.int .u64 M13b) (.int .i64 E13b); exact bodyPost_ret (by simp [results, Tryz.results53, go_sem, SX.box.cell]) rfl ⟨_, _, _, _, _, _, _, _, _, rfl, v13, (SX.below HB.out (by omega))⟩
theorem opq_mul : OpQ 54 mulp false := ⟨fun _ _ => by first | rfl | kernel_rfl | simp [callFunc, go_sem], fun _ _ _ _ _ _ _ _ _ _ _ _ _ _ hM hM' hx hy hr => aMul hM hM' hx hy hr⟩
set_option maxHeartbeats 4000000 in
theorem fkMul {w : World} {e : Bool} {D M E D' M' E' : Int} {s s' : Bool} {e2 : Bool} {G P Q G' P' Q' : Int} {g g' : Bool} {x y z : Sp} (hM : M < 18446744073709551616) (hM' : M' < 18446744073709551616) (hP : P < 18446744073709551616) (hP' : P' < 18446744073709551616) (hx : rkI e D s M E D' s' M' E' = x) (hy : rkI e2 G g P Q G' g' P' Q' = y) (hr : mulI x y = z) : Calls Tryz.prog 18 #[.agg #[.bool e, .int .i64 D, .bool s, .int .u64 M, .int .i64 E, .int .i64 D', .bool s', .int .u64 M', .int .i64 E'], .agg #[.bool e2, .int .i64 G, .bool g, .int .u64 P, .int .i64 Q, .int .i64 G', .bool g', .int .u64 P', .int .i64 Q']] w (PV w z) := by
  obtain ⟨p, hp⟩ : ∃ p, gone [x, y] = p := ⟨_, rfl⟩; have HP := Lib.hid hp; have HX := Lib.hid hx; have HY := Lib.hid hy; clear hx hy hp
  go_enter Tryz.func18, Tryz.ntmps18
  go_upto_region 1 with (fail)
  generalize hW1 : ((w.alloc _).alloc _).alloc _ = w1 at *; obtain ⟨X2, X3, XR, HB⟩ := Bo.en3 hW1; clear hW1; obtain ⟨xX20, xX21, xX22, xX23, xX24, xX25, xX26, xX27, xX28⟩ := X2.u9; obtain ⟨xX30, xX31, xX32, xX33, xX34, xX35, xX36, xX37, xX38⟩ := X3.u9
  go_wp2_with fail
  refine (fkEmpty (Il8.lit2 rfl ⟨hM, hM', HX.out⟩ ⟨hP, hP', HY.out⟩) HP.out).mono ?_; rintro ee w2 ⟨rfl, B⟩; replace B := bt (bel1 _ (.cells #[.bool e, .int .i64 D, .bool s, .int .u64 M, .int .i64 E, .int .i64 D', .bool s', .int .u64 M', .int .i64 E', .bool e2, .int .i64 G, .bool g, .int .u64 P, .int .i64 Q, .int .i64 G', .bool g', .int .u64 P', .int .i64 Q'] 26)) B; clear xX20 xX21 xX22 xX23 xX24 xX25 xX26 xX27 xX28 xX30 xX31 xX32 xX33 xX34 xX35 xX36 xX37 xX38
  replace X2 := X2.below B; replace X3 := X3.below B; replace XR := XR.below B; replace HB := Lib.hid (bt HB.out B); clear B
  rcases x with _ | ⟨xa, xb⟩
  · obtain rfl : true = p := HP.out
    obtain rfl : none = z := hr
    clear HP
    go_wp2_with fail
    refine (kvNoneE).mono ?_; rintro ee w3 ⟨rfl, B⟩; replace X2 := X2.below B; replace X3 := X3.below B; replace XR := XR.below B; replace HB := Lib.hid (bt HB.out B); clear B; obtain ⟨xXR0, xXR1, xXR2, xXR3, xXR4, xXR5, xXR6, xXR7, xXR8⟩ := XR.u9; have zXR0 := XR.frozen; go_wp2; clear xXR0 zXR0 xXR1 xXR2 xXR3 xXR4 xXR5 xXR6 xXR7 xXR8; have SX := StN.mk9 XR (.bool true) (.int .i64 0) (.bool false) (.int .u64 0) (.int .i64 0) (.int .i64 0) (.bool false) (.int .u64 0) (.int .i64 0)
    exact bodyPost_ret (by simp [results, Tryz.results18, go_sem, SX.box.cell]) rfl ⟨_, _, _, _, _, _, _, _, _, rfl, Ci.none, (SX.below HB.out (by omega))⟩
  · rcases y with _ | ⟨ya, yb⟩
    · obtain rfl : true = p := HP.out
      obtain rfl : none = z := hr
      clear HP
      go_wp2_with fail
      refine (kvNoneE).mono ?_; rintro ee w3 ⟨rfl, B⟩; replace X2 := X2.below B; replace X3 := X3.below B; replace XR := XR.below B; replace HB := Lib.hid (bt HB.out B); clear B; obtain ⟨xXR0, xXR1, xXR2, xXR3, xXR4, xXR5, xXR6, xXR7, xXR8⟩ := XR.u9; have zXR0 := XR.frozen; go_wp2; clear xXR0 zXR0 xXR1 xXR2 xXR3 xXR4 xXR5 xXR6 xXR7 xXR8; have SX := StN.mk9 XR (.bool true) (.int .i64 0) (.bool false) (.int .u64 0) (.int .i64 0) (.int .i64 0) (.bool false) (.int .u64 0) (.int .i64 0)
      exact bodyPost_ret (by simp [results, Tryz.results18, go_sem, SX.box.cell]) rfl ⟨_, _, _, _, _, _, _, _, _, rfl, Ci.none, (SX.below HB.out (by omega))⟩
    · obtain rfl : false = p := HP.out
      have w1' := ci_some hM hM' HX.out
      have w2' := ci_some hP hP' HY.out
      obtain ⟨rfl, a1, b1, o1, o1l, o1h⟩ := w1'; obtain ⟨rfl, a2, b2, o2, o2l, o2h⟩ := w2'
      have v1 : Ci false D s M E D' s' M' E' (some (xa, xb)) := ⟨rfl, a1, b1, o1, o1l, o1h⟩
      have v2 : Ci false G g P Q G' g' P' Q' (some (ya, yb)) := ⟨rfl, a2, b2, o2, o2l, o2h⟩
      clear HP HX HY
      have HR := Lib.hid (show cor mulp xa xb ya yb = z from hr)
      clear hr o1 o1l o1h o2 o2l o2h; obtain ⟨xX20, xX21, xX22, xX23, xX24, xX25, xX26, xX27, xX28⟩ := X2.u9; obtain ⟨xX30, xX31, xX32, xX33, xX34, xX35, xX36, xX37, xX38⟩ := X3.u9
      go_wp2_with fail
      refine (fkOf opq_mul (fun e => by cases e) v1 v2 ⟨(mulp_bd false).2, (mulp_bd true).1⟩ HR.out).mono ?_
      rintro ee w3 ⟨e13, K13, s13, M13, E13, K13b, s13b, M13b, E13b, rfl, v13, B⟩; clear xX20 xX21 xX22 xX23 xX24 xX25 xX26 xX27 xX28 xX30 xX31 xX32 xX33 xX34 xX35 xX36 xX37 xX38; replace X2 := X2.below B; replace X3 := X3.below B; replace XR := XR.below B; replace HB := Lib.hid (bt HB.out B); clear B; obtain ⟨xXR0, xXR1, xXR2, xXR3, xXR4, xXR5, xXR6, xXR7, xXR8⟩ := XR.u9; have zXR0 := XR.frozen; go_wp2
      clear xXR0 zXR0 xXR1 xXR2 xXR3 xXR4 xXR5 xXR6 xXR7 xXR8; have SX := StN.mk9 XR (.bool e13) (.int .i64 K13) (.bool s13) (.int .u64 M13) (.int .i64 E13) (.int .i64 K13b) (.bool s13b) (.int .u64 M13b) (.int .i64 E13b); exact bodyPost_ret (by simp [results, Tryz.results18, go_sem, SX.box.cell]) rfl ⟨_, _, _, _, _, _, _, _, _, rfl, v13, (SX.below HB.out (by omega))⟩
end Go.Proofs.YteejbcimmmcnlaaGreatDoor
