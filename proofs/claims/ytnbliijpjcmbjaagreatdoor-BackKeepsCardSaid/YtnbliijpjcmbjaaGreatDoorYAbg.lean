/-
 Contracts that the proof rests on.
-/
import Derived.Test.YtnbliijpjcmbjaaGreatDoorYAbf
namespace Go.Proofs.YtnbliijpjcmbjaaGreatDoor
set_option maxHeartbeats 4000000
open Go.RowKit
set_option linter.unusedVariables false
theorem mulp_spec {x y : Int} (x1 : -19342822337206103650074625 < x) (x2 : x < 19342822337206103650074625) (y1 : -19342822337206103650074625 < y) (y2 : y < 19342822337206103650074625) : Dn (vl (ml (ep x) (ep y))) (mulp false x y) ∧ Up (vl (ml (ep x) (ep y))) (mulp true x y) := by
 obtain ⟨nf, v⟩ := pro_spec x1 x2 y1 y2
 by_cases h : x = 0 ∨ y = 0
 · rw [mulp_zero false h, mulp_zero true h]
   have e : vl (ml (ep x) (ep y)) = vr 0 := by
     have hz : vr x * vr y = 0 := by rcases h with e | e <;> rw [e, show vr 0 = 0 from rfl] <;> simp
     rw [hz] at v
     rcases Int.mul_eq_zero.1 v with e | e
     · rw [e]; rfl
     · have := p2pos KK
       omega
   rw [e]; exact ⟨dn_self (by decide) (by decide), up_self (by decide) (by decide)⟩
 · have hm : ¬ (infp x = true ∨ infp y = true) := by rw [infp_fin x1 x2, infp_fin y1 y2]; simp
   rw [mulp_fin false h hm, mulp_fin true h hm]; exact rnd_spec nf
theorem In.fin {x : Int} (h1 : -19342822337206103650074625 < x) (h2 : x < 19342822337206103650074625) : In x := ⟨by omega, by omega⟩
theorem q_bot {q : Bool → Int → Int → Int} (hq : QF q) (up : Bool) {y : Int} (y0 : y ≠ 0) (yi : infp y = false) : (0 < y → q up (-19342822337206103650074625) y = -19342822337206103650074625) ∧ (y < 0 → q up (-19342822337206103650074625) y = 19342822337206103650074625) := by
 have h := (qt_inf y0 (by rw [yi]; simp) (by decide)).1 (hq up (-19342822337206103650074625) y)
 constructor
 · intro c
   rw [h, decide_eq_false (show ¬ y < 0 by omega)]
   decide
 · intro c
   rw [h, decide_eq_true c]
   decide
theorem q_top {q : Bool → Int → Int → Int} (hq : QF q) (up : Bool) {y : Int} (y0 : y ≠ 0) (yi : infp y = false) : (0 < y → q up 19342822337206103650074625 y = 19342822337206103650074625) ∧ (y < 0 → q up 19342822337206103650074625 y = -19342822337206103650074625) := by
 have h := (qt_inf y0 (by rw [yi]; simp) (by decide)).1 (hq up 19342822337206103650074625 y)
 constructor
 · intro c
   rw [h, decide_eq_false (show ¬ y < 0 by omega)]
   decide
 · intro c
   rw [h, decide_eq_true c]
   decide
theorem quo_gen {q : Bool → Int → Int → Int} (hq : QF q) {B : Sp} {y z : Int} (hB : SpOk B) (hy : hasI B y = true) (y0 : y ≠ 0) (y1 : -19342822337206103650074625 < y) (y2 : y < 19342822337206103650074625) (z1 : -19342822337206103650074625 < z) (z2 : z < 19342822337206103650074625) :
   hasI (divI q (mulI (mkI y y) (mkI z z)) B) z = true := by
 rcases B with _ | ⟨c, d⟩
 · cases hy
 obtain ⟨_, _, k3, k4⟩ := has_out hy (In.fin y1 y2); have C := hB.in1.1; have D := hB.in1.2; obtain ⟨D1, D2⟩ := mulp_spec y1 y2 z1 z2; have le := dn_le_up D1 D2; obtain ⟨nf, v⟩ := pro_spec y1 y2 z1 z2
 have f1 : mulp false y z < 19342822337206103650074625 := by
   have := D1.2.1
   omega
 have f2 : -19342822337206103650074625 < mulp true y z := by
   have := D2.2.1
   omega
 have m : mulI (mkI y y) (mkI z z) = some (mulp false y z, mulp true y z) := by
   rw [mkI_some (Int.le_refl _) y2 y1, mkI_some (Int.le_refl _) z2 z1]
   show cor mulp y y z z = _
   unfold cor
   rw [show min (min (mulp false y z) (mulp false y z)) (min (mulp false y z) (mulp false y z)) = mulp false y z by omega, show max (max (mulp true y z) (mulp true y z)) (max (mulp true y z) (mulp true y z)) = mulp true y z by omega]
   exact mkI_some le (by omega) (by omega)
 rw [m]
 have w1 : -19342822337206103650074625 < mulp false y z → vr (mulp false y z) * 2 ^ KK ≤ vr z * vr y := fun p1 => by
   rw [Int.mul_comm (vr z), ← v]; exact Int.mul_le_mul_of_nonneg_right (D1.2.2.1 p1) (Int.le_of_lt (p2pos KK))
 have w2 : mulp true y z < 19342822337206103650074625 → vr z * vr y ≤ vr (mulp true y z) * 2 ^ KK := fun p2 => by
   rw [Int.mul_comm (vr z), ← v]
   have := D2.2.2.1 (by omega)
   rw [vr_neg] at this; exact Int.mul_le_mul_of_nonneg_right (by omega) (Int.le_of_lt (p2pos KK))
 have f3 : -19342822337206103650074625 ≤ mulp false y z := (mulp_bd false).1
 have f4 : mulp true y z ≤ 19342822337206103650074625 := (mulp_bd true).2
 generalize mulp false y z = p at *; generalize mulp true y z = r at *
 have yi : infp y = false := infp_fin y1 y2
 have ss : ∀ up, Sid up (vr z) 1 z := fun up => sid_exact (by decide) z1 z2 (Int.mul_one _)
 -- what is divided by y lies on either side of z
 have key : ∀ t, -19342822337206103650074625 < t → t < 19342822337206103650074625 → (vr t * 2 ^ KK ≤ vr z * vr y → (0 < y → q false t y ≤ z) ∧ (y < 0 → z ≤ q true t y)) ∧ (vr z * vr y ≤ vr t * 2 ^ KK → (0 < y → z ≤ q true t y) ∧ (y < 0 → q false t y ≤ z)) := by
   intro t t1 t2
   have ti : infp t = false := infp_fin t1 t2
   refine ⟨fun h => ⟨fun hp => ?_, fun hn => ?_⟩, fun h => ⟨fun hp => ?_, fun hn => ?_⟩⟩
   · exact (qt_sid (hq false t y) hp ti yi).mono (vr_pos hp) (by decide) (ss false) (by omega)
   · have s := qt_sid (qt_negs (by omega) (hq true t y)) (by omega) (by rw [infp_neg]; exact ti) (by rw [infp_neg]; exact yi); refine (ss true).mono (by decide) (vr_pos (by omega)) s ?_; rw [vr_neg, vr_neg, Int.mul_one, Int.neg_mul, Int.mul_neg]
     omega
   · exact (ss true).mono (by decide) (vr_pos hp) (qt_sid (hq true t y) hp ti yi) (by omega)
   · have s := qt_sid (qt_negs (by omega) (hq false t y)) (by omega) (by rw [infp_neg]; exact ti) (by rw [infp_neg]; exact yi); refine s.mono (vr_pos (by omega)) (by decide) (ss false) ?_; rw [vr_neg, vr_neg, Int.mul_one, Int.neg_mul, Int.mul_neg]
     omega
 have kp : (0 < y → q false p y ≤ z) ∧ (y < 0 → z ≤ q true p y) := by
   by_cases e : p = -19342822337206103650074625
   · rw [e]
     exact ⟨fun h => by rw [(q_bot hq false y0 yi).1 h]; omega, fun h => by rw [(q_bot hq true y0 yi).2 h]; omega⟩
   · exact (key p (by omega) f1).1 (w1 (by omega))
 have kr : (0 < y → z ≤ q true r y) ∧ (y < 0 → q false r y ≤ z) := by
   by_cases e : r = 19342822337206103650074625
   · rw [e]
     exact ⟨fun h => by rw [(q_top hq true y0 yi).1 h]; omega, fun h => by rw [(q_top hq false y0 yi).2 h]; omega⟩
   · exact (key r f2 (by omega)).2 (w2 (by omega))
 clear key w1 w2 v D1 D2 nf
 have P : In p := ⟨by omega, by omega⟩
 have R : In r := ⟨by omega, by omega⟩
 have Z := In.fin z1 z2
 rcases dvI_way le (show c ≤ d by omega) with h | h | ⟨h0, h1, h2⟩ | ⟨rfl, h1, h2⟩ | ⟨rfl, h1, h2⟩ | ⟨h1, rfl, h2⟩ | ⟨h1, rfl, h2⟩
 · omega
 · rw [dvI_cor h]
   have Q : ∀ up u, p ≤ u → u ≤ r → _ := fun up u i j => cor_lo (f := q up) (a := p) (b := r) (c := c) (d := d) (x := u) (y := y) (fun z i j => q_mn hq up ⟨by have := C.1; omega, by have := D.2; omega⟩ (by omega) P R) (fun z i j => q_mn2 hq up ⟨by omega, by omega⟩ C D h) i j k3 k4
   have Q1 := Q false p (Int.le_refl _) le; have Q2 := Q false r le (Int.le_refl _); have Q3 := Q true p (Int.le_refl _) le; have Q4 := Q true r le (Int.le_refl _); refine has_mk z1 z2 ?_ ?_
   · rcases Int.lt_or_le 0 y with s | s
     · have := kp.1 s
       omega
     · have := kr.2 (by omega)
       omega
   · rcases Int.lt_or_le 0 y with s | s
     · have := kr.1 s
       omega
     · have := kp.2 (by omega)
       omega
 · rw [dvI_all h0 h1 h2, all_mk]; exact has_mk z1 z2 (by omega) (by omega)
 · rw [(dvI_up h1 le).1 h2]
   have s := far_pp hq false h2 (Int.le_refl _) (show 0 < y by omega) k4 P D
   have := kp.1 (by omega)
   exact has_mk z1 z2 (by omega) (by omega)
 · rw [(dvI_up h1 le).2 h2]
   have s := far_np hq true h2 (Int.le_refl _) (show 0 < y by omega) k4 R D
   have := kr.1 (by omega)
   exact has_mk z1 z2 (by omega) (by omega)
 · rw [(dvI_dn h1 le).1 h2]
   have s := far_pn hq true h2 (Int.le_refl _) (show y < 0 by omega) k3 P C
   have := kp.2 (by omega)
   exact has_mk z1 z2 (by omega) (by omega)
 · rw [(dvI_dn h1 le).2 h2]
   have s := far_nn hq false h2 (Int.le_refl _) (show y < 0 by omega) k3 R C
   have := kr.2 (by omega)
   exact has_mk z1 z2 (by omega) (by omega)
def Zi (a b : Int) : Sp := some (opl a, opl b)
theorem opl_le {a b : Int} (h1 : -9223372036854775808 ≤ a) (h : a ≤ b) (h2 : b ≤ 9223372036854775807) : opl a ≤ opl b := by
 have c := opl_cmp (a := a) (b := b) h1 (by omega) (by omega) h2
 rcases cmpI_tri (opl a) (opl b) with ⟨p, e⟩ | ⟨p, e⟩ | ⟨p, e⟩
 · omega
 · omega
 · rw [e] at c
   rcases cmpI_tri a b with ⟨s, f⟩ | ⟨s, f⟩ | ⟨s, f⟩ <;> omega
theorem opl_fin {a : Int} (h1 : -9223372036854775807 ≤ a) (h2 : a ≤ 9223372036854775807) : -19342822337206103650074625 < opl a ∧ opl a < 19342822337206103650074625 := by
 rcases Int.lt_or_le 0 a with c | c
 · have := opl_pos c h2
   omega
 · by_cases d : a = 0
   · subst d
     decide
   · have := opl_pos (n := -a) (by omega) (by omega)
     rw [opl_neg] at this
     omega
theorem opl_min {a b : Int} (h1 : -9223372036854775808 ≤ a) (h2 : a ≤ 9223372036854775807) (h3 : -9223372036854775808 ≤ b) (h4 : b ≤ 9223372036854775807) : min (opl a) (opl b) = opl (min a b) ∧ max (opl a) (opl b) = opl (max a b) := by
 rcases Int.lt_or_le b a with c | c
 · have := opl_le h3 (show b ≤ a by omega) h2
   rw [show min a b = b by omega, show max a b = a by omega]
   omega
 · have := opl_le h1 c h4
   rw [show min a b = a by omega, show max a b = b by omega]
   omega
theorem Zi.mk {a b : Int} (h1 : -9223372036854775807 ≤ a) (h : a ≤ b) (h2 : b ≤ 9223372036854775807) : mkI (opl a) (opl b) = Zi a b ∧ SpOk (Zi a b) := by
 have A := opl_fin h1 (show a ≤ 9223372036854775807 by omega)
 have B := opl_fin (show -9223372036854775807 ≤ b by omega) h2
 have C := opl_le (by omega) h h2; exact ⟨mkI_some C A.2 B.1, ⟨by omega, C, by omega, A.2, B.1⟩⟩
theorem opl_add {a b : Int} (up : Bool) (h1 : -1000000000000000000 ≤ a) (h2 : a ≤ 1000000000000000000) (h3 : -1000000000000000000 ≤ b) (h4 : b ≤ 1000000000000000000) : addp up (opl a) (opl b) = opl (a + b) := by
 obtain ⟨a1, a2⟩ := opl_fin (a := a) (by omega) (by omega); obtain ⟨b1, b2⟩ := opl_fin (a := b) (by omega) (by omega); obtain ⟨c1, c2⟩ := opl_fin (a := a + b) (by omega) (by omega); rw [addp_ff up (infp_fin a1 a2) (infp_fin b1 b2)]; obtain ⟨nf, v⟩ := sum_spec a1 a2 b1 b2; refine rnd_exact nf up c1 c2 ?_; rw [v, opl_vr (by omega) (by omega), opl_vr (by omega) (by omega), opl_vr (by omega) (by omega), Int.add_mul]
theorem opl_nz {a : Int} (h : a ≠ 0) (h1 : -9223372036854775807 ≤ a) (h2 : a ≤ 9223372036854775807) : opl a ≠ 0 := by
 rcases Int.lt_or_le 0 a with c | c
 · have := opl_pos c h2
   omega
 · have := opl_pos (n := -a) (by omega) (by omega)
   rw [opl_neg] at this
   omega
theorem opl_mul {a b : Int} (up : Bool) (h1 : -1000000000 ≤ a) (h2 : a ≤ 1000000000) (h3 : -1000000000 ≤ b) (h4 : b ≤ 1000000000) : mulp up (opl a) (opl b) = opl (a * b) := by
 by_cases c : a = 0 ∨ b = 0
 · rw [mulp_zero up (c.imp (fun e => by subst e; rfl) (fun e => by subst e; rfl)), show a * b = 0 from Int.mul_eq_zero.2 c]
   rfl
 · have hp : (a * b).natAbs ≤ 1000000000 * 1000000000 := by
     rw [Int.natAbs_mul]; exact Nat.mul_le_mul (by omega) (by omega)
   obtain ⟨a1, a2⟩ := opl_fin (a := a) (by omega) (by omega); obtain ⟨b1, b2⟩ := opl_fin (a := b) (by omega) (by omega); obtain ⟨c1, c2⟩ := opl_fin (a := a * b) (by omega) (by omega); refine mulp_exact up (opl_nz (by omega) (by omega) (by omega)) (opl_nz (by omega) (by omega) (by omega)) a1 a2 b1 b2 c1 c2 ?_; rw [opl_vr (by omega) (by omega), opl_vr (by omega) (by omega), opl_vr (n := a * b) (by omega) (by omega)]
   simp only [Int.mul_assoc, Int.mul_left_comm]
theorem Zi.add {a b c d : Int} (h1 : -100000000000000000 ≤ a) (h : a ≤ b) (h2 : b ≤ 100000000000000000) (k1 : -100000000000000000 ≤ c) (k : c ≤ d) (k2 : d ≤ 100000000000000000) : addI (Zi a b) (Zi c d) = Zi (a + c) (b + d) := by
 show mkI _ _ = _
 rw [opl_add false (by omega) (by omega) (by omega) (by omega), opl_add true (by omega) (by omega) (by omega) (by omega)]; exact (Zi.mk (by omega) (by omega) (by omega)).1
theorem Zi.neg {a b : Int} (h1 : -100000000000000000 ≤ a) (h : a ≤ b) (h2 : b ≤ 100000000000000000) : negI (Zi a b) = Zi (-b) (-a) := by
 show mkI _ _ = _
 rw [← opl_neg, ← opl_neg]; exact (Zi.mk (by omega) (by omega) (by omega)).1
theorem zmul_bd {a b : Int} {A B : Nat} (h : a.natAbs ≤ A) (k : b.natAbs ≤ B) : (a * b).natAbs ≤ A * B := by
 rw [Int.natAbs_mul]; exact Nat.mul_le_mul h k
theorem Zi.mul {a b c d : Int} (h1 : -1000000000 ≤ a) (h : a ≤ b) (h2 : b ≤ 1000000000) (k1 : -1000000000 ≤ c) (k : c ≤ d) (k2 : d ≤ 1000000000) : mulI (Zi a b) (Zi c d) = Zi (min (min (a * c) (a * d)) (min (b * c) (b * d))) (max (max (a * c) (a * d)) (max (b * c) (b * d))) := by
 show cor mulp _ _ _ _ = _
 unfold cor
 simp only [opl_mul _ h1 (show a ≤ 1000000000 by omega) k1 (show c ≤ 1000000000 by omega), opl_mul _ h1 (show a ≤ 1000000000 by omega) (show -1000000000 ≤ d by omega) k2, opl_mul _ (show -1000000000 ≤ b by omega) h2 k1 (show c ≤ 1000000000 by omega), opl_mul _ (show -1000000000 ≤ b by omega) h2 (show -1000000000 ≤ d by omega) k2]
 have n1 := zmul_bd (a := a) (b := c) (A := 1000000000) (B := 1000000000) (by omega) (by omega); have n2 := zmul_bd (a := a) (b := d) (A := 1000000000) (B := 1000000000) (by omega) (by omega); have n3 := zmul_bd (a := b) (b := c) (A := 1000000000) (B := 1000000000) (by omega) (by omega); have n4 := zmul_bd (a := b) (b := d) (A := 1000000000) (B := 1000000000) (by omega) (by omega); generalize a * c = p at *
 generalize a * d = q at *; generalize b * c = r at *; generalize b * d = s at *; have e1 := opl_min (a := p) (b := q) (by omega) (by omega) (by omega) (by omega); have e2 := opl_min (a := r) (b := s) (by omega) (by omega) (by omega) (by omega); rw [e1.1, e1.2, e2.1, e2.2, (opl_min (a := min p q) (b := min r s) (by omega) (by omega) (by omega) (by omega)).1, (opl_min (a := max p q) (b := max r s) (by omega) (by omega) (by omega) (by omega)).2]
 exact (Zi.mk (by omega) (by omega) (by omega)).1
def partB (q : Bool → Int → Int → Int) (x z y : Sp) : Sp := if (hasI z 0 && hasI y 0) = true then x else meetI x (divI q z y)
def timesB (q : Bool → Int → Int → Int) (z x y : Sp) : Sp × Sp := match z with
 | none => (none, none)
 | some p => (partB q x (some p) y, partB q y (some p) (partB q x (some p) y))
def zout (y : Sp) : Sp := if y = some (0, 0) then none else y
def overB (q : Bool → Int → Int → Int) (z x y : Sp) : Sp × Sp := match z with
 | none => (none, none)
 | some p => (meetI x (mulI (some p) (zout y)), partB q (zout y) (meetI x (mulI (some p) (zout y))) (some p))
def sqrB (r : Bool → Int → Int) (z x : Sp) : Sp := hullI (meetI x (rootI r z)) (meetI x (negI (rootI r z)))
def rootB (z x : Sp) : Sp := meetI x (sqrI (meetI z (some (0, 19342822337206103650074625))))
section
variable {q : Bool → Int → Int → Int} {r : Bool → Int → Int} {x y z : Sp}
theorem part_ok (hq : QF q) (hx : SpOk x) (hy : SpOk y) (hz : SpOk z) : SpOk (partB q x z y) := by
 unfold partB
 split
 · exact hx
 · exact meetI_ok hx (dvI_ok hq hz hy)
theorem zout_wit : witI (zout y) y = true := by
 unfold zout
 split
 · rfl
 · exact wit_self
theorem part_wit : witI (partB q x z y) x = true := by
 unfold partB
 split
 · exact wit_self
 · exact wit_meet
theorem times_wit : witI (timesB q z x y).1 x = true ∧ witI (timesB q z x y).2 y = true := by
 rcases z with _ | p
 · exact ⟨rfl, rfl⟩
 · exact ⟨part_wit, part_wit⟩
theorem over_wit : witI (overB q z x y).1 x = true ∧ witI (overB q z x y).2 y = true := by
 rcases z with _ | p
 · exact ⟨rfl, rfl⟩
 · exact ⟨wit_meet, wit_trans part_wit zout_wit⟩
theorem wit_hull2 {a b : Sp} (ha : SpOk a) (hb : SpOk b) (h : witI a x = true) (k : witI b x = true) : witI (hullI a b) x = true := by
 rcases a with _ | ⟨a1, a2⟩
 · exact k
 rcases b with _ | ⟨b1, b2⟩
 · rw [hullI_none]; exact h
 obtain ⟨c, d, rfl, h1, h2⟩ := wit_some h
 have k' := wit_iff.1 k
 rw [hullI_some ha hb]; exact wit_iff.2 ⟨by omega, by omega⟩
theorem sqrB_wit (hr : RF r) (hx : SpOk x) (hz : SpOk z) : witI (sqrB r z x) x = true :=
 wit_hull2 (meetI_ok hx (root_ok hr hz)) (meetI_ok hx (negI_ok (root_ok hr hz))) wit_meet wit_meet
theorem rootB_wit : witI (rootB z x) x = true := wit_meet
theorem div_nn : divI q none y = none := rfl
theorem sub_nn : subI none y = none := rfl
theorem add_nn : addI none y = none := rfl
theorem sub_nn2 : subI x none = none := by
 unfold subI
 exact add_none x
theorem sqr_nn : sqrI none = none := rfl
theorem root_nn : rootI r none = none := rfl
theorem sqrB_nn : sqrB r none x = none := by
 unfold sqrB
 rw [root_nn, show negI none = none from rfl, meetI_none]
 rfl
theorem rootB_nn : rootB none x = none := by
 unfold rootB
 rw [show meetI none (some (0, 19342822337206103650074625)) = none from rfl, sqr_nn, meetI_none]
end
theorem add_back {m n : Int} (m1 : -19342822337206103650074625 < m) (m2 : m < 19342822337206103650074625) (n1 : -19342822337206103650074625 < n) (n2 : n < 19342822337206103650074625) : addp false (addp false m n) (-n) ≤ m := by
 have hl := addp_lt (x := m) (y := n) (by omega) m2 (by omega) n2; have hb := (addp_bd (x := m) (y := n) false (by omega) (by omega) (by omega) (by omega)).1; have s := (addp_spec false m1 m2 n1 n2).1; generalize addp false m n = l at *
 by_cases e : l = -19342822337206103650074625
 · rw [e, addp_tf false (by decide) (infp_fin (by omega) (by omega))]
   omega
 · have t := (addp_spec (x := l) (y := -n) false (by omega) (by omega) (by omega) (by omega)).1
   have := s.2.2.1 (by omega)
   refine t.mono (dn_self m1 m2) ?_; rw [vr_neg]
   omega
theorem add_back2 {m n : Int} (m1 : -19342822337206103650074625 < m) (m2 : m < 19342822337206103650074625) (n1 : -19342822337206103650074625 < n) (n2 : n < 19342822337206103650074625) : m ≤ addp true (addp true m n) (-n) := by
 have h := add_back (m := -m) (n := -n) (by omega) (by omega) (by omega) (by omega); have e1 := addp_neg (x := m) (y := n) true; have e2 := addp_neg (x := addp true m n) (y := -n) true; rw [Bool.not_true] at e1 e2; rw [e1, e2] at h
 omega
theorem has_fin {x : Sp} {m : Int} (hi : In m) (h : hasI x m = true) : -19342822337206103650074625 < m ∧ m < 19342822337206103650074625 := by
 rcases x with _ | ⟨a, b⟩
 · cases h
 · have := has_out h hi
   exact ⟨this.1, this.2.1⟩
theorem has_neg {x : Sp} {n : Int} (ho : SpOk x) (hi : In n) (h : hasI x n = true) : hasI (negI x) (-n) = true := by
 rcases x with _ | ⟨a, b⟩
 · cases h
 · obtain ⟨h1, h2, h3, h4⟩ := has_out h hi; rw [negI_some ho]; exact has_in (by omega) (by omega) (by omega) (by omega)
theorem pt_some {m : Int} (m1 : -19342822337206103650074625 < m) (m2 : m < 19342822337206103650074625) : mkI m m = some (m, m) := mkI_some (Int.le_refl _) m2 m1
theorem pt_ok {m : Int} (m1 : -19342822337206103650074625 < m) (m2 : m < 19342822337206103650074625) : SpOk (some (m, m)) := ⟨by omega, Int.le_refl _, by omega, m2, m1⟩
theorem back_sub {z y : Sp} {m n : Int} (hz : SpOk z) (hy : SpOk y) (hm : -19342822337206103650074625 < m ∧ m < 19342822337206103650074625) (hn : In n) (h : hasI y n = true) (w : witI (addI (some (m, m)) (some (n, n))) z = true) : hasI (subI z y) m = true := by
 obtain ⟨n1, n2⟩ := has_fin hn h
 rcases y with _ | ⟨c, d⟩
 · cases h
 obtain ⟨_, _, k3, k4⟩ := has_out h hn; rw [(addI_some (pt_ok hm.1 hm.2) (pt_ok n1 n2)).1] at w; obtain ⟨a, b, rfl, w1, w2⟩ := wit_some w; have A := hz.in1; have C := hy.in1; have b1 := add_back hm.1 hm.2 n1 n2; have b2 := add_back2 hm.1 hm.2 n1 n2; have l1 := addp_bd (x := m) (y := n) false (by omega) (by omega) (by omega) (by omega); have l2 := addp_bd (x := m) (y := n) true (by omega) (by omega) (by omega) (by omega)
 have c1 := addp_le2 (x := a) (y := addp false m n) (z := -d) (t := -n) false A.1 ⟨l1.1, l1.2⟩ C.2.neg hn.neg w1 (by omega); have c2 := addp_le2 (x := addp true m n) (y := b) (z := -n) (t := -c) true ⟨l2.1, l2.2⟩ A.2 hn.neg C.1.neg w2 (by omega); have nok := negI_ok hy
 unfold subI
 rw [negI_some hy] at nok ⊢; rw [(addI_some hz nok).1]; exact has_in hm.1 hm.2 (by omega) (by omega)
theorem meet_in {x y : Sp} {m : Int} (hx : SpOk x) (hy : SpOk y) (hm : In m) (h : hasI x m = true) (k : hasI y m = true) : hasI (meetI x y) m = true := by
 rw [has_meet hx hy hm.1 hm.2, h, k]
 rfl
section
variable {q : Bool → Int → Int → Int} {r : Bool → Int → Int} {x y z : Sp} {m n : Int}
theorem plus_keeps (hx : SpOk x) (hy : SpOk y) (hz : SpOk z) (hm : In m) (hn : In n) (h : hasI x m = true) (k : hasI y n = true) (w : witI (addI (some (m, m)) (some (n, n))) z = true) :
   hasI (meetI x (subI z y)) m = true ∧ hasI (meetI y (subI z (meetI x (subI z y)))) n = true := by
 have mf := has_fin hm h; have nf := has_fin hn k; have p := meet_in hx (sub_ok hz hy) hm h (back_sub hz hy mf hn k w); have ok := meetI_ok hx (sub_ok hz hy); rw [add_comm] at w; exact ⟨p, meet_in hy (sub_ok hz ok) hn k (back_sub hz ok nf hm p w)⟩
theorem minus_keeps (hx : SpOk x) (hy : SpOk y) (hz : SpOk z) (hm : In m) (hn : In n) (h : hasI x m = true) (k : hasI y n = true) (w : witI (subI (some (m, m)) (some (n, n))) z = true) :
   hasI (meetI x (addI z y)) m = true ∧ hasI (meetI y (subI (meetI x (addI z y)) z)) n = true := by
 have mf := has_fin hm h; have nf := has_fin hn k
 have w' : witI (addI (some (m, m)) (some (-n, -n))) z = true := by
   have e : negI (some (n, n)) = some (-n, -n) := negI_some (pt_ok nf.1 nf.2)
   unfold subI at w
   rw [e] at w; exact w
 have b := back_sub hz (negI_ok hy) mf hn.neg (has_neg hy hn k) w'
 have e2 : subI z (negI y) = addI z y := by
   unfold subI
   rw [neg_neg hy]
 rw [e2] at b; have p := meet_in hx (add_ok hz hy) hm h b; have ok := meetI_ok hx (add_ok hz hy); rw [add_comm] at w'; have c := back_sub hz ok (by omega : -19342822337206103650074625 < -n ∧ -n < 19342822337206103650074625) hm p w'; have d := has_neg (sub_ok hz ok) hn.neg c; rw [Int.neg_neg, ← sub_neg ok hz] at d; exact ⟨p, meet_in hy (sub_ok ok hz) hn k d⟩
theorem mul_pt (mf : -19342822337206103650074625 < m ∧ m < 19342822337206103650074625) : mulI (some (m, m)) (some (0, 0)) = some (0, 0) := by
 show cor mulp m m 0 0 = _
 unfold cor
 rw [mulp_zero false (.inr rfl), mulp_zero true (.inr rfl)]
 decide
theorem part_keeps (hq : QF q) (hx : SpOk x) (hy : SpOk y) (hz : SpOk z) (hm : In m) (hn : In n) (h : hasI x m = true) (k : hasI y n = true) (w : witI (mulI (some (m, m)) (some (n, n))) z = true) : hasI (partB q x z y) m = true := by
 have mf := has_fin hm h; have nf := has_fin hn k
 unfold partB
 by_cases c : (hasI z 0 && hasI y 0) = true
 · rw [if_pos c]; exact h
 · rw [if_neg c]
   by_cases n0 : n = 0
   · subst n0; rw [mul_pt mf] at w; obtain ⟨a, b, rfl, w1, w2⟩ := wit_some w; exact absurd (by rw [k, has_in (by decide) (by decide) w1 w2]; rfl) c
   · have g := quo_gen hq hy k n0 nf.1 nf.2 mf.1 mf.2; rw [pt_some nf.1 nf.2, pt_some mf.1 mf.2, mul_comm] at g; have v := dvI_wit hq (mul_ok (x := some (m, m)) (y := some (n, n))) hy hz hy w wit_self; exact meet_in hx (dvI_ok hq hz hy) hm h (wit_has v g)
theorem times_keeps (hq : QF q) (hx : SpOk x) (hy : SpOk y) (hz : SpOk z) (hm : In m) (hn : In n) (h : hasI x m = true) (k : hasI y n = true) (w : witI (mulI (some (m, m)) (some (n, n))) z = true) :
   hasI (timesB q z x y).1 m = true ∧ hasI (timesB q z x y).2 n = true := by
 have p := part_keeps hq hx hy hz hm hn h k w; have w2 := w; rw [mul_comm] at w2; have s := part_keeps hq hy (part_ok hq hx hy hz) hz hn hm k p w2; have mf := has_fin hm h; have nf := has_fin hn k
 rcases z with _ | z
 · exfalso
   obtain ⟨D1, D2⟩ := mulp_spec mf.1 mf.2 nf.1 nf.2; have le := dn_le_up D1 D2; have f1 := D1.2.1; have f2 := D2.2.1
   have e : mulI (some (m, m)) (some (n, n)) = some (mulp false m n, mulp true m n) := by
     show cor mulp m m n n = _
     unfold cor
     rw [show min (min (mulp false m n) (mulp false m n)) (min (mulp false m n) (mulp false m n)) = mulp false m n by omega, show max (max (mulp true m n) (mulp true m n)) (max (mulp true m n) (mulp true m n)) = mulp true m n by omega]
     exact mkI_some le (by omega) (by omega)
   rw [e] at w
   cases w
 · exact ⟨p, s⟩
theorem sqr_keeps (hr : RF r) (hx : SpOk x) (hz : SpOk z) (hm : In m) (h : hasI x m = true) (w : witI (sqrI (some (m, m))) z = true) : hasI (sqrB r z x) m = true := by
 have mf := has_fin hm h; have po := pt_ok mf.1 mf.2; have a := wit_trans (abs_root hr po) (root_wit hr (sqr_ok po) hz w); have ro := root_ok hr hz; have o1 := meetI_ok hx ro; have o2 := meetI_ok hx (negI_ok ro)
 rcases Int.lt_or_le m 0 with c | c
 · have e : absI (some (m, m)) = some (-m, -m) := by
     show (if 0 ≤ m then some (m, m) else if m ≤ 0 then negI (some (m, m)) else mkI 0 (max m (-m))) = _
     rw [if_neg (by omega), if_pos (by omega), negI_some po]
   rw [e] at a; have b := wit_has a (has_in (n := -m) (by omega) (by omega) (Int.le_refl _) (Int.le_refl _)); have d := has_neg ro hm.neg b; rw [Int.neg_neg] at d; exact has_hull o1 o2 (.inr (meet_in hx (negI_ok ro) hm h d))
 · have e : absI (some (m, m)) = some (m, m) := by
     show (if 0 ≤ m then some (m, m) else if m ≤ 0 then negI (some (m, m)) else mkI 0 (max m (-m))) = _
     rw [if_pos c]
   rw [e] at a; have b := wit_has a (has_in (n := m) (by omega) (by omega) (Int.le_refl _) (Int.le_refl _)); exact has_hull o1 o2 (.inl (meet_in hx ro hm h b))
end
theorem opl_inj {a b : Int} (h1 : -9223372036854775807 ≤ a) (h2 : a ≤ 9223372036854775807) (k1 : -9223372036854775807 ≤ b) (k2 : b ≤ 9223372036854775807) (h : opl a = opl b) : a = b := by
 have c := opl_cmp (a := a) (b := b) (by omega) (by omega) (by omega) (by omega); rw [h] at c
 rcases cmpI_tri a b with ⟨p, e⟩ | ⟨p, e⟩ | ⟨p, e⟩
 · rw [e] at c
   rcases cmpI_tri (opl b) (opl b) with ⟨p, e⟩ | ⟨p, e⟩ | ⟨p, e⟩ <;> omega
 · exact p
 · rw [e] at c
   rcases cmpI_tri (opl b) (opl b) with ⟨p, e⟩ | ⟨p, e⟩ | ⟨p, e⟩ <;> omega
theorem Zi.ok {a b : Int} (h1 : -9223372036854775807 ≤ a) (h : a ≤ b) (h2 : b ≤ 9223372036854775807) : SpOk (Zi a b) := (Zi.mk h1 h h2).2
theorem Zi.meet {a e : Int} (h1 : -100000000000000000 ≤ a) (h2 : a ≤ 100000000000000000) (k1 : -100000000000000000 ≤ e) (k2 : e ≤ 100000000000000000) : meetI (Zi a a) (Zi e e) = if a = e then Zi a a else none := by
 by_cases c : a = e
 · subst c; rw [if_pos rfl]; exact meet_self (Zi.ok (by omega) (Int.le_refl _) (by omega))
 · rw [if_neg c]
   have n : opl a ≠ opl e := fun h => c (opl_inj (by omega) (by omega) (by omega) (by omega) h)
   show mkI (max (opl a) (opl e)) (min (opl a) (opl e)) = none
   exact mkI_none (by omega)
set_option linter.unusedSimpArgs false
set_option maxRecDepth 100000
theorem StN.mk10 {w : World} {g : Nat} {T : TypeId} {a0 a1 a2 a3 a4 a5 a6 a7 a8 a9 : Value} (X : Bo w g #[a0, a1, a2, a3, a4, a5, a6, a7, a8, a9] T) (v0 v1 v2 v3 v4 v5 v6 v7 v8 v9 : Value) :
   StN w ((((((((((w.setCell ⟨g, 0, none⟩ v0).setCell ⟨g, 1, none⟩ v1).setCell ⟨g, 2, none⟩ v2).setCell ⟨g, 3, none⟩ v3).setCell ⟨g, 4, none⟩ v4).setCell ⟨g, 5, none⟩ v5).setCell ⟨g, 6, none⟩ v6).setCell ⟨g, 7, none⟩ v7).setCell ⟨g, 8, none⟩ v8).setCell ⟨g, 9, none⟩ v9) g #[a0, a1, a2, a3, a4, a5, a6, a7, a8, a9] #[v0, v1, v2, v3, v4, v5, v6, v7, v8, v9] T := by
 have t0 : StN w (w.setCell ⟨g, 0, none⟩ v0) g #[a0, a1, a2, a3, a4, a5, a6, a7, a8, a9] #[v0, a1, a2, a3, a4, a5, a6, a7, a8, a9] T := StN.at4 X 0 v0
 have s0 := t0
 have t1 : StN (w.setCell ⟨g, 0, none⟩ v0) ((w.setCell ⟨g, 0, none⟩ v0).setCell ⟨g, 1, none⟩ v1) g #[v0, a1, a2, a3, a4, a5, a6, a7, a8, a9] #[v0, v1, a2, a3, a4, a5, a6, a7, a8, a9] T := StN.at4 s0.box 1 v1
 have s1 := s0.trans t1
 have t2 : StN ((w.setCell ⟨g, 0, none⟩ v0).setCell ⟨g, 1, none⟩ v1) (((w.setCell ⟨g, 0, none⟩ v0).setCell ⟨g, 1, none⟩ v1).setCell ⟨g, 2, none⟩ v2) g #[v0, v1, a2, a3, a4, a5, a6, a7, a8, a9] #[v0, v1, v2, a3, a4, a5, a6, a7, a8, a9] T := StN.at4 s1.box 2 v2
 have s2 := s1.trans t2
 have t3 : StN (((w.setCell ⟨g, 0, none⟩ v0).setCell ⟨g, 1, none⟩ v1).setCell ⟨g, 2, none⟩ v2) ((((w.setCell ⟨g, 0, none⟩ v0).setCell ⟨g, 1, none⟩ v1).setCell ⟨g, 2, none⟩ v2).setCell ⟨g, 3, none⟩ v3) g #[v0, v1, v2, a3, a4, a5, a6, a7, a8, a9] #[v0, v1, v2, v3, a4, a5, a6, a7, a8, a9] T := StN.at4 s2.box 3 v3
 have s3 := s2.trans t3
 have t4 : StN ((((w.setCell ⟨g, 0, none⟩ v0).setCell ⟨g, 1, none⟩ v1).setCell ⟨g, 2, none⟩ v2).setCell ⟨g, 3, none⟩ v3) (((((w.setCell ⟨g, 0, none⟩ v0).setCell ⟨g, 1, none⟩ v1).setCell ⟨g, 2, none⟩ v2).setCell ⟨g, 3, none⟩ v3).setCell ⟨g, 4, none⟩ v4) g #[v0, v1, v2, v3, a4, a5, a6, a7, a8, a9] #[v0, v1, v2, v3, v4, a5, a6, a7, a8, a9] T := StN.at4 s3.box 4 v4
 have s4 := s3.trans t4
 have t5 : StN (((((w.setCell ⟨g, 0, none⟩ v0).setCell ⟨g, 1, none⟩ v1).setCell ⟨g, 2, none⟩ v2).setCell ⟨g, 3, none⟩ v3).setCell ⟨g, 4, none⟩ v4) ((((((w.setCell ⟨g, 0, none⟩ v0).setCell ⟨g, 1, none⟩ v1).setCell ⟨g, 2, none⟩ v2).setCell ⟨g, 3, none⟩ v3).setCell ⟨g, 4, none⟩ v4).setCell ⟨g, 5, none⟩ v5) g #[v0, v1, v2, v3, v4, a5, a6, a7, a8, a9] #[v0, v1, v2, v3, v4, v5, a6, a7, a8, a9] T := StN.at4 s4.box 5 v5
 have s5 := s4.trans t5
 have t6 : StN ((((((w.setCell ⟨g, 0, none⟩ v0).setCell ⟨g, 1, none⟩ v1).setCell ⟨g, 2, none⟩ v2).setCell ⟨g, 3, none⟩ v3).setCell ⟨g, 4, none⟩ v4).setCell ⟨g, 5, none⟩ v5) (((((((w.setCell ⟨g, 0, none⟩ v0).setCell ⟨g, 1, none⟩ v1).setCell ⟨g, 2, none⟩ v2).setCell ⟨g, 3, none⟩ v3).setCell ⟨g, 4, none⟩ v4).setCell ⟨g, 5, none⟩ v5).setCell ⟨g, 6, none⟩ v6) g #[v0, v1, v2, v3, v4, v5, a6, a7, a8, a9] #[v0, v1, v2, v3, v4, v5, v6, a7, a8, a9] T := StN.at4 s5.box 6 v6
 have s6 := s5.trans t6
 have t7 : StN (((((((w.setCell ⟨g, 0, none⟩ v0).setCell ⟨g, 1, none⟩ v1).setCell ⟨g, 2, none⟩ v2).setCell ⟨g, 3, none⟩ v3).setCell ⟨g, 4, none⟩ v4).setCell ⟨g, 5, none⟩ v5).setCell ⟨g, 6, none⟩ v6) ((((((((w.setCell ⟨g, 0, none⟩ v0).setCell ⟨g, 1, none⟩ v1).setCell ⟨g, 2, none⟩ v2).setCell ⟨g, 3, none⟩ v3).setCell ⟨g, 4, none⟩ v4).setCell ⟨g, 5, none⟩ v5).setCell ⟨g, 6, none⟩ v6).setCell ⟨g, 7, none⟩ v7) g #[v0, v1, v2, v3, v4, v5, v6, a7, a8, a9] #[v0, v1, v2, v3, v4, v5, v6, v7, a8, a9] T := StN.at4 s6.box 7 v7
 have s7 := s6.trans t7
 have t8 : StN ((((((((w.setCell ⟨g, 0, none⟩ v0).setCell ⟨g, 1, none⟩ v1).setCell ⟨g, 2, none⟩ v2).setCell ⟨g, 3, none⟩ v3).setCell ⟨g, 4, none⟩ v4).setCell ⟨g, 5, none⟩ v5).setCell ⟨g, 6, none⟩ v6).setCell ⟨g, 7, none⟩ v7) (((((((((w.setCell ⟨g, 0, none⟩ v0).setCell ⟨g, 1, none⟩ v1).setCell ⟨g, 2, none⟩ v2).setCell ⟨g, 3, none⟩ v3).setCell ⟨g, 4, none⟩ v4).setCell ⟨g, 5, none⟩ v5).setCell ⟨g, 6, none⟩ v6).setCell ⟨g, 7, none⟩ v7).setCell ⟨g, 8, none⟩ v8) g #[v0, v1, v2, v3, v4, v5, v6, v7, a8, a9] #[v0, v1, v2, v3, v4, v5, v6, v7, v8, a9] T := StN.at4 s7.box 8 v8
 have s8 := s7.trans t8
 have t9 : StN (((((((((w.setCell ⟨g, 0, none⟩ v0).setCell ⟨g, 1, none⟩ v1).setCell ⟨g, 2, none⟩ v2).setCell ⟨g, 3, none⟩ v3).setCell ⟨g, 4, none⟩ v4).setCell ⟨g, 5, none⟩ v5).setCell ⟨g, 6, none⟩ v6).setCell ⟨g, 7, none⟩ v7).setCell ⟨g, 8, none⟩ v8) ((((((((((w.setCell ⟨g, 0, none⟩ v0).setCell ⟨g, 1, none⟩ v1).setCell ⟨g, 2, none⟩ v2).setCell ⟨g, 3, none⟩ v3).setCell ⟨g, 4, none⟩ v4).setCell ⟨g, 5, none⟩ v5).setCell ⟨g, 6, none⟩ v6).setCell ⟨g, 7, none⟩ v7).setCell ⟨g, 8, none⟩ v8).setCell ⟨g, 9, none⟩ v9) g #[v0, v1, v2, v3, v4, v5, v6, v7, v8, a9] #[v0, v1, v2, v3, v4, v5, v6, v7, v8, v9] T := StN.at4 s8.box 9 v9
 have s9 := s8.trans t9; exact s9
theorem Tab.off {w w' : World} {g : Nat} {old new : Array Value} {R : TypeId} (h : Tab w) (X : Bo w g old R) (hn : old.all no8 = true) (O : Jo.Off g new R w w') : Tab w' := h.keep (O.block _ h.lt (fun e => by
 have h0 := h 0 (by decide); subst e; rw [X.cell] at h0; rw [Array.all_eq_true] at hn; obtain ⟨hlt, he⟩ := Array.getElem?_eq_some_iff.1 h0
 have := hn 0 hlt
 rw [he] at this
 cases this))
theorem meet1 {x : Sp} (hx : SpOk x) : meetL [x] = x := meet_all hx
theorem meetTwo {x y a : Sp} (hx : SpOk x) (h : meetI x y = a) : meetL [x, y] = a := by
 show meetI (meetI allI x) y = a
 rw [meet_all hx]; exact h
theorem part_nn {q : Bool → Int → Int → Int} {x y : Sp} : partB q x none y = none := by
 unfold partB
 rw [if_neg (by show ¬ ((false && hasI y 0) = true); rw [Bool.false_and]; exact Bool.false_ne_true), div_nn, meetI_none]
theorem times_eq {q : Bool → Int → Int → Int} {z x y : Sp} : timesB q z x y = (partB q x z y, partB q y z (partB q x z y)) := by
 rcases z with _ | p
 · rw [part_nn, part_nn]
   rfl
 · rfl
theorem over_eq {q : Bool → Int → Int → Int} {z x y : Sp} : overB q z x y = (meetI x (mulI z (zout y)), partB q (zout y) (meetI x (mulI z (zout y))) z) := by
 rcases z with _ | p
 · have e : mulI none (zout y) = none := rfl
   rw [e, meetI_none, part_nn]
   rfl
 · rfl
def PO (w : World) (x : Sp) (b : Bool) (e : Ending) (w' : World) : Prop := ∃ e0 K s M E K' s' M' E', e = .returned (.agg #[.bool e0, .int .i64 K, .bool s, .int .u64 M, .int .i64 E, .int .i64 K', .bool s', .int .u64 M', .int .i64 E', .bool b]) ∧ Ci e0 K s M E K' s' M' E' x ∧ Below w.heap.size w w'
def Jo.Fact.op (x : Sp) (b : Bool) : Jo.Fact := ⟨fun v w => ∃ e0 K s M E K' s' M' E', v = .agg #[.bool e0, .int .i64 K, .bool s, .int .u64 M, .int .i64 E, .int .i64 K', .bool s', .int .u64 M', .int .i64 E', .bool b] ∧ Ci e0 K s M E K' s' M' E' x, fun v w w' h b => h⟩
def Jo.LFact.op {g : Nat} {new : Array Value} {R : TypeId} (x : Sp) (b : Bool) : Jo.LFact g new R := ⟨fun v w => ∃ e0 K s M E K' s' M' E', v = .agg #[.bool e0, .int .i64 K, .bool s, .int .u64 M, .int .i64 E, .int .i64 K', .bool s', .int .u64 M', .int .i64 E', .bool b] ∧ Ci e0 K s M E K' s' M' E' x, fun v w w' h b => h⟩
def Jo.LFact.iv {g : Nat} {new : Array Value} {R : TypeId} (x : Sp) : Jo.LFact g new R := ⟨fun v w => ∃ e0 K s M E K' s' M' E', v = .agg #[.bool e0, .int .i64 K, .bool s, .int .u64 M, .int .i64 E, .int .i64 K', .bool s', .int .u64 M', .int .i64 E'] ∧ Ci e0 K s M E K' s' M' E' x, fun v w w' h b => h⟩
theorem nOf0E {w : World} : Calls Tryz.prog 34 #[.int .i64 0] w (fun e w' => e = .returned (.agg #[.int .i64 0, .bool false, .int .u64 0, .int .i64 0]) ∧ Below w.heap.size w w') := by
 refine (nOf (r := 0) _ (by decide) (by decide) rfl).mono ?_; rintro ee w2 ⟨K1, s1, M1, E1, rfl, q1, B⟩; obtain ⟨rfl, rfl, rfl, rfl⟩ := q1.uniq Fq.nought; exact ⟨rfl, B⟩
theorem kOp {w : World} {e : Bool} {D M E D' M' E' : Int} {s s' : Bool} {x : Sp} {b : Bool} (hM : LQ M) (hM' : LQ M') (hx : rkI e D s M E D' s' M' E' = x) (hb : hasI x 0 = b) : Calls Tryz.prog 41 #[VI e D s M E D' s' M' E'] w (PO w x b) := by
 delta VI
 have hml : meetL [x] = x := meet1 (by rw [← hx]; exact rkI_ok hM hM')
 have HX := Lib.hid hx; have HBB := Lib.hid hb; have HML := Lib.hid hml; clear hx hb hml
 go_enter Tryz.func41, Tryz.ntmps41
 go_upto_region 1 with (fail)
 generalize hW1 : (w.alloc _).alloc _ = w1 at *; obtain ⟨X1, XR, HB⟩ := Bo.en2 hW1; clear hW1; have xX1 := X1.cell
 go_wp2_with fail
 refine (kvMeet (Il8.lit1 rfl ⟨hM, hM', HX.out⟩) HML.out).mono ?_; rintro ee w2 ⟨e1, K1, s1, M1, E1, K1b, s1b, M1b, E1b, rfl, v1, B⟩; replace B := bt (bel1 _ (.cells #[.bool e, .int .i64 D, .bool s, .int .u64 M, .int .i64 E, .int .i64 D', .bool s', .int .u64 M', .int .i64 E'] 26)) B; clear xX1; replace X1 := X1.below B; replace XR := XR.below B; replace HB := Hqb HB B
 clear B; have xX1 := X1.cell; have zX10 := X1.frozen
 go_upto_region 2 with (fail)
 clear xX1 zX10; generalize hS : ((((((((w2.setCell _ _).setCell _ _).setCell _ _).setCell _ _).setCell _ _).setCell _ _).setCell _ _).setCell _ _).setCell _ _ = w3 at *; have SX := StN.of9 X1 hS; replace XR := XR.stn SX (by omega); replace HB := Hqs HB SX (by omega); replace X1 := SX.box; clear SX hS; refine Jo.rk [0, 1, 2, 3, 4] [some 6, some 7, some 8, some 9, some 10, none] [[], [], [], [1, 2], [0, 3], []] 6 1 [Jo.q9 e1 K1 s1 M1 E1 K1b s1b M1b E1b, Jo.q9 e1 K1 s1 M1 E1 K1b s1b M1b E1b, Jo.q4 0 false 0 0, Jo.qb b, Jo.Fact.eq (.agg #[.bool e1, .int .i64 K1, .bool s1, .int .u64 M1, .int .i64 E1, .int .i64 K1b, .bool s1b, .int .u64 M1b, .int .i64 E1b, .bool b]), Jo.Fact.any] (by kernel_rfl) (by kernel_rfl) (by decide) rfl ?_ ?_
 · iterate 2 (refine Jo.jm rfl ?_ ?_; rotate_left)
   refine Jo.jm rfl ?_ ?_
   · rintro wj hJ K hK; simp only [Jo.z] at hK ⊢; go_simp; refine (nOf0E).mono ?_; rintro ee wk ⟨rfl, B⟩; exact hK.out _ _ rfl B
   refine Jo.jm rfl ?_ ?_
   · rintro wj hJ _ rfl _ rfl K hK; simp only [Jo.z] at hK ⊢; go_simp; refine (kvHas v1.top.1 v1.top.2 (by decide) v1.rk Fq.nought.rk HBB.out).mono ?_; rintro ee wk ⟨rfl, B⟩; exact hK.out _ _ rfl B
   refine Jo.jm rfl ?_ ?_; rotate_left
   exact Jo.Steps.nil
   all_goals (rintro wj hJ; (repeat rintro _ rfl); intro K hK; simp only [Jo.z] at hK ⊢; have xX1 := (X1.below hJ).cell; go_simp; exact hK.out _ _ rfl (br _ _))
 rintro w4 hJ _ rfl _ rfl _ rfl _ rfl _ rfl -; simp only [Jo.z]; replace X1 := X1.below hJ; replace XR := XR.below hJ; replace HB := Hqb HB hJ; have xXR := XR.cell; have zXR0 := XR.frozen
 refine Jo.jnext (i := 5) (o := ⟨none, _, _, _, _, _⟩) (by kernel_rfl) rfl (fun K hK => ?_)
 go_simp; refine hK.out _ _ ?_; clear hK K xXR zXR0; have SX := StN.mk10 XR (.bool e1) (.int .i64 K1) (.bool s1) (.int .u64 M1) (.int .i64 E1) (.int .i64 K1b) (.bool s1b) (.int .u64 M1b) (.int .i64 E1b) (.bool b); refine Jo.jdone (by kernel_rfl) ?_; go_wp2; exact bodyPost_ret (by simp [results, Tryz.results41, go_sem, SX.box.cell]) rfl ⟨_, _, _, _, _, _, _, _, _, rfl, v1, (SX.below HB.out (by omega))⟩
theorem kPart {w : World} {e1 e2 e3 b1 b2 b3 b : Bool} {K1 M1 E1 K1b M1b E1b K2 M2 E2 K2b M2b E2b K3 M3 E3 K3b M3b E3b : Int} {s1 s1b s2 s2b s3 s3b : Bool} {x z y a : Sp} {q : Bool → Int → Int → Int} (hT : Tab w) (hq : QF q) (v1 : Ci e1 K1 s1 M1 E1 K1b s1b M1b E1b x) (v2 : Ci e2 K2 s2 M2 E2 K2b s2b M2b E2b z) (v3 : Ci e3 K3 s3 M3 E3 K3b s3b M3b E3b y) (h1 : hasI x 0 = b1) (h2 : hasI z 0 = b2) (h3 : hasI y 0 = b3) (ha : partB q x z y = a) (hb : hasI a 0 = b) :
   Calls Tryz.prog 42 #[.agg #[.bool e1, .int .i64 K1, .bool s1, .int .u64 M1, .int .i64 E1, .int .i64 K1b, .bool s1b, .int .u64 M1b, .int .i64 E1b, .bool b1], .agg #[.bool e2, .int .i64 K2, .bool s2, .int .u64 M2, .int .i64 E2, .int .i64 K2b, .bool s2b, .int .u64 M2b, .int .i64 E2b, .bool b2], .agg #[.bool e3, .int .i64 K3, .bool s3, .int .u64 M3, .int .i64 E3, .int .i64 K3b, .bool s3b, .int .u64 M3b, .int .i64 E3b, .bool b3]] w (PO w a b) := by
 unfold partB at ha
 rw [h2, h3] at ha; have HBB := Lib.hid hb; have HQ := Lib.hid hq; have H1 := Lib.hid h1; clear hb hq h1; clear h2 h3
 go_enter Tryz.func42, Tryz.ntmps42
 go_upto_region 1 with (fail)
 generalize hW1 : (((w.alloc _).alloc _).alloc _).alloc _ = w1 at *; obtain ⟨X3, X4, X5, XR, HB⟩ := Bo.en4 hW1; replace hT := hT.below HB.out; clear hW1
 cases b2
 · obtain ⟨d, hd0⟩ : ∃ d, divI q z y = d := ⟨_, rfl⟩
   have ha2 : meetL [x, d] = a := meetTwo v1.ok (by rw [← hd0]; exact ha)
   have HD := Lib.hid hd0; have HA := Lib.hid ha2; clear ha hd0 ha2; have xX4 := X4.cell; have xX5 := X5.cell
   go_upto_region 3 with (fail)
   clear xX4 xX5; refine Jo.rk [0, 1, 2, 3, 4, 5, 6, 7, 8, 9] [some 14, some 15, some 16, some 17, some 18, some 19, some 20, some 21, some 22, some 23, none] [[], [0], [], [2], [], [4], [3, 5], [1, 6], [7], [8], []] 11 1 [Jo.qp w.heap.size 0, Jo.q9 e1 K1 s1 M1 E1 K1b s1b M1b E1b, Jo.qp (w.heap.size + 1) 0, Jo.q9 e2 K2 s2 M2 E2 K2b s2b M2b E2b, Jo.qp (w.heap.size + 1 + 1) 0, Jo.q9 e3 K3 s3 M3 E3 K3b s3b M3b E3b, Jo.Fact.iv d, Jo.Fact.il8 2 [x, d], Jo.Fact.iv a, Jo.Fact.op a b, Jo.Fact.any] (by kernel_rfl) (by kernel_rfl) (by decide) rfl ?_ ?_
   · iterate 6 (refine Jo.jm rfl ?_ ?_; rotate_left)
     refine Jo.jm rfl ?_ ?_
     · rintro wj hJ _ rfl _ rfl K hK; simp only [Jo.z] at hK ⊢; go_simp; refine (fkDiv (hT.below hJ) HQ.out v2.top.1 v2.top.2 v3.top.1 v3.top.2 v2.rk v3.rk HD.out).mono ?_; rintro ee wk ⟨e21, K21, s21, M21, E21, K21b, s21b, M21b, E21b, rfl, v21, B⟩; exact hK.out _ _ ⟨e21, K21, s21, M21, E21, K21b, s21b, M21b, E21b, rfl, v21⟩ B
     refine Jo.jm rfl ?_ ?_
     · rintro wj hJ _ rfl _ ⟨e21, K21, s21, M21, E21, K21b, s21b, M21b, E21b, rfl, v21⟩ K hK; simp only [Jo.z] at hK ⊢; go_simp; exact hK.out _ _ ⟨_, 2, rfl, Il8.lit2 rfl v1.rw v21.rw⟩ (bel1 _ _)
     refine Jo.jm rfl ?_ ?_
     · rintro wj hJ _ ⟨A7, c7, rfl, h7⟩ K hK; simp only [Jo.z] at hK ⊢; go_simp; refine (kvMeet h7 HA.out).mono ?_; rintro ee wk ⟨e22, K22, s22, M22, E22, K22b, s22b, M22b, E22b, rfl, v22, B⟩; exact hK.out _ _ ⟨e22, K22, s22, M22, E22, K22b, s22b, M22b, E22b, rfl, v22⟩ B
     refine Jo.jm rfl ?_ ?_
     · rintro wj hJ _ ⟨e22, K22, s22, M22, E22, K22b, s22b, M22b, E22b, rfl, v22⟩ K hK; simp only [Jo.z] at hK ⊢; go_simp; refine (kOp v22.top.1 v22.top.2 v22.rk HBB.out).mono ?_; rintro ee wk ⟨e23, K23, s23, M23, E23, K23b, s23b, M23b, E23b, rfl, v23, B⟩; exact hK.out _ _ ⟨e23, K23, s23, M23, E23, K23b, s23b, M23b, E23b, rfl, v23⟩ B
     exact Jo.Steps.nil
     all_goals (rintro wj hJ; (repeat rintro _ rfl); intro K hK; simp only [Jo.z] at hK ⊢; have xX3 := (X3.below hJ).cell; have xX4 := (X4.below hJ).cell; have xX5 := (X5.below hJ).cell; go_simp; exact hK.out _ _ rfl (br _ _))
   rintro w2 hJ _ _ _ rfl _ _ _ rfl _ _ _ rfl _ ⟨e21, K21, s21, M21, E21, K21b, s21b, M21b, E21b, rfl, v21⟩ _ ⟨_, _, rfl, _⟩ _ ⟨e22, K22, s22, M22, E22, K22b, s22b, M22b, E22b, rfl, v22⟩ _ ⟨e23, K23, s23, M23, E23, K23b, s23b, M23b, E23b, rfl, v23⟩ -; simp only [Jo.z]; replace X3 := X3.below hJ; replace X4 := X4.below hJ; replace X5 := X5.below hJ; replace XR := XR.below hJ; replace hT := hT.below hJ
   replace HB := Hqb HB hJ; clear hT; have xXR := XR.cell; have zXR0 := XR.frozen
   refine Jo.jnext (i := 10) (o := ⟨none, _, _, _, _, _⟩) (by kernel_rfl) rfl (fun K hK => ?_)
   go_simp; refine hK.out _ _ ?_; clear hK K xXR zXR0; have SX := StN.mk10 XR (.bool e23) (.int .i64 K23) (.bool s23) (.int .u64 M23) (.int .i64 E23) (.int .i64 K23b) (.bool s23b) (.int .u64 M23b) (.int .i64 E23b) (.bool b); refine Jo.jdone (by kernel_rfl) ?_; go_wp2; exact bodyPost_ret (by simp [results, Tryz.results42, go_sem, SX.box.cell]) rfl ⟨_, _, _, _, _, _, _, _, _, rfl, v23, (SX.below HB.out (by omega))⟩
 · cases b3
   · obtain ⟨d, hd0⟩ : ∃ d, divI q z y = d := ⟨_, rfl⟩
     have ha2 : meetL [x, d] = a := meetTwo v1.ok (by rw [← hd0]; exact ha)
     have HD := Lib.hid hd0; have HA := Lib.hid ha2; clear ha hd0 ha2; have xX4 := X4.cell; have xX5 := X5.cell
     go_upto_region 3 with (fail)
     clear xX4 xX5; refine Jo.rk [0, 1, 2, 3, 4, 5, 6, 7, 8, 9] [some 14, some 15, some 16, some 17, some 18, some 19, some 20, some 21, some 22, some 23, none] [[], [0], [], [2], [], [4], [3, 5], [1, 6], [7], [8], []] 11 1 [Jo.qp w.heap.size 0, Jo.q9 e1 K1 s1 M1 E1 K1b s1b M1b E1b, Jo.qp (w.heap.size + 1) 0, Jo.q9 e2 K2 s2 M2 E2 K2b s2b M2b E2b, Jo.qp (w.heap.size + 1 + 1) 0, Jo.q9 e3 K3 s3 M3 E3 K3b s3b M3b E3b, Jo.Fact.iv d, Jo.Fact.il8 2 [x, d], Jo.Fact.iv a, Jo.Fact.op a b, Jo.Fact.any] (by kernel_rfl) (by kernel_rfl) (by decide) rfl ?_ ?_
     · iterate 6 (refine Jo.jm rfl ?_ ?_; rotate_left)
       refine Jo.jm rfl ?_ ?_
       · rintro wj hJ _ rfl _ rfl K hK; simp only [Jo.z] at hK ⊢; go_simp; refine (fkDiv (hT.below hJ) HQ.out v2.top.1 v2.top.2 v3.top.1 v3.top.2 v2.rk v3.rk HD.out).mono ?_; rintro ee wk ⟨e21, K21, s21, M21, E21, K21b, s21b, M21b, E21b, rfl, v21, B⟩; exact hK.out _ _ ⟨e21, K21, s21, M21, E21, K21b, s21b, M21b, E21b, rfl, v21⟩ B
       refine Jo.jm rfl ?_ ?_
       · rintro wj hJ _ rfl _ ⟨e21, K21, s21, M21, E21, K21b, s21b, M21b, E21b, rfl, v21⟩ K hK; simp only [Jo.z] at hK ⊢; go_simp; exact hK.out _ _ ⟨_, 2, rfl, Il8.lit2 rfl v1.rw v21.rw⟩ (bel1 _ _)
       refine Jo.jm rfl ?_ ?_
       · rintro wj hJ _ ⟨A7, c7, rfl, h7⟩ K hK; simp only [Jo.z] at hK ⊢; go_simp; refine (kvMeet h7 HA.out).mono ?_; rintro ee wk ⟨e22, K22, s22, M22, E22, K22b, s22b, M22b, E22b, rfl, v22, B⟩; exact hK.out _ _ ⟨e22, K22, s22, M22, E22, K22b, s22b, M22b, E22b, rfl, v22⟩ B
       refine Jo.jm rfl ?_ ?_
       · rintro wj hJ _ ⟨e22, K22, s22, M22, E22, K22b, s22b, M22b, E22b, rfl, v22⟩ K hK; simp only [Jo.z] at hK ⊢; go_simp; refine (kOp v22.top.1 v22.top.2 v22.rk HBB.out).mono ?_; rintro ee wk ⟨e23, K23, s23, M23, E23, K23b, s23b, M23b, E23b, rfl, v23, B⟩; exact hK.out _ _ ⟨e23, K23, s23, M23, E23, K23b, s23b, M23b, E23b, rfl, v23⟩ B
       exact Jo.Steps.nil
       all_goals (rintro wj hJ; (repeat rintro _ rfl); intro K hK; simp only [Jo.z] at hK ⊢; have xX3 := (X3.below hJ).cell; have xX4 := (X4.below hJ).cell; have xX5 := (X5.below hJ).cell; go_simp; exact hK.out _ _ rfl (br _ _))
     rintro w2 hJ _ _ _ rfl _ _ _ rfl _ _ _ rfl _ ⟨e21, K21, s21, M21, E21, K21b, s21b, M21b, E21b, rfl, v21⟩ _ ⟨_, _, rfl, _⟩ _ ⟨e22, K22, s22, M22, E22, K22b, s22b, M22b, E22b, rfl, v22⟩ _ ⟨e23, K23, s23, M23, E23, K23b, s23b, M23b, E23b, rfl, v23⟩ -; simp only [Jo.z]; replace X3 := X3.below hJ; replace X4 := X4.below hJ; replace X5 := X5.below hJ; replace XR := XR.below hJ; replace hT := hT.below hJ
     replace HB := Hqb HB hJ; clear hT; have xXR := XR.cell; have zXR0 := XR.frozen
     refine Jo.jnext (i := 10) (o := ⟨none, _, _, _, _, _⟩) (by kernel_rfl) rfl (fun K hK => ?_)
     go_simp; refine hK.out _ _ ?_; clear hK K xXR zXR0; have SX := StN.mk10 XR (.bool e23) (.int .i64 K23) (.bool s23) (.int .u64 M23) (.int .i64 E23) (.int .i64 K23b) (.bool s23b) (.int .u64 M23b) (.int .i64 E23b) (.bool b); refine Jo.jdone (by kernel_rfl) ?_; go_wp2; exact bodyPost_ret (by simp [results, Tryz.results42, go_sem, SX.box.cell]) rfl ⟨_, _, _, _, _, _, _, _, _, rfl, v23, (SX.below HB.out (by omega))⟩
   · obtain rfl : x = a := ha
     obtain rfl : b1 = b := H1.out.symm.trans HBB.out
     clear hT; have xXR := XR.cell; have zXR0 := XR.frozen; have xX3 := X3.cell; have xX4 := X4.cell; have xX5 := X5.cell; go_wp2; clear xXR zXR0 xX3 xX4 xX5
     have SX := StN.mk10 XR (.bool e1) (.int .i64 K1) (.bool s1) (.int .u64 M1) (.int .i64 E1) (.int .i64 K1b) (.bool s1b) (.int .u64 M1b) (.int .i64 E1b) (.bool b1); exact bodyPost_ret (by simp [results, Tryz.results42, go_sem, SX.box.cell]) rfl ⟨_, _, _, _, _, _, _, _, _, rfl, v1, (SX.below HB.out (by omega))⟩
theorem StN.of10 {w w1 : World} {g : Nat} {T : TypeId} {a0 a1 a2 a3 a4 a5 a6 a7 a8 a9 v0 v1 v2 v3 v4 v5 v6 v7 v8 v9 : Value} (X : Bo w g #[a0, a1, a2, a3, a4, a5, a6, a7, a8, a9] T) (h : ((((((((((w.setCell ⟨g, 0, none⟩ v0).setCell ⟨g, 1, none⟩ v1).setCell ⟨g, 2, none⟩ v2).setCell ⟨g, 3, none⟩ v3).setCell ⟨g, 4, none⟩ v4).setCell ⟨g, 5, none⟩ v5).setCell ⟨g, 6, none⟩ v6).setCell ⟨g, 7, none⟩ v7).setCell ⟨g, 8, none⟩ v8).setCell ⟨g, 9, none⟩ v9) = w1) : StN w w1 g #[a0, a1, a2, a3, a4, a5, a6, a7, a8, a9] #[v0, v1, v2, v3, v4, v5, v6, v7, v8, v9] T := h ▸ StN.mk10 X v0 v1 v2 v3 v4 v5 v6 v7 v8 v9
def sqrM (x : Sp) : Sp := match x with
 | none => none
 | some (a, b) => mkI (mulp false a a) (mulp true b b)
theorem sqr_abs (x : Sp) : sqrI x = sqrM (absI x) := by
 unfold sqrI sqrM
 rfl
def rootM (r : Bool → Int → Int) (x : Sp) : Sp := match x with
 | none => none
 | some (a, b) => mkI (r false a) (r true b)
theorem root_meet (r : Bool → Int → Int) (x : Sp) : rootI r x = rootM r (meetI x (some (0, 19342822337206103650074625))) := by
 unfold rootI rootM
 rfl
theorem meet_nn {x : Sp} {a b : Int} (h : meetI x (some (0, 19342822337206103650074625)) = some (a, b)) : 0 ≤ a ∧ a ≤ b := by
 rcases x with _ | ⟨c, d⟩
 · cases h
 · have h2 : mkI (max c 0) (min d 19342822337206103650074625) = some (a, b) := h
   unfold mkI at h2
   split at h2
   · cases h2
     omega
   · cases h2
end Go.Proofs.YtnbliijpjcmbjaaGreatDoor
