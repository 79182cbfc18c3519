/-
  Contracts and words that the statement's proof rests on, several texts in one: Fb, Fh, Fs, Ft, Ig, Fc, Fi.
-/
import Derived.Below
import Derived.BigQuiet
import Derived.Carry
import Derived.Deep.DeepCutAuto
import Derived.Deep.Draws
import Derived.Deep.MidRow
import Derived.Deep.QuietTactic
import Derived.Deep.RegionHeld3
import Derived.Deep.RegionWith
import Derived.IntWalk
import Derived.Laws.Bits64b
import Derived.Laws.CopyOwn
import Derived.Laws.Externs
import Derived.Laws.MakeOwn
import Derived.Laws.OwnMore
import Derived.Laws.Rows
import Derived.Lib.BitFns
import Derived.Lib.Hide
import Derived.Lib.Mul64
import Derived.Lib.TrailingZeros
import Derived.Maps.AppendAt
import Derived.StillTailTactics
import Derived.Test.YteejbcimmmcnlaaGreatDoorRows
import Derived.WalkKit
import Derived.WalkLawsBesides
import Derived.WalkSpells
import Derived.Test.YteejbcimmmcnlaaGreatDoorYCaj
import Derived.Test.YteejbcimmmcnlaaGreatDoorYCam
import Derived.Test.YteejbcimmmcnlaaGreatDoorYCan
import Derived.Test.YteejbcimmmcnlaaGreatDoorYCaq
import Derived.Test.YteejbcimmmcnlaaGreatDoorYCba
import Derived.Test.YteejbcimmmcnlaaGreatDoorYCbf
import Derived.Test.YteejbcimmmcnlaaGreatDoorYCbj
import Derived.Test.YteejbcimmmcnlaaGreatDoorYCbk
/-
  What quotients make of all numbers of intervals, by the places of their ends. Plain arithmetic; no Go text.
-/
namespace Go.Proofs.YteejbcimmmcnlaaGreatDoor
open Go.RowKit
set_option linter.unusedVariables false

/-- The quotients' places as a function. -/
def QF (q : Bool → Int → Int → Int) : Prop := ∀ up x y, Qt up x y (q up x y)
theorem qf_ex : ∃ q, QF q := by
  have h : ∀ p : Bool × Int × Int, ∃ r, Qt p.1 p.2.1 p.2.2 r := fun p => qt_ex p.1 p.2.1 p.2.2
  exact ⟨fun up x y => Classical.choose (h (up, x, y)), fun up x y => Classical.choose_spec (h (up, x, y))⟩
theorem QF.in {q : Bool → Int → Int → Int} (hq : QF q) (up : Bool) (x y : Int) : In (q up x y) := (hq up x y).bd
/-- The quotient by one above nought, as a bound. -/
theorem qt_sid {up : Bool} {x y r : Int} (h : Qt up x y r) (hy : 0 < y) (hx : infp x = false) (hi : infp y = false) : Sid up (vr x * 2 ^ KK) (vr y) r := by
  by_cases h0 : x = 0
  · have : r = 0 := (qt_zero (by omega) (.inl h0)).1 h
    subst this; subst h0; refine sid_exact (vr_pos hy) (by decide) (by decide) ?_
    rw [show vr 0 = 0 from rfl, Int.zero_mul, Int.zero_mul]
  · have := (qt_fin (by omega) (by simp [h0, hi]) hx).1 h
    rw [decide_eq_false (show ¬ y < 0 by omega), wsg_f, wsg_f] at this
    exact this
def divI (q : Bool → Int → Int → Int) (x y : Sp) : Sp := match x, y with
  | some (a, b), some (c, d) =>
    if c = 0 ∧ d = 0 then none
    else if ¬ (c ≤ 0 ∧ 0 ≤ d) then cor q a b c d
    else if (a ≤ 0 ∧ 0 ≤ b) ∨ (c < 0 ∧ 0 < d) then allI
    else if (0 < (if a < 0 then b else a)) ↔ (0 < (if d = 0 then c else d)) then mkI (q false (if a < 0 then b else a) (if d = 0 then c else d)) 19342822337206103650074625
    else mkI (-19342822337206103650074625) (q true (if a < 0 then b else a) (if d = 0 then c else d))
  | _, _ => none
section
variable {q : Bool → Int → Int → Int}
theorem dvI_zero {a b c d : Int} (h : c = 0 ∧ d = 0) : divI q (some (a, b)) (some (c, d)) = none := if_pos h
theorem dvI_cor {a b c d : Int} (h : ¬ (c ≤ 0 ∧ 0 ≤ d)) : divI q (some (a, b)) (some (c, d)) = cor q a b c d := by
  show (if _ then _ else _) = _
  rw [if_neg (by omega), if_pos h]
theorem dvI_all {a b c d : Int} (h0 : ¬ (c = 0 ∧ d = 0)) (h : c ≤ 0 ∧ 0 ≤ d) (k : (a ≤ 0 ∧ 0 ≤ b) ∨ (c < 0 ∧ 0 < d)) : divI q (some (a, b)) (some (c, d)) = allI := by
  show (if _ then _ else _) = _
  rw [if_neg h0, if_neg (fun e => e h), if_pos k]
/-- On an edge: the divisor's numbers are above nought. -/
theorem dvI_up {a b d : Int} (hd : 0 < d) (hab : a ≤ b) : (0 < a → divI q (some (a, b)) (some (0, d)) = mkI (q false a d) 19342822337206103650074625) ∧ (b < 0 → divI q (some (a, b)) (some (0, d)) = mkI (-19342822337206103650074625) (q true b d)) := by
  constructor
  · intro h
    show (if _ then _ else _) = _
    rw [if_neg (by omega), if_neg (by omega), if_neg (by omega), if_neg (show ¬ a < 0 by omega), if_neg (show ¬ d = 0 by omega), if_pos ⟨fun _ => hd, fun _ => h⟩]
  · intro h
    show (if _ then _ else _) = _
    rw [if_neg (by omega), if_neg (by omega), if_neg (by omega), if_pos (show a < 0 by omega), if_neg (show ¬ d = 0 by omega), if_neg (fun e => by have := e.2 hd; omega)]
theorem dvI_dn {a b c : Int} (hc : c < 0) (hab : a ≤ b) : (0 < a → divI q (some (a, b)) (some (c, 0)) = mkI (-19342822337206103650074625) (q true a c)) ∧ (b < 0 → divI q (some (a, b)) (some (c, 0)) = mkI (q false b c) 19342822337206103650074625) := by
  constructor
  · intro h
    show (if _ then _ else _) = _
    rw [if_neg (by omega), if_neg (by omega), if_neg (by omega), if_neg (show ¬ a < 0 by omega), if_pos (rfl : (0 : Int) = 0), if_neg (fun e => by have := e.1 h; omega)]
  · intro h
    show (if _ then _ else _) = _
    rw [if_neg (by omega), if_neg (by omega), if_neg (by omega), if_pos (show a < 0 by omega), if_pos (rfl : (0 : Int) = 0), if_pos ⟨fun e => by omega, fun e => by omega⟩]
end
end Go.Proofs.YteejbcimmmcnlaaGreatDoor

/-
  What the document's products of intervals, and quotients by one that has no nought, do.
-/
namespace Go.Proofs.YteejbcimmmcnlaaGreatDoor
open Go.RowKit
set_option linter.unusedVariables false
set_option linter.unusedSimpArgs false
set_option maxRecDepth 100000

theorem Nl.of4 {w : World} {g : Nat} {K1 K2 K3 K4 M1 M2 M3 M4 E1 E2 E3 E4 r1 r2 r3 r4 : Int} {s1 s2 s3 s4 : Bool} (X : Bo w g #[.int .i64 K1, .bool s1, .int .u64 M1, .int .i64 E1, .int .i64 K2, .bool s2, .int .u64 M2, .int .i64 E2, .int .i64 K3, .bool s3, .int .u64 M3, .int .i64 E3, .int .i64 K4, .bool s4, .int .u64 M4, .int .i64 E4] 24)
    (q1 : Fq K1 s1 M1 E1 r1) (q2 : Fq K2 s2 M2 E2 r2) (q3 : Fq K3 s3 M3 E3 r3) (q4 : Fq K4 s4 M4 E4 r4) : Nl w (some ⟨g, 0, none⟩) 4 4 [r1, r2, r3, r4] := by
  refine ⟨rfl, Nat.le_refl _, by decide, fun _ => ⟨_, 0, rfl, fun k hk => ?_⟩⟩
  rcases (by omega : k = 0 ∨ k = 1 ∨ k = 2 ∨ k = 3) with rfl | rfl | rfl | rfl
  · exact ⟨K1, s1, M1, E1, X.at rfl, X.at rfl, X.at rfl, X.at rfl, q1.top, q1.rk⟩
  · exact ⟨K2, s2, M2, E2, X.at rfl, X.at rfl, X.at rfl, X.at rfl, q2.top, q2.rk⟩
  · exact ⟨K3, s3, M3, E3, X.at rfl, X.at rfl, X.at rfl, X.at rfl, q3.top, q3.rk⟩
  · exact ⟨K4, s4, M4, E4, X.at rfl, X.at rfl, X.at rfl, X.at rfl, q4.top, q4.rk⟩
theorem mnp_four {a b c d : Int} (ha : a ≤ 19342822337206103650074625) : mnp [a, b, c, d] = min (min a b) (min c d) := by
  have := TP_eq
  show min (min (min (min TP a) b) c) d = _
  omega
theorem mxp_four {a b c d : Int} (ha : -19342822337206103650074625 ≤ a) : mxp [a, b, c, d] = max (max a b) (max c d) := by
  have := TP_eq
  show max (max (max (max (-TP) a) b) c) d = _
  omega
/-- What an operation makes of the ends, one behind the other. -/
def four (f : Bool → Int → Int → Int) (up : Bool) (a b c d : Int) : List Int := [f up a c, f up a d, f up b c, f up b d]
theorem four_cor {f : Bool → Int → Int → Int} {a b c d : Int} (h1 : f false a c ≤ 19342822337206103650074625) (h2 : -19342822337206103650074625 ≤ f true a c) : mkI (mnp (four f false a b c d)) (mxp (four f true a b c d)) = cor f a b c d := by
  unfold four cor
  rw [mnp_four h1, mxp_four h2]
end Go.Proofs.YteejbcimmmcnlaaGreatDoor

/-
  What an operation makes of the ends of two intervals; what ivop.Mul does.
-/
namespace Go.Proofs.YteejbcimmmcnlaaGreatDoor
open Go.RowKit
set_option linter.unusedVariables false
set_option linter.unusedSimpArgs false
set_option maxRecDepth 100000

def TabIf (b : Bool) (w : World) : Prop := b = true → Tab w
theorem TabIf.below {b : Bool} {w w' : World} (h : TabIf b w) (hb : Below w.heap.size w w') : TabIf b w' := fun e => (h e).below hb
/-- What is asked of an operation that is handed on: it makes F0 of two places. -/
def OpQ (fid : FuncId) (F0 : Bool → Int → Int → Int) (b : Bool) : Prop := (∀ (args : Array Value) (w : World), (callFunc fid args).run Tryz.prog w = .ok (.enter fid args) w) ∧ ∀ (w : World) (D : Int) (s : Bool) (M E D' : Int) (s' : Bool) (M' E' : Int) (up : Bool) (x y r : Int), TabIf b w → M < 18446744073709551616 → M' < 18446744073709551616 → rk D s M E = x → rk D' s' M' E' = y → F0 up x y = r → Calls Tryz.prog fid #[.agg #[.int .i64 D, .bool s, .int .u64 M, .int .i64 E], .agg #[.int .i64 D', .bool s', .int .u64 M', .int .i64 E'], .bool up] w (PN w r)
set_option maxHeartbeats 8000000 in
theorem fkFour {w : World} {fid : FuncId} {F0 : Bool → Int → Int → Int} {b up : Bool} {g1 g2 g3 : Nat} {K1 M1 E1 K1b M1b E1b K2 M2 E2 K2b M2b E2b : Int} {s1 s1b s2 s2b : Bool} {xa xb ya yb : Int} (hop : OpQ fid F0 b) (hI : TabIf b w) (X1 : Bo w g1 #[.func (.func fid) #[] #[]] 82) (X2 : Bo w g2 #[.bool false, .int .i64 K1, .bool s1, .int .u64 M1, .int .i64 E1, .int .i64 K1b, .bool s1b, .int .u64 M1b, .int .i64 E1b] 26) (X3 : Bo w g3 #[.bool false, .int .i64 K2, .bool s2, .int .u64 M2, .int .i64 E2, .int .i64 K2b, .bool s2b, .int .u64 M2b, .int .i64 E2b] 26)
    (a1 : Fq K1 s1 M1 E1 xa) (b1 : Fq K1b s1b M1b E1b xb) (a2 : Fq K2 s2 M2 E2 ya) (b2 : Fq K2b s2b M2b E2b yb) : Calls Tryz.prog 95 #[.bool up, .pointer (some ⟨g1, 0, none⟩), .pointer (some ⟨g2, 0, none⟩), .pointer (some ⟨g3, 0, none⟩)] w (fun e w' => ∃ A c, e = .returned (.slice A 4 c) ∧ Nl w' A 4 c (four F0 up xa xb ya yb) ∧ Below w.heap.size w w') := by
  obtain ⟨u1, h1⟩ : ∃ u, F0 up xa ya = u := ⟨_, rfl⟩; obtain ⟨u2, h2⟩ : ∃ u, F0 up xa yb = u := ⟨_, rfl⟩; obtain ⟨u3, h3⟩ : ∃ u, F0 up xb ya = u := ⟨_, rfl⟩; obtain ⟨u4, h4⟩ : ∃ u, F0 up xb yb = u := ⟨_, rfl⟩
  have HF : Hid (four F0 up xa xb ya yb = [u1, u2, u3, u4]) := Lib.hid (by unfold four; rw [h1, h2, h3, h4])
  have H1 := Lib.hid h1; have H2 := Lib.hid h2; have H3 := Lib.hid h3; have H4 := Lib.hid h4; have HOP := Lib.hid hop; have HB := Lib.hid (Below.refl w.heap.size w); clear h1 h2 h3 h4 hop
  go_enter Tryz.func95, Tryz.ntmps95
  go_upto_region 1 with (fail)
  refine Jo.rk [0, 1, 2, 3, 4, 5, 6, 7, 8, 9, 10, 11, 12, 13, 14, 15, 16, 17, 18, 19, 20, 21, 22, 23, 24, 25, 26, 27, 28] [some 6, some 7, some 8, some 9, some 10, some 11, some 12, some 13, some 14, some 15, some 16, some 17, some 18, some 19, some 20, some 21, some 22, some 23, some 24, some 25, some 26, some 27, some 28, some 29, some 30, some 31, some 32, some 33, some 34, some 5] [[], [], [1], [], [3], [], [0, 2, 4, 5], [], [], [8], [], [10], [], [7, 9, 11, 12], [], [], [15], [], [17], [], [14, 16, 18, 19], [], [], [22], [], [24], [], [21, 23, 25, 26], [6, 13, 20, 27], []] 30 1 [Jo.Fact.eq (.func (.func fid) #[] #[]), Jo.qp g2 1, Jo.q4 K1 s1 M1 E1, Jo.qp g3 1, Jo.q4 K2 s2 M2 E2, Jo.qb up, Jo.Fact.num u1, Jo.Fact.eq (.func (.func fid) #[] #[]), Jo.qp g2 1, Jo.q4 K1 s1 M1 E1, Jo.qp g3 5, Jo.q4 K2b s2b M2b E2b, Jo.qb up, Jo.Fact.num u2, Jo.Fact.eq (.func (.func fid) #[] #[]), Jo.qp g2 5, Jo.q4 K1b s1b M1b E1b, Jo.qp g3 1, Jo.q4 K2 s2 M2 E2, Jo.qb up, Jo.Fact.num u3, Jo.Fact.eq (.func (.func fid) #[] #[]), Jo.qp g2 5, Jo.q4 K1b s1b M1b E1b, Jo.qp g3 5, Jo.q4 K2b s2b M2b E2b, Jo.qb up, Jo.Fact.num u4, Jo.Fact.nl 4 [u1, u2, u3, u4], Jo.Fact.any] (by kernel_rfl) (by kernel_rfl) (by decide) rfl ?_ ?_
  · refine Jo.jm rfl ?_ ?_
    · rintro wj hJ K hK; simp only [Jo.z] at hK ⊢; have xX10 := (X1.below hJ).a 0 (.func (.func fid) #[] #[]) rfl; go_simp; exact hK.out _ _ rfl (br _ _)
    refine Jo.jm rfl ?_ ?_
    · rintro wj hJ K hK; simp only [Jo.z] at hK ⊢; go_simp; exact hK.out _ _ rfl (br _ _)
    refine Jo.jm rfl ?_ ?_
    · rintro wj hJ _ rfl K hK; simp only [Jo.z] at hK ⊢; obtain ⟨xX21, xX22, xX23, xX24⟩ := (X2.below hJ).w9; go_simp; exact hK.out _ _ rfl (br _ _)
    refine Jo.jm rfl ?_ ?_
    · rintro wj hJ K hK; simp only [Jo.z] at hK ⊢; go_simp; exact hK.out _ _ rfl (br _ _)
    refine Jo.jm rfl ?_ ?_
    · rintro wj hJ _ rfl K hK; simp only [Jo.z] at hK ⊢; obtain ⟨xX31, xX32, xX33, xX34⟩ := (X3.below hJ).w9; go_simp; exact hK.out _ _ rfl (br _ _)
    refine Jo.jm rfl ?_ ?_
    · rintro wj hJ K hK; simp only [Jo.z] at hK ⊢; go_simp; exact hK.out _ _ rfl (br _ _)
    refine Jo.jm rfl ?_ ?_
    · rintro wj hJ _ rfl _ rfl _ rfl _ rfl K hK; simp only [Jo.z] at hK ⊢; go_simp; rw [HOP.out.1]; simp only [Oper.upon]; refine (HOP.out.2 _ _ _ _ _ _ _ _ _ _ _ _ _ (hI.below hJ) a1.top a2.top a1.rk a2.rk H1.out).mono ?_; rintro ee wk ⟨K21, s21, M21, E21, rfl, q21, B⟩; exact hK.out _ _ ⟨K21, s21, M21, E21, rfl, q21⟩ B
    refine Jo.jm rfl ?_ ?_
    · rintro wj hJ K hK; simp only [Jo.z] at hK ⊢; have xX10 := (X1.below hJ).a 0 (.func (.func fid) #[] #[]) rfl; go_simp; exact hK.out _ _ rfl (br _ _)
    refine Jo.jm rfl ?_ ?_
    · rintro wj hJ K hK; simp only [Jo.z] at hK ⊢; go_simp; exact hK.out _ _ rfl (br _ _)
    refine Jo.jm rfl ?_ ?_
    · rintro wj hJ _ rfl K hK; simp only [Jo.z] at hK ⊢; obtain ⟨xX21, xX22, xX23, xX24⟩ := (X2.below hJ).w9; go_simp; exact hK.out _ _ rfl (br _ _)
    refine Jo.jm rfl ?_ ?_
    · rintro wj hJ K hK; simp only [Jo.z] at hK ⊢; go_simp; exact hK.out _ _ rfl (br _ _)
    refine Jo.jm rfl ?_ ?_
    · rintro wj hJ _ rfl K hK; simp only [Jo.z] at hK ⊢; obtain ⟨xX35, xX36, xX37, xX38⟩ := (X3.below hJ).v9; go_simp; exact hK.out _ _ rfl (br _ _)
    refine Jo.jm rfl ?_ ?_
    · rintro wj hJ K hK; simp only [Jo.z] at hK ⊢; go_simp; exact hK.out _ _ rfl (br _ _)
    refine Jo.jm rfl ?_ ?_
    · rintro wj hJ _ rfl _ rfl _ rfl _ rfl K hK; simp only [Jo.z] at hK ⊢; go_simp; rw [HOP.out.1]; simp only [Oper.upon]; refine (HOP.out.2 _ _ _ _ _ _ _ _ _ _ _ _ _ (hI.below hJ) a1.top b2.top a1.rk b2.rk H2.out).mono ?_; rintro ee wk ⟨K22, s22, M22, E22, rfl, q22, B⟩; exact hK.out _ _ ⟨K22, s22, M22, E22, rfl, q22⟩ B
    refine Jo.jm rfl ?_ ?_
    · rintro wj hJ K hK; simp only [Jo.z] at hK ⊢; have xX10 := (X1.below hJ).a 0 (.func (.func fid) #[] #[]) rfl; go_simp; exact hK.out _ _ rfl (br _ _)
    refine Jo.jm rfl ?_ ?_
    · rintro wj hJ K hK; simp only [Jo.z] at hK ⊢; go_simp; exact hK.out _ _ rfl (br _ _)
    refine Jo.jm rfl ?_ ?_
    · rintro wj hJ _ rfl K hK; simp only [Jo.z] at hK ⊢; obtain ⟨xX25, xX26, xX27, xX28⟩ := (X2.below hJ).v9; go_simp; exact hK.out _ _ rfl (br _ _)
    refine Jo.jm rfl ?_ ?_
    · rintro wj hJ K hK; simp only [Jo.z] at hK ⊢; go_simp; exact hK.out _ _ rfl (br _ _)
    refine Jo.jm rfl ?_ ?_
    · rintro wj hJ _ rfl K hK; simp only [Jo.z] at hK ⊢; obtain ⟨xX31, xX32, xX33, xX34⟩ := (X3.below hJ).w9; go_simp; exact hK.out _ _ rfl (br _ _)
    refine Jo.jm rfl ?_ ?_
    · rintro wj hJ K hK; simp only [Jo.z] at hK ⊢; go_simp; exact hK.out _ _ rfl (br _ _)
    refine Jo.jm rfl ?_ ?_
    · rintro wj hJ _ rfl _ rfl _ rfl _ rfl K hK; simp only [Jo.z] at hK ⊢; go_simp; rw [HOP.out.1]; simp only [Oper.upon]; refine (HOP.out.2 _ _ _ _ _ _ _ _ _ _ _ _ _ (hI.below hJ) b1.top a2.top b1.rk a2.rk H3.out).mono ?_; rintro ee wk ⟨K23, s23, M23, E23, rfl, q23, B⟩; exact hK.out _ _ ⟨K23, s23, M23, E23, rfl, q23⟩ B
    refine Jo.jm rfl ?_ ?_
    · rintro wj hJ K hK; simp only [Jo.z] at hK ⊢; have xX10 := (X1.below hJ).a 0 (.func (.func fid) #[] #[]) rfl; go_simp; exact hK.out _ _ rfl (br _ _)
    refine Jo.jm rfl ?_ ?_
    · rintro wj hJ K hK; simp only [Jo.z] at hK ⊢; go_simp; exact hK.out _ _ rfl (br _ _)
    refine Jo.jm rfl ?_ ?_
    · rintro wj hJ _ rfl K hK; simp only [Jo.z] at hK ⊢; obtain ⟨xX25, xX26, xX27, xX28⟩ := (X2.below hJ).v9; go_simp; exact hK.out _ _ rfl (br _ _)
    refine Jo.jm rfl ?_ ?_
    · rintro wj hJ K hK; simp only [Jo.z] at hK ⊢; go_simp; exact hK.out _ _ rfl (br _ _)
    refine Jo.jm rfl ?_ ?_
    · rintro wj hJ _ rfl K hK; simp only [Jo.z] at hK ⊢; obtain ⟨xX35, xX36, xX37, xX38⟩ := (X3.below hJ).v9; go_simp; exact hK.out _ _ rfl (br _ _)
    refine Jo.jm rfl ?_ ?_
    · rintro wj hJ K hK; simp only [Jo.z] at hK ⊢; go_simp; exact hK.out _ _ rfl (br _ _)
    refine Jo.jm rfl ?_ ?_
    · rintro wj hJ _ rfl _ rfl _ rfl _ rfl K hK; simp only [Jo.z] at hK ⊢; go_simp; rw [HOP.out.1]; simp only [Oper.upon]; refine (HOP.out.2 _ _ _ _ _ _ _ _ _ _ _ _ _ (hI.below hJ) b1.top b2.top b1.rk b2.rk H4.out).mono ?_; rintro ee wk ⟨K24, s24, M24, E24, rfl, q24, B⟩; exact hK.out _ _ ⟨K24, s24, M24, E24, rfl, q24⟩ B
    refine Jo.jm rfl ?_ ?_
    · rintro wj hJ _ ⟨K21, s21, M21, E21, rfl, q21⟩ _ ⟨K22, s22, M22, E22, rfl, q22⟩ _ ⟨K23, s23, M23, E23, rfl, q23⟩ _ ⟨K24, s24, M24, E24, rfl, q24⟩ K hK; simp only [Jo.z] at hK ⊢; go_simp; exact hK.out _ _ ⟨_, 4, rfl, Nl.of4 (Bo.new _ _ _) q21 q22 q23 q24⟩ (bel1 _ _)
    exact Jo.Steps.nil
  rintro w8 hJ _ rfl _ _ _ rfl _ _ _ rfl _ rfl _ ⟨K21, s21, M21, E21, rfl, q21⟩ _ rfl _ _ _ rfl _ _ _ rfl _ rfl _ ⟨K22, s22, M22, E22, rfl, q22⟩ _ rfl _ _ _ rfl _ _ _ rfl _ rfl _ ⟨K23, s23, M23, E23, rfl, q23⟩ _ rfl _ _ _ rfl _ _ _ rfl _ rfl _ ⟨K24, s24, M24, E24, rfl, q24⟩ _ ⟨A9, c9, rfl, h9⟩ -; simp only [Jo.z]; replace X1 := X1.below hJ; replace X2 := X2.below hJ; replace X3 := X3.below hJ; replace hI := hI.below hJ
  replace HB := Lib.hid (bt HB.out hJ)
  refine Jo.jnext (i := 29) (o := ⟨some 5, _, _, _, _, _⟩) (by kernel_rfl) rfl (fun K hK => ?_)
  go_simp; refine hK.out _ _ ?_; clear hK K; refine Jo.jdone (by kernel_rfl) ?_; go_wp2
  go_ret
  exact ⟨_, _, rfl, HF.out ▸ h9, HB.out⟩
set_option maxHeartbeats 8000000 in
theorem fkOf {w : World} {fid : FuncId} {F0 : Bool → Int → Int → Int} {b : Bool} {K1 M1 E1 K1b M1b E1b K2 M2 E2 K2b M2b E2b : Int} {s1 s1b s2 s2b : Bool} {xa xb ya yb : Int} {z : Sp} (hop : OpQ fid F0 b) (hI : TabIf b w) (v1 : Ci false K1 s1 M1 E1 K1b s1b M1b E1b (some (xa, xb))) (v2 : Ci false K2 s2 M2 E2 K2b s2b M2b E2b (some (ya, yb))) (hF : F0 false xa ya ≤ 19342822337206103650074625 ∧ -19342822337206103650074625 ≤ F0 true xa ya) (hr : cor F0 xa xb ya yb = z) :
    Calls Tryz.prog 53 #[.agg #[.bool false, .int .i64 K1, .bool s1, .int .u64 M1, .int .i64 E1, .int .i64 K1b, .bool s1b, .int .u64 M1b, .int .i64 E1b], .agg #[.bool false, .int .i64 K2, .bool s2, .int .u64 M2, .int .i64 E2, .int .i64 K2b, .bool s2b, .int .u64 M2b, .int .i64 E2b], .func (.func fid) #[] #[]] w (PV w z) := by
  have hmf : ∀ (fn : Fn) (first cap : Array Value) (w : World), (Instr.makeFunc fn first cap).run Tryz.prog w = .ok (.func fn first cap) w := fun _ _ _ _ => rfl
  obtain ⟨_, a1, b1, o1, o1l, o1h⟩ := v1; obtain ⟨_, a2, b2, o2, o2l, o2h⟩ := v2; rw [← four_cor hF.1 hF.2] at hr; obtain ⟨u, hu⟩ : ∃ u, mnp (four F0 false xa xb ya yb) = u := ⟨_, rfl⟩; obtain ⟨v, hv⟩ : ∃ v, mxp (four F0 true xa xb ya yb) = v := ⟨_, rfl⟩; rw [hu, hv] at hr; have HU := Lib.hid hu; have HV := Lib.hid hv; have HR := Lib.hid hr; have HOP := Lib.hid hop; clear hu hv hr hop hF o1 o1l o1h o2 o2l o2h
  go_enter Tryz.func53, Tryz.ntmps53
  go_upto_region 1 with (fail)
  generalize hW1 : (((w.alloc _).alloc _).alloc _).alloc _ = w1 at *; obtain ⟨X3, X4, X5, XR, HB⟩ := Bo.en4 hW1; replace hI := hI.below HB.out; clear hW1
  go_wp2_with fail
  refine (fkFour HOP.out hI X5 X3 X4 a1 b1 a2 b2).mono ?_; rintro ee w2 ⟨A1, c1, rfl, N1, B⟩; replace X3 := X3.below B; replace X4 := X4.below B; replace X5 := X5.below B; replace XR := XR.below B; replace hI := hI.below B; replace HB := Lib.hid (bt HB.out B); clear B
  go_wp2_with fail
  refine (nLeast N1 HU.out).mono ?_; rintro ee w3 ⟨K11, s11, M11, E11, rfl, q11, B⟩; replace X3 := X3.below B; replace X4 := X4.below B; replace X5 := X5.below B; replace XR := XR.below B; replace hI := hI.below B; replace N1 := N1.below B; replace HB := Lib.hid (bt HB.out B); clear B; clear N1
  go_wp2_with fail
  refine (fkFour HOP.out hI X5 X3 X4 a1 b1 a2 b2).mono ?_; rintro ee w4 ⟨A2, c2, rfl, N2, B⟩; replace X3 := X3.below B; replace X4 := X4.below B; replace X5 := X5.below B; replace XR := XR.below B; replace hI := hI.below B; replace HB := Lib.hid (bt HB.out B); clear B
  go_wp2_with fail
  refine (nMost N2 HV.out).mono ?_; rintro ee w5 ⟨K12, s12, M12, E12, rfl, q12, B⟩; replace X3 := X3.below B; replace X4 := X4.below B; replace X5 := X5.below B; replace XR := XR.below B; replace hI := hI.below B; replace N2 := N2.below B; replace HB := Lib.hid (bt HB.out B); clear B; clear N2
  go_wp2_with fail
  refine (kvMake q11.top q12.top q11.rk q12.rk HR.out).mono ?_; rintro ee w6 ⟨e13, K13, s13, M13, E13, K13b, s13b, M13b, E13b, rfl, v13, B⟩; replace X3 := X3.below B; replace X4 := X4.below B; replace X5 := X5.below B; replace XR := XR.below B; replace hI := hI.below B; replace HB := Lib.hid (bt HB.out B); clear B; clear hI; clear X5; obtain ⟨xXR0, xXR1, xXR2, xXR3, xXR4, xXR5, xXR6, xXR7, xXR8⟩ := XR.u9
  have zXR0 := XR.frozen; go_wp2; clear xXR0 zXR0 xXR1 xXR2 xXR3 xXR4 xXR5 xXR6 xXR7 xXR8; have SX := StN.mk9 XR (.bool e13) (.int .i64 K13) (.bool s13) (.int .u64 M13) (.int .i64 E13) (.int .i64 K13b) (.bool s13b) (.int .u64 M13b) (.int .i64 E13b); exact bodyPost_ret (by simp [results, Tryz.results53, go_sem, SX.box.cell]) rfl ⟨_, _, _, _, _, _, _, _, _, rfl, v13, (SX.below HB.out (by omega))⟩
theorem opq_mul : OpQ 54 mulp false := ⟨fun _ _ => by first | rfl | kernel_rfl | simp [callFunc, go_sem], fun _ _ _ _ _ _ _ _ _ _ _ _ _ _ hM hM' hx hy hr => aMul hM hM' hx hy hr⟩
set_option maxHeartbeats 4000000 in
theorem fkMul {w : World} {e : Bool} {D M E D' M' E' : Int} {s s' : Bool} {e2 : Bool} {G P Q G' P' Q' : Int} {g g' : Bool} {x y z : Sp} (hM : M < 18446744073709551616) (hM' : M' < 18446744073709551616) (hP : P < 18446744073709551616) (hP' : P' < 18446744073709551616) (hx : rkI e D s M E D' s' M' E' = x) (hy : rkI e2 G g P Q G' g' P' Q' = y) (hr : mulI x y = z) : Calls Tryz.prog 18 #[.agg #[.bool e, .int .i64 D, .bool s, .int .u64 M, .int .i64 E, .int .i64 D', .bool s', .int .u64 M', .int .i64 E'], .agg #[.bool e2, .int .i64 G, .bool g, .int .u64 P, .int .i64 Q, .int .i64 G', .bool g', .int .u64 P', .int .i64 Q']] w (PV w z) := by
  obtain ⟨p, hp⟩ : ∃ p, gone [x, y] = p := ⟨_, rfl⟩; have HP := Lib.hid hp; have HX := Lib.hid hx; have HY := Lib.hid hy; clear hx hy hp
  go_enter Tryz.func18, Tryz.ntmps18
  go_upto_region 1 with (fail)
  generalize hW1 : ((w.alloc _).alloc _).alloc _ = w1 at *; obtain ⟨X2, X3, XR, HB⟩ := Bo.en3 hW1; clear hW1; obtain ⟨xX20, xX21, xX22, xX23, xX24, xX25, xX26, xX27, xX28⟩ := X2.u9; obtain ⟨xX30, xX31, xX32, xX33, xX34, xX35, xX36, xX37, xX38⟩ := X3.u9
  go_wp2_with fail
  refine (fkEmpty (Il8.lit2 rfl ⟨hM, hM', HX.out⟩ ⟨hP, hP', HY.out⟩) HP.out).mono ?_; rintro ee w2 ⟨rfl, B⟩; replace B := bt (bel1 _ (.cells #[.bool e, .int .i64 D, .bool s, .int .u64 M, .int .i64 E, .int .i64 D', .bool s', .int .u64 M', .int .i64 E', .bool e2, .int .i64 G, .bool g, .int .u64 P, .int .i64 Q, .int .i64 G', .bool g', .int .u64 P', .int .i64 Q'] 26)) B; clear xX20 xX21 xX22 xX23 xX24 xX25 xX26 xX27 xX28 xX30 xX31 xX32 xX33 xX34 xX35 xX36 xX37 xX38
  replace X2 := X2.below B; replace X3 := X3.below B; replace XR := XR.below B; replace HB := Lib.hid (bt HB.out B); clear B
  rcases x with _ | ⟨xa, xb⟩
  · obtain rfl : true = p := HP.out
    obtain rfl : none = z := hr
    clear HP
    go_wp2_with fail
    refine (kvNoneE).mono ?_; rintro ee w3 ⟨rfl, B⟩; replace X2 := X2.below B; replace X3 := X3.below B; replace XR := XR.below B; replace HB := Lib.hid (bt HB.out B); clear B; obtain ⟨xXR0, xXR1, xXR2, xXR3, xXR4, xXR5, xXR6, xXR7, xXR8⟩ := XR.u9; have zXR0 := XR.frozen; go_wp2; clear xXR0 zXR0 xXR1 xXR2 xXR3 xXR4 xXR5 xXR6 xXR7 xXR8; have SX := StN.mk9 XR (.bool true) (.int .i64 0) (.bool false) (.int .u64 0) (.int .i64 0) (.int .i64 0) (.bool false) (.int .u64 0) (.int .i64 0)
    exact bodyPost_ret (by simp [results, Tryz.results18, go_sem, SX.box.cell]) rfl ⟨_, _, _, _, _, _, _, _, _, rfl, Ci.none, (SX.below HB.out (by omega))⟩
  · rcases y with _ | ⟨ya, yb⟩
    · obtain rfl : true = p := HP.out
      obtain rfl : none = z := hr
      clear HP
      go_wp2_with fail
      refine (kvNoneE).mono ?_; rintro ee w3 ⟨rfl, B⟩; replace X2 := X2.below B; replace X3 := X3.below B; replace XR := XR.below B; replace HB := Lib.hid (bt HB.out B); clear B; obtain ⟨xXR0, xXR1, xXR2, xXR3, xXR4, xXR5, xXR6, xXR7, xXR8⟩ := XR.u9; have zXR0 := XR.frozen; go_wp2; clear xXR0 zXR0 xXR1 xXR2 xXR3 xXR4 xXR5 xXR6 xXR7 xXR8; have SX := StN.mk9 XR (.bool true) (.int .i64 0) (.bool false) (.int .u64 0) (.int .i64 0) (.int .i64 0) (.bool false) (.int .u64 0) (.int .i64 0)
      exact bodyPost_ret (by simp [results, Tryz.results18, go_sem, SX.box.cell]) rfl ⟨_, _, _, _, _, _, _, _, _, rfl, Ci.none, (SX.below HB.out (by omega))⟩
    · obtain rfl : false = p := HP.out
      have w1' := ci_some hM hM' HX.out
      have w2' := ci_some hP hP' HY.out
      obtain ⟨rfl, a1, b1, o1, o1l, o1h⟩ := w1'; obtain ⟨rfl, a2, b2, o2, o2l, o2h⟩ := w2'
      have v1 : Ci false D s M E D' s' M' E' (some (xa, xb)) := ⟨rfl, a1, b1, o1, o1l, o1h⟩
      have v2 : Ci false G g P Q G' g' P' Q' (some (ya, yb)) := ⟨rfl, a2, b2, o2, o2l, o2h⟩
      clear HP HX HY
      have HR := Lib.hid (show cor mulp xa xb ya yb = z from hr)
      clear hr o1 o1l o1h o2 o2l o2h; obtain ⟨xX20, xX21, xX22, xX23, xX24, xX25, xX26, xX27, xX28⟩ := X2.u9; obtain ⟨xX30, xX31, xX32, xX33, xX34, xX35, xX36, xX37, xX38⟩ := X3.u9
      go_wp2_with fail
      refine (fkOf opq_mul (fun e => by cases e) v1 v2 ⟨(mulp_bd false).2, (mulp_bd true).1⟩ HR.out).mono ?_
      rintro ee w3 ⟨e13, K13, s13, M13, E13, K13b, s13b, M13b, E13b, rfl, v13, B⟩; clear xX20 xX21 xX22 xX23 xX24 xX25 xX26 xX27 xX28 xX30 xX31 xX32 xX33 xX34 xX35 xX36 xX37 xX38; replace X2 := X2.below B; replace X3 := X3.below B; replace XR := XR.below B; replace HB := Lib.hid (bt HB.out B); clear B; obtain ⟨xXR0, xXR1, xXR2, xXR3, xXR4, xXR5, xXR6, xXR7, xXR8⟩ := XR.u9; have zXR0 := XR.frozen; go_wp2
      clear xXR0 zXR0 xXR1 xXR2 xXR3 xXR4 xXR5 xXR6 xXR7 xXR8; have SX := StN.mk9 XR (.bool e13) (.int .i64 K13) (.bool s13) (.int .u64 M13) (.int .i64 E13) (.int .i64 K13b) (.bool s13b) (.int .u64 M13b) (.int .i64 E13b); exact bodyPost_ret (by simp [results, Tryz.results18, go_sem, SX.box.cell]) rfl ⟨_, _, _, _, _, _, _, _, _, rfl, v13, (SX.below HB.out (by omega))⟩
end Go.Proofs.YteejbcimmmcnlaaGreatDoor

/-
  What ivop.Add and Sub do.
-/
namespace Go.Proofs.YteejbcimmmcnlaaGreatDoor
open Go.RowKit
set_option linter.unusedVariables false
set_option linter.unusedSimpArgs false
set_option maxRecDepth 100000

set_option maxHeartbeats 8000000 in
theorem fkAdd {w : World} {A : Option Addr} {n c : Nat} {l : List Sp} {z : Sp} (hT : Tb w) (h : Il8 w A n c l) (hr : addL l = z) : Calls Tryz.prog 12 #[.slice A n c] w (PV w z) := by
  obtain ⟨p, hp⟩ : ∃ p, gone l = p := ⟨_, rfl⟩; have HP := Lib.hid hp; have HLn := Lib.hid h.1; have hcap := h.2.1; have hbig := h.2.2.1; clear hp
  go_enter Tryz.func12, Tryz.ntmps12
  go_upto_region 1 with (fail)
  generalize hW1 : w.alloc _ = w1 at *; obtain ⟨XR, HB⟩ := Bo.en1 hW1; replace hT := hT.below HB.out; replace h := h.below HB.out; clear hW1
  go_wp2_with fail
  refine (fkEmpty h HP.out).mono ?_; rintro ee w2 ⟨rfl, B⟩; replace XR := XR.below B; replace hT := hT.below B; replace h := h.below B; replace HB := Lib.hid (bt HB.out B); clear B
  cases p
  · have hok := h.ok; have hae := (add_ends HP.out hok).trans hr; obtain ⟨u, hu⟩ : ∃ u, smA false (lowL l) = u := ⟨_, rfl⟩; obtain ⟨v, hv⟩ : ∃ v, smA true (highL l) = v := ⟨_, rfl⟩
    have hz : mkI u v = z := by rw [← hu, ← hv]; exact hae
    have HU := Lib.hid hu; have HV := Lib.hid hv; have HZ := Lib.hid hz; clear hok hae hu hv hz hr; go_wp2
    go_loopw [3, 4, 12] (fun va vb i wr => ∃ k A1 B1 c1 d1, k ≤ n ∧ va = .slice A1 k c1 ∧ vb = .slice B1 k d1 ∧ i = .int .i64 ((k : Nat) : Int) ∧ EInv w2 A1 B1 k c1 d1 (lowL (l.take k)) (highL (l.take k)) wr) (fun _ _ i _ => n - (intOf i).toNat)
    case atStart => exact ⟨0, _, _, _, _, Nat.zero_le _, rfl, rfl, rfl, Na.nil _ _, Na.nil _ _, (fun k h => by cases h), Below.refl _ _⟩
    case round =>
      obtain ⟨k, A1, B1, c1, d1, hk, rfl, rfl, rfl, N1, N2, hne, hB⟩ := hrel; have HB0 := HB; replace HB := Lib.hid hB; clear hB
      by_cases hlt : k < n
      · have tlt : decide ((k : Int) < (n : Int)) = true := by simp; omega
        have h' := h.below HB.out
        obtain ⟨a0, b0, hg⟩ := gone_get HP.out (k := k) (by rw [HLn.out]; exact hlt); have hsl := lowL_take (l := l) (k := k) (by rw [HLn.out]; exact hlt); have hsh := highL_take (l := l) (k := k) (by rw [HLn.out]; exact hlt); rw [hg] at hsl hsh; obtain ⟨b, o, rfl, hcell⟩ := h'.2.2.2 (by omega); obtain ⟨e, D, s, M, E, D', s', M', E', x0, x1, x2, x3, x4, x5, x6, x7, x8, hM, hM', hx⟩ := hcell k hlt; rw [hg] at hx
        obtain ⟨rfl, a1, b1, _, _, _⟩ := ci_some hM hM' hx; clear hcell h' h hx hM hM'
        have i1 : (k : Int) < n := by omega
        have i2 : (0 : Int) ≤ k := by omega
        generalize lowL (l.take k) = la at *; generalize highL (l.take k) = lb at *
        have HSL : Hid (lowL (l.take (k + 1)) = la ++ [a0]) := Lib.hid hsl
        have HSH : Hid (highL (l.take (k + 1)) = lb ++ [b0]) := Lib.hid hsh
        have HNE := Lib.hid hne; clear hsl hsh hne hg HU HV HZ HP XR hT HB0
        go_upto_region 7 with (fail)
        clear x0 x1 x2 x3 x4 x5 x6 x7 x8; have lX6 := Nat.le_refl (World.heap wr).size; generalize hWn : wr.alloc _ = w6 at *; obtain ⟨X6, BW⟩ := Bo.nw hWn; clear hWn; replace N1 := N1.below BW; replace N2 := N2.below BW; replace HB := Lib.hid (bt HB.out BW); clear BW; clear lX6; obtain ⟨xX60, xX61, xX62, xX63, xX64, xX65, xX66, xX67, xX68⟩ := X6.u9
        go_wp2_with (at_builtin; refine wpList_na rfl _ _ rfl rfl rfl (N1.below (bel1 _ _)) a1 (Bo.new _ _ _) (by omega) (Nat.le_trans HB.out.size (bel1 _ _).size) ?_)
        intro A2 d2 w7 N1' G1 at1
        clear xX60 xX61 xX62 xX63 xX64 xX65 xX66 xX67 xX68; have hB2 := bt HB.out (bel1 _ (.cells #[.int .i64 D, .bool s, .int .u64 M, .int .i64 E] 24)); have N1b := N1.below (bel1 _ (.cells #[.int .i64 D, .bool s, .int .u64 M, .int .i64 E] 24)); have N2b := N2.below (bel1 _ (.cells #[.int .i64 D, .bool s, .int .u64 M, .int .i64 E] 24)); replace X6 := (X6.below (bel1 _ (.cells #[.int .i64 D, .bool s, .int .u64 M, .int .i64 E] 24))).grownN N1b (by decide) G1
        replace HB := Lib.hid (hB2.grown G1 hB2.size (fun k hk => (N1b.own_lt k hk).1))
        have l1 : ∀ k, ownA B1 = some k → k < w6.heap.size + 1 := fun k hk => by
          have := (N2b.own_lt k hk).2
          simpa using this
        replace N2 := N2b.kept G1 (own_ne HNE.out); clear N1 N1b N2b G1 hB2; obtain ⟨xX60, xX61, xX62, xX63, xX64, xX65, xX66, xX67, xX68⟩ := X6.u9
        go_wp2_with (at_builtin; refine wpList_na rfl _ _ rfl rfl rfl (N2.below (bel1 _ _)) b1 (Bo.new _ _ _) (by omega) (Nat.le_trans HB.out.size (bel1 _ _).size) ?_)
        intro B2 d3 w8 N2' G2 at2
        clear xX60 xX61 xX62 xX63 xX64 xX65 xX66 xX67 xX68; have hB2 := bt HB.out (bel1 _ (.cells #[.int .i64 D', .bool s', .int .u64 M', .int .i64 E'] 24)); have N2b := N2.below (bel1 _ (.cells #[.int .i64 D', .bool s', .int .u64 M', .int .i64 E'] 24)); have N1b := N1'.below (bel1 _ (.cells #[.int .i64 D', .bool s', .int .u64 M', .int .i64 E'] 24))
        have lA : ∀ k, ownA A2 = some k → k < w7.heap.size + 1 := fun k hk => by
          have := (N1b.own_lt k hk).2
          simpa using this
        have hne2 : ∀ k, ownA A2 = some k → ownA B2 ≠ some k := ne_row HNE.out at1 at2 l1 lA
        have hne1 : ∀ k, ownA A2 = some k → ownA B1 ≠ some k := ne_row HNE.out at1 (.inl rfl) l1 lA
        replace HB := Lib.hid (hB2.grown G2 hB2.size (fun k hk => (N2b.own_lt k hk).1))
        replace N1' := N1b.kept G2 (own_ne' hne1)
        have t1 := HSL.out; have t2 := HSH.out; clear N1b N2b G2 hB2 hne1 X6 N2 l1 lA at1 at2 HSL HSH HNE; go_wp2
        go_roundw
        case rel => exact ⟨k + 1, _, _, _, _, by omega, rfl, rfl, by go_num, by rw [t1]; exact N1', by rw [t2]; exact N2', hne2, HB.out⟩
        case measure => simp [intOf]; omega
      · obtain rfl : k = n := by omega
        have tlt : decide ((k : Int) < (k : Int)) = false := by simp
        have e1 : l.take k = l := List.take_of_length_le (by rw [HLn.out]; omega)
        rw [e1] at N1 N2; have L1 := N1.nl (by omega); have L2 := N2.nl (by omega); replace XR := XR.below HB.out; replace hT := hT.below HB.out; replace HB := Lib.hid (bt HB0.out HB.out); clear N1 N2 e1 hne HB0 h HP
        go_wp2_with fail
        refine (aSum hT L1 HU.out).mono ?_; rintro ee w9 ⟨K21, s21, M21, E21, rfl, q21, B⟩; replace XR := XR.below B; replace hT := hT.below B; replace L1 := L1.below B; replace L2 := L2.below B; replace HB := Lib.hid (bt HB.out B); clear B
        go_wp2_with fail
        refine (aSum hT L2 HV.out).mono ?_; rintro ee wA ⟨K22, s22, M22, E22, rfl, q22, B⟩; replace XR := XR.below B; replace hT := hT.below B; replace L1 := L1.below B; replace L2 := L2.below B; replace HB := Lib.hid (bt HB.out B); clear B
        go_wp2_with fail
        refine (kvMake q21.top q22.top q21.rk q22.rk HZ.out).mono ?_; rintro ee wB ⟨e23, K23, s23, M23, E23, K23b, s23b, M23b, E23b, rfl, v23, B⟩; replace XR := XR.below B; replace hT := hT.below B; replace L1 := L1.below B; replace L2 := L2.below B; replace HB := Lib.hid (bt HB.out B); clear B; clear L1 L2 hT; obtain ⟨xXR0, xXR1, xXR2, xXR3, xXR4, xXR5, xXR6, xXR7, xXR8⟩ := XR.u9; have zXR0 := XR.frozen
        go_wp2; clear xXR0 zXR0 xXR1 xXR2 xXR3 xXR4 xXR5 xXR6 xXR7 xXR8; have SX := StN.mk9 XR (.bool e23) (.int .i64 K23) (.bool s23) (.int .u64 M23) (.int .i64 E23) (.int .i64 K23b) (.bool s23b) (.int .u64 M23b) (.int .i64 E23b); exact bodyPost_ret (by simp [results, Tryz.results12, go_sem, SX.box.cell]) rfl ⟨_, _, _, _, _, _, _, _, _, rfl, v23, (SX.below HB.out (by omega))⟩
  · obtain rfl : none = z := (add_gone HP.out).symm.trans hr
    clear HP hT h hr
    go_wp2_with fail
    refine (kvNoneE).mono ?_; rintro ee w3 ⟨rfl, B⟩; replace XR := XR.below B; replace HB := Lib.hid (bt HB.out B); clear B; obtain ⟨xXR0, xXR1, xXR2, xXR3, xXR4, xXR5, xXR6, xXR7, xXR8⟩ := XR.u9; have zXR0 := XR.frozen; go_wp2; clear xXR0 zXR0 xXR1 xXR2 xXR3 xXR4 xXR5 xXR6 xXR7 xXR8; have SX := StN.mk9 XR (.bool true) (.int .i64 0) (.bool false) (.int .u64 0) (.int .i64 0) (.int .i64 0) (.bool false) (.int .u64 0) (.int .i64 0)
    exact bodyPost_ret (by simp [results, Tryz.results12, go_sem, SX.box.cell]) rfl ⟨_, _, _, _, _, _, _, _, _, rfl, Ci.none, (SX.below HB.out (by omega))⟩
set_option maxHeartbeats 4000000 in
theorem fkSub {w : World} {e : Bool} {D M E D' M' E' : Int} {s s' : Bool} {e2 : Bool} {G P Q G' P' Q' : Int} {g g' : Bool} {x y z : Sp} (hT : Tb w) (hM : M < 18446744073709551616) (hM' : M' < 18446744073709551616) (hP : P < 18446744073709551616) (hP' : P' < 18446744073709551616) (hx : rkI e D s M E D' s' M' E' = x) (hy : rkI e2 G g P Q G' g' P' Q' = y) (hr : subI x y = z) : Calls Tryz.prog 14 #[.agg #[.bool e, .int .i64 D, .bool s, .int .u64 M, .int .i64 E, .int .i64 D', .bool s', .int .u64 M', .int .i64 E'], .agg #[.bool e2, .int .i64 G, .bool g, .int .u64 P, .int .i64 Q, .int .i64 G', .bool g', .int .u64 P', .int .i64 Q']] w (PV w z) := by
  obtain ⟨m, hm⟩ : ∃ m, negI y = m := ⟨_, rfl⟩
  have hr2 : addL [x, m] = z := by rw [← hm]; exact hr
  have HX := Lib.hid hx; have HY := Lib.hid hy; have HM := Lib.hid hm; have HR := Lib.hid hr2; clear hx hy hm hr hr2
  go_enter Tryz.func14, Tryz.ntmps14
  go_upto_region 1 with (fail)
  generalize hW1 : ((w.alloc _).alloc _).alloc _ = w1 at *; obtain ⟨X2, X3, XR, HB⟩ := Bo.en3 hW1; replace hT := hT.below HB.out; clear hW1; refine Jo.rk [0, 1, 2, 3, 4] [some 5, some 6, some 7, some 8, some 9, none] [[], [], [1], [0, 2], [3], []] 6 1 [Jo.q9 e D s M E D' s' M' E', Jo.q9 e2 G g P Q G' g' P' Q', Jo.Fact.iv m, Jo.Fact.il8 2 [x, m], Jo.Fact.iv z, Jo.Fact.any] (by kernel_rfl) (by kernel_rfl) (by decide) rfl ?_ ?_
  · refine Jo.jm rfl ?_ ?_
    · rintro wj hJ K hK; simp only [Jo.z] at hK ⊢; obtain ⟨xX20, xX21, xX22, xX23, xX24, xX25, xX26, xX27, xX28⟩ := (X2.below hJ).u9; go_simp; exact hK.out _ _ rfl (br _ _)
    refine Jo.jm rfl ?_ ?_
    · rintro wj hJ K hK; simp only [Jo.z] at hK ⊢; obtain ⟨xX30, xX31, xX32, xX33, xX34, xX35, xX36, xX37, xX38⟩ := (X3.below hJ).u9; go_simp; exact hK.out _ _ rfl (br _ _)
    refine Jo.jm rfl ?_ ?_
    · rintro wj hJ _ rfl K hK; simp only [Jo.z] at hK ⊢; go_simp; refine (fkNeg hP hP' HY.out HM.out).mono ?_; rintro ee wk ⟨e1, K1, s1, M1, E1, K1b, s1b, M1b, E1b, rfl, v1, B⟩; exact hK.out _ _ ⟨e1, K1, s1, M1, E1, K1b, s1b, M1b, E1b, rfl, v1⟩ B
    refine Jo.jm rfl ?_ ?_
    · rintro wj hJ _ rfl _ ⟨e1, K1, s1, M1, E1, K1b, s1b, M1b, E1b, rfl, v1⟩ K hK; simp only [Jo.z] at hK ⊢; go_simp; exact hK.out _ _ ⟨_, 2, rfl, Il8.lit2 rfl ⟨hM, hM', HX.out⟩ v1.rw⟩ (bel1 _ _)
    refine Jo.jm rfl ?_ ?_
    · rintro wj hJ _ ⟨A3, c3, rfl, h3⟩ K hK; simp only [Jo.z] at hK ⊢; go_simp; refine (fkAdd (hT.below hJ) h3 HR.out).mono ?_; rintro ee wk ⟨e2, K2, s2, M2, E2, K2b, s2b, M2b, E2b, rfl, v2, B⟩; exact hK.out _ _ ⟨e2, K2, s2, M2, E2, K2b, s2b, M2b, E2b, rfl, v2⟩ B
    exact Jo.Steps.nil
  rintro w8 hJ _ rfl _ rfl _ ⟨e1, K1, s1, M1, E1, K1b, s1b, M1b, E1b, rfl, v1⟩ _ ⟨_, _, rfl, _⟩ _ ⟨e2, K2, s2, M2, E2, K2b, s2b, M2b, E2b, rfl, v2⟩ -; simp only [Jo.z]; replace X2 := X2.below hJ; replace X3 := X3.below hJ; replace XR := XR.below hJ; replace hT := hT.below hJ; replace HB := Lib.hid (bt HB.out hJ); obtain ⟨xXR0, xXR1, xXR2, xXR3, xXR4, xXR5, xXR6, xXR7, xXR8⟩ := XR.u9; have zXR0 := XR.frozen
  refine Jo.jnext (i := 5) (o := ⟨none, _, _, _, _, _⟩) (by kernel_rfl) rfl (fun K hK => ?_)
  go_simp; refine hK.out _ _ ?_; clear hK K xXR0 zXR0 xXR1 xXR2 xXR3 xXR4 xXR5 xXR6 xXR7 xXR8; have SX := StN.mk9 XR (.bool e2) (.int .i64 K2) (.bool s2) (.int .u64 M2) (.int .i64 E2) (.int .i64 K2b) (.bool s2b) (.int .u64 M2b) (.int .i64 E2b); refine Jo.jdone (by kernel_rfl) ?_; go_wp2; exact bodyPost_ret (by simp [results, Tryz.results14, go_sem, SX.box.cell]) rfl ⟨_, _, _, _, _, _, _, _, _, rfl, v2, (SX.below HB.out (by omega))⟩
end Go.Proofs.YteejbcimmmcnlaaGreatDoor

/-
  What the document's Root of layer 7 does.
-/
namespace Go.Proofs.YteejbcimmmcnlaaGreatDoor
open Go.RowKit
set_option linter.unusedVariables false
set_option linter.unusedSimpArgs false
set_option maxRecDepth 100000

/-- The root's place, and whether there is one. -/
def Ro (up : Bool) (x r : Int) (t : Bool) : Prop := if x < 0 then r = 0 ∧ t = false else if x = 0 ∨ infp x = true then r = x ∧ t = true else Rt up (vr x * 2 ^ KK) r ∧ t = true
theorem ro_it {up : Bool} {x r : Int} {t : Bool} (h : ¬ x < 0) (h2 : x = 0 ∨ infp x = true) : Ro up x r t ↔ (r = x ∧ t = true) := by
  unfold Ro
  rw [if_neg h, if_pos h2]
theorem ro_fin {up : Bool} {x r : Int} {t : Bool} (h : ¬ x < 0) (h2 : ¬ (x = 0 ∨ infp x = true)) : Ro up x r t ↔ (Rt up (vr x * 2 ^ KK) r ∧ t = true) := by
  unfold Ro
  rw [if_neg h, if_neg h2]
end Go.Proofs.YteejbcimmmcnlaaGreatDoor

/-
  How far from nought, squares and roots of intervals, by the places of their ends. Plain arithmetic; no Go text.
-/
namespace Go.Proofs.YteejbcimmmcnlaaGreatDoor
open Go.RowKit
set_option linter.unusedVariables false

def absI (x : Sp) : Sp := match x with
  | none => none
  | some (a, b) => if 0 ≤ a then some (a, b) else if b ≤ 0 then negI (some (a, b)) else mkI 0 (max b (-a))
def sqrI (x : Sp) : Sp := match absI x with
  | none => none
  | some (a, b) => mkI (mulp false a a) (mulp true b b)
/-- The roots' places as a function. -/
def RF (r : Bool → Int → Int) : Prop := ∀ up x, 0 ≤ x → Ro up x (r up x) true
theorem Rt.mono9 {up : Bool} {X Y r t : Int} (h : Rt up X r) (k : Rt up Y t) (hXY : X ≤ Y) : r ≤ t := by
  rcases Int.lt_or_le t r with c | c
  · exfalso
    cases up
    · obtain ⟨h1, h2, h3, h4⟩ := rt_f.1 h; obtain ⟨k1, k2, k3, k4⟩ := rt_f.1 k; have a := k4 (by omega); have b := vr_sq (r := t + 1) (t := r) (by omega) (by omega)
      omega
    · obtain ⟨h1, h2, h3, h4⟩ := rt_t.1 h; obtain ⟨k1, k2, k3, k4⟩ := rt_t.1 k; have a := k3 (by omega); have b := vr_sq (r := t) (t := r - 1) (by omega) (by omega)
      omega
  · exact c
theorem infp_top : infp 19342822337206103650074625 = true := by decide
section
variable {r : Bool → Int → Int}
theorem RF.zero (hr : RF r) (up : Bool) : r up 0 = 0 := ((ro_it (by decide) (.inl rfl)).1 (hr up 0 (by decide))).1
theorem RF.top (hr : RF r) (up : Bool) : r up 19342822337206103650074625 = 19342822337206103650074625 := ((ro_it (by decide) (.inr infp_top)).1 (hr up _ (by decide))).1
theorem RF.fin (hr : RF r) (up : Bool) {x : Int} (h0 : 0 < x) (h1 : x < 19342822337206103650074625) : Rt up (vr x * 2 ^ KK) (r up x) :=
  ((ro_fin (by omega) (by rw [infp_fin (by omega) h1]; simp; omega)).1 (hr up x (by omega))).1
theorem RF.in (hr : RF r) (up : Bool) {x : Int} (h0 : 0 ≤ x) (h1 : x ≤ 19342822337206103650074625) : 0 ≤ r up x ∧ r up x ≤ 19342822337206103650074625 := by
  by_cases c : x = 0
  · subst c; rw [hr.zero]
    decide
  · by_cases d : x = 19342822337206103650074625
    · subst d; rw [hr.top]
      decide
    · have := hr.fin up (x := x) (by omega) (by omega)
      cases up
      · have := rt_f.1 this
        omega
      · have := rt_t.1 this
        omega
theorem RF.mono (hr : RF r) (up : Bool) {x y : Int} (h0 : 0 ≤ x) (h : x ≤ y) (h1 : y ≤ 19342822337206103650074625) : r up x ≤ r up y := by
  have X := hr.in up h0 (by omega)
  have Y := hr.in up (show 0 ≤ y by omega) h1
  by_cases c : x = 0
  · subst c; rw [hr.zero]
    omega
  · by_cases d : y = 19342822337206103650074625
    · subst d; rw [hr.top]
      omega
    · exact (hr.fin up (by omega) (by omega)).mono9 (hr.fin up (by omega) (by omega)) (Int.mul_le_mul_of_nonneg_right (vr_le h) (Int.le_of_lt (p2pos KK)))
end
/-- How far from nought: the ends. -/
theorem abs_eq {a b : Int} (h : SpOk (some (a, b))) : absI (some (a, b)) = some (max 0 (max a (-b)), max b (-a)) ∧ SpOk (some (max 0 (max a (-b)), max b (-a))) := by
  obtain ⟨h1, h2, h3, h4, h5⟩ := h
  constructor
  · show (if _ then _ else _) = _
    by_cases c : 0 ≤ a
    · rw [if_pos c, show max 0 (max a (-b)) = a by omega, show max b (-a) = b by omega]
    · rw [if_neg c]
      by_cases d : b ≤ 0
      · rw [if_pos d, negI_some ⟨h1, h2, h3, h4, h5⟩, show max 0 (max a (-b)) = -b by omega, show max b (-a) = -a by omega]
      · rw [if_neg d, mkI_some (by omega) (by omega) (by omega), show max 0 (max a (-b)) = 0 by omega]
  · exact ⟨by omega, by omega, by omega, by omega, by omega⟩
theorem sqr_eq {a b : Int} (h : SpOk (some (a, b))) : sqrI (some (a, b)) = mkI (mulp false (max 0 (max a (-b))) (max 0 (max a (-b)))) (mulp true (max b (-a)) (max b (-a))) := by
  unfold sqrI
  rw [(abs_eq h).1]
section
variable {r : Bool → Int → Int}
end
end Go.Proofs.YteejbcimmmcnlaaGreatDoor

/-
  What the document's Abs and Sqr of intervals do.
-/
namespace Go.Proofs.YteejbcimmmcnlaaGreatDoor
open Go.RowKit
set_option linter.unusedVariables false
set_option linter.unusedSimpArgs false
set_option maxRecDepth 100000

def sqrM (x : Sp) : Sp := match x with
  | none => none
  | some (a, b) => mkI (mulp false a a) (mulp true b b)
theorem sqr_abs (x : Sp) : sqrI x = sqrM (absI x) := by
  unfold sqrI sqrM
  rfl
end Go.Proofs.YteejbcimmmcnlaaGreatDoor
