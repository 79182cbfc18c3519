/-
  The walk of IvopQuotients: for all arguments the call answers true, and nothing that was there has turned.
-/
import Derived.Below
import Derived.BigQuiet
import Derived.Carry
import Derived.Deep.DeepCutAuto
import Derived.Deep.Draws
import Derived.Deep.MidRow
import Derived.Deep.QuietTactic
import Derived.Deep.RegionHeld3
import Derived.Deep.RegionWith
import Derived.IntWalk
import Derived.Laws.Bits64b
import Derived.Laws.CopyOwn
import Derived.Laws.Externs
import Derived.Laws.MakeOwn
import Derived.Laws.OwnMore
import Derived.Laws.Rows
import Derived.Lib.BitFns
import Derived.Lib.Hide
import Derived.Lib.Mul64
import Derived.Lib.TrailingZeros
import Derived.Maps.AppendAt
import Derived.StillTailTactics
import Derived.Test.YteejbcimmmcnlaaDoorRows
import Derived.WalkKit
import Derived.WalkLawsBesides
import Derived.WalkSpells
import Derived.Test.YteejbcimmmcnlaaDoorYAau
import Derived.Test.YteejbcimmmcnlaaDoorYAax
import Derived.Test.YteejbcimmmcnlaaDoorYAba
import Derived.Test.YteejbcimmmcnlaaDoorYAbb
import Derived.Test.YteejbcimmmcnlaaDoorYAbd
import Derived.Test.YteejbcimmmcnlaaDoorYAbf
import Derived.Test.YteejbcimmmcnlaaDoorYAbg
import Derived.Test.YteejbcimmmcnlaaDoorYAbj
namespace Go.Proofs.YteejbcimmmcnlaaDoor
open Go.RowKit
set_option linter.unusedVariables false
set_option linter.unusedSimpArgs false
set_option maxRecDepth 100000

theorem quot_all {q : Bool → Int → Int → Int} {D1 M1 E1 D2 M2 E2 : Int} {s1 s2 : Bool} {B : Sp} {y z : Int} (hq : QF q) (u1 : M1 < 18446744073709551616) (u2 : M2 < 18446744073709551616) (oB : SpOk B) (hy : rk D1 s1 M1 E1 = y) (hz : rk D2 s2 M2 E2 = z) (hb : hasI B y = true) (hs : cmpI y 0 ≠ 0) (hk : ¬ D2 = 2) (hm : decide (MayQ D2 s2 M2 E2) = true)
    (h1 : ¬ (700 : Int) < E1) (h2 : ¬ E1 < -700) (h3 : ¬ (700 : Int) < E2) (h4 : ¬ E2 < -700) : hasI (divI q (mulI (mkI y y) (mkI z z)) B) z = true := by
  have f1 : Fz (rk D1 s1 M1 E1) 1600 := few_fz u1 (by unfold fewq; rw [decide_eq_true (show -1500 ≤ E1 by omega), decide_eq_true (show E1 ≤ 1500 by omega)]; simp)
  have f2 : Fz (rk D2 s2 M2 E2) 1600 := few_fz u2 (by unfold fewq; rw [decide_eq_true (show -1500 ≤ E2 by omega), decide_eq_true (show E2 ≤ 1500 by omega)]; simp)
  have bd := rk_bdn u1 hy; have qz := rk_fq u2 (of_decide_eq_true hm); rw [hy] at f1; rw [hz] at f2 qz
  have iz : infp z = false := by rw [fq_inf qz]; simpa using hk
  obtain ⟨z1, z2⟩ := infp_false qz.bd.1 qz.bd.2 iz
  have hy0 : y ≠ 0 := fun e => hs (by rw [e]; decide)
  rcases B with _ | ⟨c, d⟩
  · cases hb
  obtain ⟨y1, y2, _, _⟩ := has_out hb ⟨bd.1, bd.2⟩; have m1 := mulp_small f1 f2 (by decide) y1 y2 z1 z2 false; have m2 := mulp_small f1 f2 (by decide) y1 y2 z1 z2 true; exact quo_back hq oB hb hy0 y1 y2 z1 z2 m1.1 m2.2
set_option maxHeartbeats 8000000 in
theorem ivopQuotients_main (e0 : Bool) (D0 : Int) (s0 : Bool) (M0 E0 G0 : Int) (g0 : Bool) (P0 Q0 : Int) (D1 : Int) (s1 : Bool) (M1 E1 : Int) (D2 : Int) (s2 : Bool) (M2 E2 : Int) (w : World) (X : Sp) (y z σ : Int) (r m : Bool) {q : Bool → Int → Int → Int} (hq : QF q) (hT : Tab w) (u0 : M0 < 18446744073709551616) (v0 : P0 < 18446744073709551616) (w1 : 0 ≤ M1) (u1 : M1 < 18446744073709551616) (w2 : 0 ≤ M2) (u2 : M2 < 18446744073709551616)
    (hx : rkI e0 D0 s0 M0 E0 G0 g0 P0 Q0 = X) (hy : rk D1 s1 M1 E1 = y) (hz : rk D2 s2 M2 E2 = z) (h0 : hasI X y = r) (hs : cmpI (rk D1 s1 M1 E1) 0 = σ) (hm : decide (MayQ D2 s2 M2 E2) = m) :
    Calls Tryd.prog 3 #[.agg #[.bool e0, .int .i64 D0, .bool s0, .int .u64 M0, .int .i64 E0, .int .i64 G0, .bool g0, .int .u64 P0, .int .i64 Q0], .agg #[.int .i64 D1, .bool s1, .int .u64 M1, .int .i64 E1], .agg #[.int .i64 D2, .bool s2, .int .u64 M2, .int .i64 E2]] w (PB w true) := by
  have HX := Lib.hid hx; have HY := Lib.hid hy; have HZ := Lib.hid hz; have H0 := Lib.hid h0; have HS := Lib.hid hs; have HMY := Lib.hid hm; have HQ := Lib.hid hq; clear hx hy hz h0 hs hm hq
  go_enter Tryd.func3, Tryd.ntmps3
  go_upto_region 1 with (fail)
  generalize hW1 : ((w.alloc _).alloc _).alloc _ = w1 at *; obtain ⟨X0, X1, X2, HB⟩ := Bo.en3 hW1; replace hT := hT.below HB.out; clear hW1
  go_wp2_with fail
  refine (awake9 hT HQ.out).mono ?_; rintro ee w2 ⟨rfl, B⟩; replace X0 := X0.below B; replace X1 := X1.below B; replace X2 := X2.below B; replace hT := hT.below B; replace HB := Lib.hid (bt HB.out B); clear B; obtain ⟨xX00, xX01, xX02, xX03, xX04, xX05, xX06, xX07, xX08⟩ := X0.u9; obtain ⟨xX10, xX11, xX12, xX13⟩ := X1.u4
  go_wp2_with fail
  refine (kvHas u0 v0 u1 HX.out HY.out H0.out).mono ?_; rintro ee w3 ⟨rfl, B⟩; clear xX00 xX01 xX02 xX03 xX04 xX05 xX06 xX07 xX08 xX10 xX11 xX12 xX13; replace X0 := X0.below B; replace X1 := X1.below B; replace X2 := X2.below B; replace hT := hT.below B; replace HB := Lib.hid (bt HB.out B); clear B
  cases r
  · go_wp2
    go_ret
    exact ⟨rfl, HB.out⟩
  · obtain ⟨xX10, xX11, xX12, xX13⟩ := X1.u4
    go_wp2_with fail
    refine (nSign u1 HS.out).mono ?_; rintro ee w4 ⟨rfl, B⟩; clear xX10 xX11 xX12 xX13; replace X0 := X0.below B; replace X1 := X1.below B; replace X2 := X2.below B; replace hT := hT.below B; replace HB := Lib.hid (bt HB.out B); clear B
    by_cases hσ : σ = 0
    · subst hσ; go_wp2
      go_ret
      exact ⟨rfl, HB.out⟩
    · have e0 : (σ == 0) = false := by simpa using hσ
      by_cases hk : D2 = 2
      · subst hk; obtain ⟨xX20, xX21, xX22, xX23⟩ := X2.u4; go_wp2
        go_ret
        exact ⟨rfl, HB.out⟩
      · have e2 : (D2 == 2) = false := by simpa using hk
        obtain ⟨xX20, xX21, xX22, xX23⟩ := X2.u4
        go_wp2_with fail
        refine (nMay HMY.out).mono ?_; rintro ee w5 ⟨rfl, B⟩; clear xX20 xX21 xX22 xX23; replace X0 := X0.below B; replace X1 := X1.below B; replace X2 := X2.below B; replace hT := hT.below B; replace HB := Lib.hid (bt HB.out B); clear B
        cases m
        · go_wp2
          go_ret
          exact ⟨rfl, HB.out⟩
        · by_cases c0 : (700 : Int) < E1
          · have t0 : decide ((700 : Int) < E1) = true := decide_eq_true c0
            obtain ⟨xX10, xX11, xX12, xX13⟩ := X1.u4; obtain ⟨xX20, xX21, xX22, xX23⟩ := X2.u4; go_wp2
            go_ret
            exact ⟨rfl, HB.out⟩
          · have t0 : decide ((700 : Int) < E1) = false := decide_eq_false c0
            by_cases c1 : E1 < (-700 : Int)
            · have t1 : decide (E1 < (-700 : Int)) = true := decide_eq_true c1
              obtain ⟨xX10, xX11, xX12, xX13⟩ := X1.u4; obtain ⟨xX20, xX21, xX22, xX23⟩ := X2.u4; go_wp2
              go_ret
              exact ⟨rfl, HB.out⟩
            · have t1 : decide (E1 < (-700 : Int)) = false := decide_eq_false c1
              by_cases c2 : (700 : Int) < E2
              · have t2 : decide ((700 : Int) < E2) = true := decide_eq_true c2
                obtain ⟨xX10, xX11, xX12, xX13⟩ := X1.u4; obtain ⟨xX20, xX21, xX22, xX23⟩ := X2.u4; go_wp2
                go_ret
                exact ⟨rfl, HB.out⟩
              · have t2 : decide ((700 : Int) < E2) = false := decide_eq_false c2
                by_cases c3 : E2 < (-700 : Int)
                · have t3 : decide (E2 < (-700 : Int)) = true := decide_eq_true c3
                  obtain ⟨xX10, xX11, xX12, xX13⟩ := X1.u4; obtain ⟨xX20, xX21, xX22, xX23⟩ := X2.u4; go_wp2
                  go_ret
                  exact ⟨rfl, HB.out⟩
                · have t3 : decide (E2 < (-700 : Int)) = false := decide_eq_false c3
                  have hall := quot_all HQ.out u1 u2 (by rw [← HX.out]; exact rkI_ok u0 v0) HY.out HZ.out H0.out (by rw [← HY.out, HS.out]; exact hσ) hk HMY.out c0 c1 c2 c3; obtain ⟨p1, hp1⟩ : ∃ p, mkI y y = p := ⟨_, rfl⟩; obtain ⟨p2, hp2⟩ : ∃ p, mkI z z = p := ⟨_, rfl⟩; obtain ⟨pm, hpm⟩ : ∃ p, mulI p1 p2 = p := ⟨_, rfl⟩; obtain ⟨pd, hpd⟩ : ∃ p, divI q pm X = p := ⟨_, rfl⟩; rw [hp1, hp2, hpm, hpd] at hall
                  have HP1 := Lib.hid hp1; have HP2 := Lib.hid hp2; have HPM := Lib.hid hpm; have HPD := Lib.hid hpd; have HALL := Lib.hid hall; clear hp1 hp2 hpm hpd hall c0 c1 c2 c3 hk hσ; obtain ⟨xX10, xX11, xX12, xX13⟩ := X1.u4; obtain ⟨xX20, xX21, xX22, xX23⟩ := X2.u4
                  go_upto_region 4 with (fail)
                  clear xX10 xX11 xX12 xX13 xX20 xX21 xX22 xX23; have ltX0 := X0.lt; have ltX1 := X1.lt; have ltX2 := X2.lt; clear e0 e2 t0 t1 t2 t3; refine Jo.rk [0, 1, 2, 3, 4, 5] [some 55, some 56, some 57, some 58, some 59, some 8, none] [[], [0], [], [2], [1, 3], [], []] 7 1 [Jo.q4 D1 s1 M1 E1, Jo.Fact.iv p1, Jo.q4 D2 s2 M2 E2, Jo.Fact.iv p2, Jo.Fact.iv pm, Jo.Fact.bo w5.heap.size #[.bool false, .int .i64 0, .bool false, .int .u64 0, .int .i64 0, .int .i64 0, .bool false, .int .u64 0, .int .i64 0] 26, Jo.Fact.any] (by kernel_rfl) (by kernel_rfl) (by decide) rfl ?_ ?_
                  · refine Jo.jm rfl ?_ ?_
                    · rintro wj hJ K hK; simp only [Jo.z] at hK ⊢; obtain ⟨xX10, xX11, xX12, xX13⟩ := (X1.below hJ).u4; go_simp; exact hK.out _ _ rfl (br _ _)
                    refine Jo.jm rfl ?_ ?_
                    · rintro wj hJ _ rfl K hK; simp only [Jo.z] at hK ⊢; go_simp; refine (kvPoint u1 HY.out HP1.out).mono ?_; rintro ee wk ⟨e21, K21, s21, M21, E21, K21b, s21b, M21b, E21b, rfl, v21, B⟩; exact hK.out _ _ ⟨e21, K21, s21, M21, E21, K21b, s21b, M21b, E21b, rfl, v21⟩ B
                    refine Jo.jm rfl ?_ ?_
                    · rintro wj hJ K hK; simp only [Jo.z] at hK ⊢; obtain ⟨xX20, xX21, xX22, xX23⟩ := (X2.below hJ).u4; go_simp; exact hK.out _ _ rfl (br _ _)
                    refine Jo.jm rfl ?_ ?_
                    · rintro wj hJ _ rfl K hK; simp only [Jo.z] at hK ⊢; go_simp; refine (kvPoint u2 HZ.out HP2.out).mono ?_; rintro ee wk ⟨e22, K22, s22, M22, E22, K22b, s22b, M22b, E22b, rfl, v22, B⟩; exact hK.out _ _ ⟨e22, K22, s22, M22, E22, K22b, s22b, M22b, E22b, rfl, v22⟩ B
                    refine Jo.jm rfl ?_ ?_
                    · rintro wj hJ _ ⟨e21, K21, s21, M21, E21, K21b, s21b, M21b, E21b, rfl, v21⟩ _ ⟨e22, K22, s22, M22, E22, K22b, s22b, M22b, E22b, rfl, v22⟩ K hK; simp only [Jo.z] at hK ⊢; go_simp; refine (fkMul v21.top.1 v21.top.2 v22.top.1 v22.top.2 v21.rk v22.rk HPM.out).mono ?_; rintro ee wk ⟨e23, K23, s23, M23, E23, K23b, s23b, M23b, E23b, rfl, v23, B⟩; exact hK.out _ _ ⟨e23, K23, s23, M23, E23, K23b, s23b, M23b, E23b, rfl, v23⟩ B
                    refine Jo.jm rfl ?_ ?_
                    · rintro wj hJ K hK; simp only [Jo.z] at hK ⊢; go_simp; exact hK.out _ _ ⟨_, rfl, hJ.size, Bo.new _ _ _⟩ (bel1 _ _)
                    exact Jo.Steps.nil
                  rintro w6 hJ _ rfl _ ⟨e21, K21, s21, M21, E21, K21b, s21b, M21b, E21b, rfl, v21⟩ _ rfl _ ⟨e22, K22, s22, M22, E22, K22b, s22b, M22b, E22b, rfl, v22⟩ _ ⟨e23, K23, s23, M23, E23, K23b, s23b, M23b, E23b, rfl, v23⟩ _ ⟨g8, rfl, hg8, X8⟩ -; simp only [Jo.z]; replace X0 := X0.below hJ; replace X1 := X1.below hJ; replace X2 := X2.below hJ; replace hT := hT.below hJ; replace HB := Lib.hid (bt HB.out hJ)
                  obtain ⟨xX80, xX81, xX82, xX83, xX84, xX85, xX86, xX87, xX88⟩ := X8.u9; have zX80 := X8.frozen
                  refine Jo.jnext (i := 6) (o := ⟨none, _, _, _, _, _⟩) (by kernel_rfl) rfl (fun K hK => ?_)
                  go_simp; refine hK.out _ _ ?_; clear hK K xX80 zX80 xX81 xX82 xX83 xX84 xX85 xX86 xX87 xX88; generalize hS : ((((((((w6.setCell _ _).setCell _ _).setCell _ _).setCell _ _).setCell _ _).setCell _ _).setCell _ _).setCell _ _).setCell _ _ = w7 at *; have SX := StN.of9 X8 hS; replace X0 := X0.stn SX (by omega); replace X1 := X1.stn SX (by omega); replace X2 := X2.stn SX (by omega); replace hT := hT.stn SX (by simp [no8])
                  replace HB := Lib.hid (SX.below HB.out (by omega)); replace X8 := SX.box; clear SX hS; refine Jo.jdone (by kernel_rfl) ?_; clear ltX0; clear ltX1; clear ltX2; obtain ⟨xX80, xX81, xX82, xX83, xX84, xX85, xX86, xX87, xX88⟩ := X8.u9; obtain ⟨xX00, xX01, xX02, xX03, xX04, xX05, xX06, xX07, xX08⟩ := X0.u9
                  go_wp2_with fail
                  refine (fkDiv hT HQ.out v23.top.1 v23.top.2 u0 v0 v23.rk HX.out HPD.out).mono ?_; rintro ee w8 ⟨e24, K24, s24, M24, E24, K24b, s24b, M24b, E24b, rfl, v24, B⟩; clear xX80 xX81 xX82 xX83 xX84 xX85 xX86 xX87 xX88 xX00 xX01 xX02 xX03 xX04 xX05 xX06 xX07 xX08; replace X0 := X0.below B; replace X1 := X1.below B; replace X2 := X2.below B; replace X8 := X8.below B; replace hT := hT.below B
                  replace HB := Lib.hid (bt HB.out B); clear B
                  go_upto_region 6 with (fail)
                  have lX9 := Nat.le_refl (World.heap w8).size; have nX9X0 := X0.lt; have nX9X1 := X1.lt; have nX9X2 := X2.lt; have nX9X8 := X8.lt; generalize hWn : w8.alloc _ = w9 at *; obtain ⟨X9, BW⟩ := Bo.nw hWn; clear hWn; replace X0 := X0.below BW; replace X1 := X1.below BW; replace X2 := X2.below BW; replace X8 := X8.below BW; replace hT := hT.below BW; replace HB := Lib.hid (bt HB.out BW); clear BW
                  clear lX9; obtain ⟨xX90, xX91, xX92, xX93, xX94, xX95, xX96, xX97, xX98⟩ := X9.u9; obtain ⟨xX20, xX21, xX22, xX23⟩ := X2.u4
                  go_wp2_with fail
                  refine (kvHas v24.top.1 v24.top.2 u2 v24.rk HZ.out HALL.out).mono ?_; rintro ee wA ⟨rfl, B⟩; clear xX90 xX91 xX92 xX93 xX94 xX95 xX96 xX97 xX98 xX20 xX21 xX22 xX23; replace X0 := X0.below B; replace X1 := X1.below B; replace X2 := X2.below B; replace X8 := X8.below B; replace X9 := X9.below B; replace hT := hT.below B; replace HB := Lib.hid (bt HB.out B); clear B; go_wp2
                  go_ret
                  exact ⟨rfl, HB.out⟩

theorem ivopQuotients_walk (e0 : Bool) (D0 : Int) (s0 : Bool) (M0 E0 G0 : Int) (g0 : Bool) (P0 Q0 : Int) (D1 : Int) (s1 : Bool) (M1 E1 : Int) (D2 : Int) (s2 : Bool) (M2 E2 : Int) (w : World) (hT : Tab w) (u0 : M0 < 18446744073709551616) (v0 : P0 < 18446744073709551616) (w1 : 0 ≤ M1) (u1 : M1 < 18446744073709551616) (w2 : 0 ≤ M2) (u2 : M2 < 18446744073709551616) :
    Calls Tryd.prog 3 #[.agg #[.bool e0, .int .i64 D0, .bool s0, .int .u64 M0, .int .i64 E0, .int .i64 G0, .bool g0, .int .u64 P0, .int .i64 Q0], .agg #[.int .i64 D1, .bool s1, .int .u64 M1, .int .i64 E1], .agg #[.int .i64 D2, .bool s2, .int .u64 M2, .int .i64 E2]] w fun e w' => e = .returned (.bool true) ∧ Below w.heap.size w w' := by
  obtain ⟨q, hq⟩ := qf_ex; exact ivopQuotients_main e0 D0 s0 M0 E0 G0 g0 P0 Q0 D1 s1 M1 E1 D2 s2 M2 E2 w _ _ _ _ _ _ hq hT u0 v0 w1 u1 w2 u2 rfl rfl rfl rfl rfl rfl
end Go.Proofs.YteejbcimmmcnlaaDoor
