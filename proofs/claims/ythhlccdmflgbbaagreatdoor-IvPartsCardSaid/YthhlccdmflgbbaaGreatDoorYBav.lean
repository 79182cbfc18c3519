/-
  Contracts and words that the statement's proof rests on, several texts in one: Cj, Cg.
-/
import Derived.Test.YthhlccdmflgbbaaGreatDoorYBaq
import Derived.Test.YthhlccdmflgbbaaGreatDoorYBat
import Derived.Test.YthhlccdmflgbbaaGreatDoorYBau
/-
  What every statement of layer 8 begins with: the chapter's examples.
-/
namespace Go.Proofs.YthhlccdmflgbbaaGreatDoor
open Go.RowKit
set_option linter.unusedVariables false
set_option linter.unusedSimpArgs false
set_option maxRecDepth 100000

/-- The cells of some interval, and what it is taken for. -/
def Rw (e : Bool) (K : Int) (s : Bool) (M E K' : Int) (s' : Bool) (M' E' : Int) (x : Sp) : Prop := M < 18446744073709551616 ∧ M' < 18446744073709551616 ∧ rkI e K s M E K' s' M' E' = x
theorem Ci.rw {e : Bool} {K M E K' M' E' : Int} {s s' : Bool} {x : Sp} (h : Ci e K s M E K' s' M' E' x) : Rw e K s M E K' s' M' E' x := ⟨h.top.1, h.top.2, h.rk⟩
def Jo.Fact.il8 (n : Nat) (l : List Sp) : Jo.Fact := ⟨fun v w => ∃ A c, v = .slice A n c ∧ Il8 w A n c l, fun v w w' h b => by
  obtain ⟨A, c, e, h⟩ := h; exact ⟨A, c, e, h.below b⟩⟩
theorem Il8.lit2 {W : World} {h : Nat} {K1 M1 E1 G1 P1 Q1 K2 M2 E2 G2 P2 Q2 : Int} {e1 s1 g1 e2 s2 g2 : Bool} {x1 x2 : Sp} (hg : W.heap.size = h) (v1 : Rw e1 K1 s1 M1 E1 G1 g1 P1 Q1 x1) (v2 : Rw e2 K2 s2 M2 E2 G2 g2 P2 Q2 x2) :
    Il8 (W.alloc (.cells #[.bool e1, .int .i64 K1, .bool s1, .int .u64 M1, .int .i64 E1, .int .i64 G1, .bool g1, .int .u64 P1, .int .i64 Q1, .bool e2, .int .i64 K2, .bool s2, .int .u64 M2, .int .i64 E2, .int .i64 G2, .bool g2, .int .u64 P2, .int .i64 Q2] 26)) (some ⟨h, 0, none⟩) 2 2 [x1, x2] := by
  subst hg; have hh := heap_alloc_new W (.cells #[.bool e1, .int .i64 K1, .bool s1, .int .u64 M1, .int .i64 E1, .int .i64 G1, .bool g1, .int .u64 P1, .int .i64 Q1, .bool e2, .int .i64 K2, .bool s2, .int .u64 M2, .int .i64 E2, .int .i64 G2, .bool g2, .int .u64 P2, .int .i64 Q2] 26)
  refine ⟨rfl, Nat.le_refl _, by decide, fun _ => ⟨_, 0, rfl, fun k hk => ?_⟩⟩
  rcases (by omega : k = 0 ∨ k = 1) with rfl | rfl
  · exact ⟨e1, K1, s1, M1, E1, G1, g1, P1, Q1, by rw [cell_of_row _ _ _ _ _ _ hh]; rfl, by rw [cell_of_row _ _ _ _ _ _ hh]; rfl, by rw [cell_of_row _ _ _ _ _ _ hh]; rfl, by rw [cell_of_row _ _ _ _ _ _ hh]; rfl, by rw [cell_of_row _ _ _ _ _ _ hh]; rfl, by rw [cell_of_row _ _ _ _ _ _ hh]; rfl, by rw [cell_of_row _ _ _ _ _ _ hh]; rfl, by rw [cell_of_row _ _ _ _ _ _ hh]; rfl, by rw [cell_of_row _ _ _ _ _ _ hh]; rfl, v1.1, v1.2.1, v1.2.2⟩
  · exact ⟨e2, K2, s2, M2, E2, G2, g2, P2, Q2, by rw [cell_of_row _ _ _ _ _ _ hh]; rfl, by rw [cell_of_row _ _ _ _ _ _ hh]; rfl, by rw [cell_of_row _ _ _ _ _ _ hh]; rfl, by rw [cell_of_row _ _ _ _ _ _ hh]; rfl, by rw [cell_of_row _ _ _ _ _ _ hh]; rfl, by rw [cell_of_row _ _ _ _ _ _ hh]; rfl, by rw [cell_of_row _ _ _ _ _ _ hh]; rfl, by rw [cell_of_row _ _ _ _ _ _ hh]; rfl, by rw [cell_of_row _ _ _ _ _ _ hh]; rfl, v2.1, v2.2.1, v2.2.2⟩
set_option maxHeartbeats 1000000 in
theorem kvOf {w : World} {a b oa ob : Int} {x : Sp} (a1 : -9223372036854775808 ≤ a) (a2 : a ≤ 9223372036854775807) (b1 : -9223372036854775808 ≤ b) (b2 : b ≤ 9223372036854775807) (ha : sgi (decide (a < 0)) (lo a.natAbs 0) = oa) (hb : sgi (decide (b < 0)) (lo b.natAbs 0) = ob) (hx : mkI oa ob = x) : Calls Tryz.prog 16 #[.int .i64 a, .int .i64 b] w (PV w x) := by
  have HA := Lib.hid ha; have HBB := Lib.hid hb; have HX := Lib.hid hx; clear ha hb hx
  go_enter Tryz.func16, Tryz.ntmps16
  go_upto_region 1 with (fail)
  generalize hW1 : w.alloc _ = w1 at *; obtain ⟨XR, HB⟩ := Bo.en1 hW1; clear hW1
  go_wp2_with fail
  refine (nOf _ a1 a2 HA.out).mono ?_; rintro ee w2 ⟨K1, s1, M1, E1, rfl, q1, B⟩; replace XR := XR.below B; replace HB := Lib.hid (bt HB.out B); clear B
  go_wp2_with fail
  refine (nOf _ b1 b2 HBB.out).mono ?_; rintro ee w3 ⟨K2, s2, M2, E2, rfl, q2, B⟩; replace XR := XR.below B; replace HB := Lib.hid (bt HB.out B); clear B
  go_wp2_with fail
  refine (kvMake q1.top q2.top q1.rk q2.rk HX.out).mono ?_; rintro ee w4 ⟨e3, K3, s3, M3, E3, K3b, s3b, M3b, E3b, rfl, v3, B⟩; replace XR := XR.below B; replace HB := Lib.hid (bt HB.out B); clear B; obtain ⟨xXR0, xXR1, xXR2, xXR3, xXR4, xXR5, xXR6, xXR7, xXR8⟩ := XR.u9; have zXR0 := XR.frozen; go_wp2; clear xXR0 zXR0 xXR1 xXR2 xXR3 xXR4 xXR5 xXR6 xXR7 xXR8; have SX := StN.mk9 XR (.bool e3) (.int .i64 K3) (.bool s3) (.int .u64 M3) (.int .i64 E3) (.int .i64 K3b) (.bool s3b) (.int .u64 M3b) (.int .i64 E3b)
  exact bodyPost_ret (by simp [results, Tryz.results16, go_sem, SX.box.cell]) rfl ⟨_, _, _, _, _, _, _, _, _, rfl, v3, (SX.below HB.out (by omega))⟩
theorem fin_one8 {K M E r : Int} {s : Bool} (q : Fq K s M E r) (h0 : 0 < r) (h1 : r < 19342822337206103650074625) : K = 1 := by
  rcases q.cases with ⟨rfl, rfl, rfl, rfl, h⟩ | ⟨rfl, _⟩ | ⟨rfl, rfl, rfl, ⟨rfl, h⟩ | ⟨rfl, h⟩⟩
  · omega
  · rfl
  · omega
  · omega
theorem five : ∃ o1 o2 o3 o4 : Int, opl 0 = 0 ∧ opl 1 = o1 ∧ opl 2 = o2 ∧ opl 3 = o3 ∧ opl 4 = o4 ∧ 0 < o1 ∧ o1 < o2 ∧ o2 < o3 ∧ o3 < o4 ∧ o4 < 19342822337206103650074625 := by
  have lt : ∀ a b : Int, 0 ≤ a → a < b → b ≤ 4 → opl a < opl b := fun a b h0 h h4 => by
    have := opl_cmp (a := a) (b := b) (by omega) (by omega) (by omega) (by omega)
    rw [cmpI_lt h] at this
    rcases cmpI_tri (opl a) (opl b) with ⟨c, d⟩ | ⟨c, d⟩ | ⟨c, d⟩ <;> omega
  have z : opl 0 = 0 := rfl
  refine ⟨_, _, _, _, z, rfl, rfl, rfl, rfl, ?_, lt 1 2 (by decide) (by decide) (by decide), lt 2 3 (by decide) (by decide) (by decide), lt 3 4 (by decide) (by decide) (by decide), (opl_pos (n := 4) (by decide) (by decide)).2⟩
  have := lt 0 1 (by decide) (by decide) (by decide)
  rw [z] at this; exact this
set_option maxHeartbeats 8000000 in
theorem awake8 {w : World} : Calls Tryz.prog 4 #[] w (PB w true) := by
  obtain ⟨o1, o2, o3, o4, e0, e1, e2, e3, e4, l1, l2, l3, l4, l5⟩ := five
  have H0 : Hid (sgi (decide ((0 : Int) < 0)) (lo (0 : Int).natAbs 0) = 0) := Lib.hid e0
  have H1 : Hid (sgi (decide ((1 : Int) < 0)) (lo (1 : Int).natAbs 0) = o1) := Lib.hid e1
  have H2 : Hid (sgi (decide ((2 : Int) < 0)) (lo (2 : Int).natAbs 0) = o2) := Lib.hid e2
  have H3 : Hid (sgi (decide ((3 : Int) < 0)) (lo (3 : Int).natAbs 0) = o3) := Lib.hid e3
  have H4 : Hid (sgi (decide ((4 : Int) < 0)) (lo (4 : Int).natAbs 0) = o4) := Lib.hid e4
  have S : ∀ {a b : Int}, a < b → 0 ≤ a → b ≤ o4 → mkI a b = some (a, b) := fun h h1 h2 => mkI_some (by omega) (by omega) (by omega)
  have M02 := Lib.hid (S (a := 0) (b := o2) (by omega) (by omega) (by omega)); have M13 := Lib.hid (S (a := o1) (b := o3) (by omega) (by omega) (by omega)); have M12 := Lib.hid (S (a := o1) (b := o2) (by omega) (by omega) (by omega)); have M01 := Lib.hid (S (a := 0) (b := o1) (by omega) (by omega) (by omega)); have M34 := Lib.hid (S (a := o3) (b := o4) (by omega) (by omega) (by omega)); have M04 := Lib.hid (S (a := 0) (b := o4) (by omega) (by omega) (by omega))
  have HME : Hid (meetL [some (0, o2), some (o1, o3)] = some (o1, o2)) := Lib.hid (by
    show meetI (meetI allI (some (0, o2))) (some (o1, o3)) = _
    rw [meet_all (x := some (0, o2)) ⟨by omega, by omega, by omega, by omega, by omega⟩]
    show mkI (max 0 o1) (min o2 o3) = _
    rw [show max 0 o1 = o1 by omega, show min o2 o3 = o2 by omega]
    exact M12.out)
  have HHU : Hid (hullL [some (0, o1), some (o3, o4)] = some (0, o4)) := Lib.hid (by
    show mkI (min 0 o3) (max o1 o4) = _
    rw [show min 0 o3 = 0 by omega, show max o1 o4 = o4 by omega]
    exact M04.out)
  have HHA : Hid (hasI (some (o1, o2)) o2 = true) := Lib.hid (has_in (by omega) (by omega) (by omega) (by omega))
  have HLT := Lib.hid (show 0 < o1 ∧ o1 < 19342822337206103650074625 by omega)
  clear S e0 e1 e2 e3 e4 l1 l2 l3 l4 l5
  go_enter Tryz.func4, Tryz.ntmps4
  have HB := Lib.hid (Below.refl w.heap.size w)
  go_wp2_with fail
  refine (kvOf (by decide) (by decide) (by decide) (by decide) H0.out H2.out M02.out).mono ?_; rintro ee w1 ⟨e1, K1, s1, M1, E1, K1b, s1b, M1b, E1b, rfl, v1, B⟩; replace HB := Lib.hid (bt HB.out B); clear B
  go_wp2_with fail
  refine (kvOf (by decide) (by decide) (by decide) (by decide) H1.out H3.out M13.out).mono ?_; rintro ee w2 ⟨e2, K2, s2, M2, E2, K2b, s2b, M2b, E2b, rfl, v2, B⟩; replace HB := Lib.hid (bt HB.out B); clear B
  go_wp2_with fail
  refine (kvMeet (Il8.lit2 rfl v1.rw v2.rw) HME.out).mono ?_; rintro ee w3 ⟨e3, K3, s3, M3, E3, K3b, s3b, M3b, E3b, rfl, v3, B⟩; replace B := bt (bel1 _ _) B; replace HB := Lib.hid (bt HB.out B); clear B; clear v1 v2; obtain ⟨rfl, a3, b3, o3a, o3l, o3h⟩ := v3
  obtain rfl : K3 = 1 := fin_one8 a3 HLT.out.1 HLT.out.2
  go_upto_region 2 with (fail)
  have lX1 := Nat.le_refl (World.heap w3).size; generalize hWn : w3.alloc _ = w4 at *; obtain ⟨X1, BW⟩ := Bo.nw hWn; clear hWn; replace HB := Lib.hid (bt HB.out BW); clear BW; clear lX1
  have v3 : Ci false 1 s3 M3 E3 K3b s3b M3b E3b (some (o1, o2)) := ⟨rfl, a3, b3, o3a, o3l, o3h⟩
  refine Jo.rj [0, 1, 2, 3, 4, 5, 6, 7, 8, 9, 10, 11, 12, 13, 14, 15, 16, 17, 18, 19, 20, 21, 22, 23, 24, 25, 26, 27, 28, 29, 30, 31, 32, 33] [some 6, some 7, some 8, some 9, some 10, some 11, some 12, some 13, some 14, some 15, some 16, some 17, some 18, some 19, some 20, some 21, some 22, some 23, some 24, some 25, some 26, some 27, some 28, some 29, some 30, some 31, some 32, some 33, some 34, some 35, some 36, some 37, some 38, some 0] [[], [], [0, 1], [2], [3], [3, 4], [3, 5], [3, 6], [7], [8], [8, 9], [8], [8, 10, 11], [8, 12], [13], [14], [14, 15], [14, 16], [14, 17], [14, 18], [19], [20], [20], [20, 21, 22], [20, 23], [20], [20, 24, 25], [20, 26], [27], [28], [28], [28, 29, 30], [28, 31], [32]] 34 [(some 6, 0), (some 7, 1), (some 8, 2), (some 9, 3), (some 10, 4), (some 11, 5), (some 12, 6), (some 13, 7), (some 14, 8), (some 15, 9), (some 16, 10), (some 17, 11), (some 18, 12), (some 19, 13), (some 20, 14), (some 21, 15), (some 22, 16), (some 23, 17), (some 24, 18), (some 25, 19), (some 26, 20), (some 27, 21), (some 28, 22), (some 29, 23), (some 30, 24), (some 31, 25), (some 32, 26), (some 33, 27), (some 34, 28), (some 35, 29), (some 36, 30), (some 37, 31), (some 38, 32), (some 0, 33)] 0 [Jo.q9 false 1 s3 M3 E3 K3b s3b M3b E3b, Jo.Fact.iv (some (o1, o2)), Jo.qb true, Jo.qb true, Jo.qp w3.heap.size 0, Jo.qb false, Jo.qb true, Jo.qb true, Jo.qb true, Jo.qp w3.heap.size 1, Jo.q4 1 s3 M3 E3, Jo.Fact.num o1, Jo.qb true, Jo.qb true, Jo.qb true, Jo.qp w3.heap.size 1, Jo.qp w3.heap.size 1, Jo.qi 1, Jo.qb true, Jo.qb true, Jo.qb true, Jo.Fact.iv (some (0, o1)), Jo.Fact.iv (some (o3, o4)), Jo.Fact.il8 2 [some (0, o1), some (o3, o4)], Jo.Fact.iv (some (0, o4)), Jo.Fact.iv (some (0, o4)), Jo.qb true, Jo.qb true, Jo.qb true, Jo.q9 false 1 s3 M3 E3 K3b s3b M3b E3b, Jo.Fact.num o2, Jo.qb true, Jo.qb true, Jo.qb true] (by kernel_rfl) (by kernel_rfl) (by decide) rfl rfl ?_ ?_
  · refine Jo.jn 0 (some 6) [] _ rfl rfl rfl rfl ?_ ?_
    · rintro wj hJ K hK; simp only [Jo.z] at hK ⊢; obtain ⟨xX10, xX11, xX12, xX13, xX14, xX15, xX16, xX17, xX18⟩ := (X1.below hJ).u9; go_simp; exact hK.out _ _ rfl (br _ _)
    refine Jo.jn 1 (some 7) [] _ rfl rfl rfl rfl ?_ ?_
    · rintro wj hJ K hK; simp only [Jo.z] at hK ⊢; go_simp; refine (kvOf (by decide) (by decide) (by decide) (by decide) H1.out H2.out M12.out).mono ?_; rintro ee wk ⟨e4, K4, s4, M4, E4, K4b, s4b, M4b, E4b, rfl, v4, B⟩; exact hK.out _ _ ⟨e4, K4, s4, M4, E4, K4b, s4b, M4b, E4b, rfl, v4⟩ B
    refine Jo.jn 2 (some 8) [(some 6, 0), (some 7, 1)] _ rfl rfl rfl rfl ?_ ?_
    · rintro wj hJ _ rfl _ ⟨e4, K4, s4, M4, E4, K4b, s4b, M4b, E4b, rfl, v4⟩ K hK; simp only [Jo.z] at hK ⊢; obtain ⟨rfl, rfl, rfl, rfl, rfl, rfl, rfl, rfl, rfl⟩ := v3.uniq v4; go_simp
      exact hK.out _ _ (by first | rfl | (show Value.bool _ = Value.bool _; simp)) (br _ _)
    refine Jo.jn 3 (some 9) [(some 8, 2)] _ rfl rfl rfl rfl ?_ ?_
    · rintro wj hJ _ rfl K hK; simp only [Jo.z] at hK ⊢; go_simp; exact hK.out _ _ rfl (br _ _)
    refine Jo.jn 4 (some 10) [(some 9, 3)] _ rfl rfl rfl rfl ?_ ?_
    · rintro wj hJ _ rfl K hK; simp only [Jo.z] at hK ⊢; go_simp; exact hK.out _ _ rfl (br _ _)
    refine Jo.jn 5 (some 11) [(some 9, 3), (some 10, 4)] _ rfl rfl rfl rfl ?_ ?_
    · rintro wj hJ _ rfl _ rfl K hK; simp only [Jo.z] at hK ⊢; have xX10 := (X1.below hJ).a 0 (.bool false) rfl; go_simp; exact hK.out _ _ rfl (br _ _)
    refine Jo.jn 6 (some 12) [(some 9, 3), (some 11, 5)] _ rfl rfl rfl rfl ?_ ?_
    · rintro wj hJ _ rfl _ rfl K hK; simp only [Jo.z] at hK ⊢; go_simp; exact hK.out _ _ rfl (br _ _)
    refine Jo.jn 7 (some 13) [(some 9, 3), (some 12, 6)] _ rfl rfl rfl rfl ?_ ?_
    · rintro wj hJ _ rfl _ rfl K hK; simp only [Jo.z] at hK ⊢; go_simp; exact hK.out _ _ rfl (br _ _)
    refine Jo.jn 8 (some 14) [(some 13, 7)] _ rfl rfl rfl rfl ?_ ?_
    · rintro wj hJ _ rfl K hK; simp only [Jo.z] at hK ⊢; go_simp; exact hK.out _ _ rfl (br _ _)
    refine Jo.jn 9 (some 15) [(some 14, 8)] _ rfl rfl rfl rfl ?_ ?_
    · rintro wj hJ _ rfl K hK; simp only [Jo.z] at hK ⊢; go_simp; exact hK.out _ _ rfl (br _ _)
    refine Jo.jn 10 (some 16) [(some 14, 8), (some 15, 9)] _ rfl rfl rfl rfl ?_ ?_
    · rintro wj hJ _ rfl _ rfl K hK; simp only [Jo.z] at hK ⊢; obtain ⟨xX11, xX12, xX13, xX14⟩ := (X1.below hJ).w9; go_simp; exact hK.out _ _ rfl (br _ _)
    refine Jo.jn 11 (some 17) [(some 14, 8)] _ rfl rfl rfl rfl ?_ ?_
    · rintro wj hJ _ rfl K hK; simp only [Jo.z] at hK ⊢; go_simp; refine (nOf _ (by decide) (by decide) H1.out).mono ?_; rintro ee wk ⟨K5, s5, M5, E5, rfl, q5, B⟩; exact hK.out _ _ ⟨K5, s5, M5, E5, rfl, q5⟩ B
    refine Jo.jn 12 (some 18) [(some 14, 8), (some 16, 10), (some 17, 11)] _ rfl rfl rfl rfl ?_ ?_
    · rintro wj hJ _ rfl _ rfl _ ⟨K5, s5, M5, E5, rfl, q5⟩ K hK; simp only [Jo.z] at hK ⊢; obtain ⟨rfl, rfl, rfl, rfl⟩ := a3.uniq q5; go_simp
      exact hK.out _ _ (by first | rfl | (show Value.bool _ = Value.bool _; simp)) (br _ _)
    refine Jo.jn 13 (some 19) [(some 14, 8), (some 18, 12)] _ rfl rfl rfl rfl ?_ ?_
    · rintro wj hJ _ rfl _ rfl K hK; simp only [Jo.z] at hK ⊢; go_simp; exact hK.out _ _ rfl (br _ _)
    refine Jo.jn 14 (some 20) [(some 19, 13)] _ rfl rfl rfl rfl ?_ ?_
    · rintro wj hJ _ rfl K hK; simp only [Jo.z] at hK ⊢; go_simp; exact hK.out _ _ rfl (br _ _)
    refine Jo.jn 15 (some 21) [(some 20, 14)] _ rfl rfl rfl rfl ?_ ?_
    · rintro wj hJ _ rfl K hK; simp only [Jo.z] at hK ⊢; go_simp; exact hK.out _ _ rfl (br _ _)
    refine Jo.jn 16 (some 22) [(some 20, 14), (some 21, 15)] _ rfl rfl rfl rfl ?_ ?_
    · rintro wj hJ _ rfl _ rfl K hK; simp only [Jo.z] at hK ⊢; go_simp; exact hK.out _ _ rfl (br _ _)
    refine Jo.jn 17 (some 23) [(some 20, 14), (some 22, 16)] _ rfl rfl rfl rfl ?_ ?_
    · rintro wj hJ _ rfl _ rfl K hK; simp only [Jo.z] at hK ⊢; have xX11 := (X1.below hJ).a 1 (.int .i64 1) rfl; go_simp; exact hK.out _ _ rfl (br _ _)
    refine Jo.jn 18 (some 24) [(some 20, 14), (some 23, 17)] _ rfl rfl rfl rfl ?_ ?_
    · rintro wj hJ _ rfl _ rfl K hK; simp only [Jo.z] at hK ⊢; go_simp
      exact hK.out _ _ (by first | rfl | simp) (br _ _)
    refine Jo.jn 19 (some 25) [(some 20, 14), (some 24, 18)] _ rfl rfl rfl rfl ?_ ?_
    · rintro wj hJ _ rfl _ rfl K hK; simp only [Jo.z] at hK ⊢; go_simp; exact hK.out _ _ rfl (br _ _)
    refine Jo.jn 20 (some 26) [(some 25, 19)] _ rfl rfl rfl rfl ?_ ?_
    · rintro wj hJ _ rfl K hK; simp only [Jo.z] at hK ⊢; go_simp; exact hK.out _ _ rfl (br _ _)
    refine Jo.jn 21 (some 27) [(some 26, 20)] _ rfl rfl rfl rfl ?_ ?_
    · rintro wj hJ _ rfl K hK; simp only [Jo.z] at hK ⊢; go_simp; refine (kvOf (by decide) (by decide) (by decide) (by decide) H0.out H1.out M01.out).mono ?_; rintro ee wk ⟨e6, K6, s6, M6, E6, K6b, s6b, M6b, E6b, rfl, v6, B⟩; exact hK.out _ _ ⟨e6, K6, s6, M6, E6, K6b, s6b, M6b, E6b, rfl, v6⟩ B
    refine Jo.jn 22 (some 28) [(some 26, 20)] _ rfl rfl rfl rfl ?_ ?_
    · rintro wj hJ _ rfl K hK; simp only [Jo.z] at hK ⊢; go_simp; refine (kvOf (by decide) (by decide) (by decide) (by decide) H3.out H4.out M34.out).mono ?_; rintro ee wk ⟨e7, K7, s7, M7, E7, K7b, s7b, M7b, E7b, rfl, v7, B⟩; exact hK.out _ _ ⟨e7, K7, s7, M7, E7, K7b, s7b, M7b, E7b, rfl, v7⟩ B
    refine Jo.jn 23 (some 29) [(some 26, 20), (some 27, 21), (some 28, 22)] _ rfl rfl rfl rfl ?_ ?_
    · rintro wj hJ _ rfl _ ⟨e6, K6, s6, M6, E6, K6b, s6b, M6b, E6b, rfl, v6⟩ _ ⟨e7, K7, s7, M7, E7, K7b, s7b, M7b, E7b, rfl, v7⟩ K hK; simp only [Jo.z] at hK ⊢; go_simp; exact hK.out _ _ ⟨_, 2, rfl, Il8.lit2 rfl v6.rw v7.rw⟩ (bel1 _ _)
    refine Jo.jn 24 (some 30) [(some 26, 20), (some 29, 23)] _ rfl rfl rfl rfl ?_ ?_
    · rintro wj hJ _ rfl _ ⟨A8, c8, rfl, h8⟩ K hK; simp only [Jo.z] at hK ⊢; go_simp; refine (kvHull h8 HHU.out).mono ?_; rintro ee wk ⟨e9, K9, s9, M9, E9, K9b, s9b, M9b, E9b, rfl, v9, B⟩; exact hK.out _ _ ⟨e9, K9, s9, M9, E9, K9b, s9b, M9b, E9b, rfl, v9⟩ B
    refine Jo.jn 25 (some 31) [(some 26, 20)] _ rfl rfl rfl rfl ?_ ?_
    · rintro wj hJ _ rfl K hK; simp only [Jo.z] at hK ⊢; go_simp; refine (kvOf (by decide) (by decide) (by decide) (by decide) H0.out H4.out M04.out).mono ?_; rintro ee wk ⟨e10, K10, s10, M10, E10, K10b, s10b, M10b, E10b, rfl, v10, B⟩; exact hK.out _ _ ⟨e10, K10, s10, M10, E10, K10b, s10b, M10b, E10b, rfl, v10⟩ B
    refine Jo.jn 26 (some 32) [(some 26, 20), (some 30, 24), (some 31, 25)] _ rfl rfl rfl rfl ?_ ?_
    · rintro wj hJ _ rfl _ ⟨e9, K9, s9, M9, E9, K9b, s9b, M9b, E9b, rfl, v9⟩ _ ⟨e10, K10, s10, M10, E10, K10b, s10b, M10b, E10b, rfl, v10⟩ K hK; simp only [Jo.z] at hK ⊢; obtain ⟨rfl, rfl, rfl, rfl, rfl, rfl, rfl, rfl, rfl⟩ := v9.uniq v10; go_simp
      exact hK.out _ _ (by first | rfl | (show Value.bool _ = Value.bool _; simp)) (br _ _)
    refine Jo.jn 27 (some 33) [(some 26, 20), (some 32, 26)] _ rfl rfl rfl rfl ?_ ?_
    · rintro wj hJ _ rfl _ rfl K hK; simp only [Jo.z] at hK ⊢; go_simp; exact hK.out _ _ rfl (br _ _)
    refine Jo.jn 28 (some 34) [(some 33, 27)] _ rfl rfl rfl rfl ?_ ?_
    · rintro wj hJ _ rfl K hK; simp only [Jo.z] at hK ⊢; go_simp; exact hK.out _ _ rfl (br _ _)
    refine Jo.jn 29 (some 35) [(some 34, 28)] _ rfl rfl rfl rfl ?_ ?_
    · rintro wj hJ _ rfl K hK; simp only [Jo.z] at hK ⊢; obtain ⟨xX10, xX11, xX12, xX13, xX14, xX15, xX16, xX17, xX18⟩ := (X1.below hJ).u9; go_simp; exact hK.out _ _ rfl (br _ _)
    refine Jo.jn 30 (some 36) [(some 34, 28)] _ rfl rfl rfl rfl ?_ ?_
    · rintro wj hJ _ rfl K hK; simp only [Jo.z] at hK ⊢; go_simp; refine (nOf _ (by decide) (by decide) H2.out).mono ?_; rintro ee wk ⟨K11, s11, M11, E11, rfl, q11, B⟩; exact hK.out _ _ ⟨K11, s11, M11, E11, rfl, q11⟩ B
    refine Jo.jn 31 (some 37) [(some 34, 28), (some 35, 29), (some 36, 30)] _ rfl rfl rfl rfl ?_ ?_
    · rintro wj hJ _ rfl _ rfl _ ⟨K11, s11, M11, E11, rfl, q11⟩ K hK; simp only [Jo.z] at hK ⊢; go_simp; refine (kvHas v3.top.1 v3.top.2 q11.top v3.rk q11.rk HHA.out).mono ?_; rintro ee wk ⟨rfl, B⟩; exact hK.out _ _ rfl B
    refine Jo.jn 32 (some 38) [(some 34, 28), (some 37, 31)] _ rfl rfl rfl rfl ?_ ?_
    · rintro wj hJ _ rfl _ rfl K hK; simp only [Jo.z] at hK ⊢; go_simp; exact hK.out _ _ rfl (br _ _)
    refine Jo.jn 33 (some 0) [(some 38, 32)] _ rfl rfl rfl rfl ?_ ?_
    · rintro wj hJ _ rfl K hK; simp only [Jo.z] at hK ⊢; go_simp; exact hK.out _ _ rfl (br _ _)
    exact Jo.Steps.nil
  rintro w8 hJ _ rfl _ ⟨e4, K4, s4, M4, E4, K4b, s4b, M4b, E4b, rfl, v4⟩ _ rfl _ rfl _ _ _ rfl _ rfl _ rfl _ rfl _ _ _ rfl _ ⟨K5, s5, M5, E5, rfl, _⟩ _ rfl _ rfl _ rfl _ _ _ _ _ rfl _ rfl _ rfl _ rfl _ ⟨e6, K6, s6, M6, E6, K6b, s6b, M6b, E6b, rfl, v6⟩ _ ⟨e7, K7, s7, M7, E7, K7b, s7b, M7b, E7b, rfl, v7⟩ _ ⟨_, _, rfl, _⟩ _ ⟨e9, K9, s9, M9, E9, K9b, s9b, M9b, E9b, rfl, v9⟩ _ ⟨e10, K10, s10, M10, E10, K10b, s10b, M10b, E10b, rfl, v10⟩ _ rfl _ rfl _ rfl _ rfl _ ⟨K11, s11, M11, E11, rfl, _⟩ _ rfl _ rfl _ rfl -
  simp only [Jo.z]; replace X1 := X1.below hJ; replace HB := Lib.hid (bt HB.out hJ); refine Jo.jdone (by kernel_rfl) ?_; go_wp2
  go_ret
  exact ⟨rfl, HB.out⟩
end Go.Proofs.YthhlccdmflgbbaaGreatDoor

/-
  What the document's Mid, Width, Split and Inflate of intervals do.
-/
namespace Go.Proofs.YthhlccdmflgbbaaGreatDoor
open Go.RowKit
set_option linter.unusedVariables false
set_option linter.unusedSimpArgs false
set_option maxRecDepth 100000

theorem jvAllE {w : World} : Calls Tryz.prog 31 #[] w (fun e w' => e = .returned (.agg #[.bool false, .int .i64 2, .bool true, .int .u64 0, .int .i64 0, .int .i64 2, .bool false, .int .u64 0, .int .i64 0]) ∧ Below w.heap.size w w') := by
  refine jvAll.mono ?_; rintro ee w2 ⟨e1, K1, s1, M1, E1, K1b, s1b, M1b, E1b, rfl, v1, B⟩; obtain ⟨rfl, rfl, rfl, rfl, rfl, rfl, rfl, rfl, rfl⟩ := v1.uniq ci_all; exact ⟨rfl, B⟩
theorem cmp_lt {x y c : Int} (h : cmpI x y = c) : decide (c < 0) = decide (x < y) := by
  rw [← h]
  by_cases e : x < y
  · rw [decide_eq_true e]
    exact decide_eq_true (by rcases cmpI_tri x y with ⟨a, b⟩ | ⟨a, b⟩ | ⟨a, b⟩ <;> rw [b] <;> omega)
  · rw [decide_eq_false e]
    exact decide_eq_false (by rcases cmpI_tri x y with ⟨a, b⟩ | ⟨a, b⟩ | ⟨a, b⟩ <;> rw [b] <;> omega)
theorem cmp_gt {x y c : Int} (h : cmpI x y = c) : decide (0 < c) = decide (y < x) := by
  rw [← h]
  by_cases e : y < x
  · rw [decide_eq_true e]
    exact decide_eq_true (by rcases cmpI_tri x y with ⟨a, b⟩ | ⟨a, b⟩ | ⟨a, b⟩ <;> rw [b] <;> omega)
  · rw [decide_eq_false e]
    exact decide_eq_false (by rcases cmpI_tri x y with ⟨a, b⟩ | ⟨a, b⟩ | ⟨a, b⟩ <;> rw [b] <;> omega)
/-- The ends are near each other, where both are finite. -/
def NearS (x : Sp) : Prop := ∀ a b, x = some (a, b) → infp a = false → infp b = false → Near (ep a) (ep b)
set_option maxHeartbeats 4000000 in
theorem jvMid {w : World} {e : Bool} {D M E D' M' E' : Int} {s s' : Bool} {x : Sp} {r : Int} (hM : M < 18446744073709551616) (hM' : M' < 18446744073709551616) (hx : rkI e D s M E D' s' M' E' = x) (hn : NearS x) (hr : midI x = r) : Calls Tryz.prog 10 #[.agg #[.bool e, .int .i64 D, .bool s, .int .u64 M, .int .i64 E, .int .i64 D', .bool s', .int .u64 M', .int .i64 E']] w (PN w r) := by
  have HX := Lib.hid hx; clear hx
  go_enter Tryz.func10, Tryz.ntmps10
  go_upto_region 1 with (fail)
  generalize hW1 : (w.alloc _).alloc _ = w1 at *; obtain ⟨X1, XR, HB⟩ := Bo.en2 hW1; clear hW1; obtain ⟨xX10, xX11, xX12, xX13, xX14, xX15, xX16, xX17, xX18⟩ := X1.u9
  go_wp2_with fail
  refine (jvFair hM hM' HX.out).mono ?_; rintro ee w2 ⟨e1, K1, s1, M1, E1, K1b, s1b, M1b, E1b, rfl, v1, B⟩; clear xX10 xX11 xX12 xX13 xX14 xX15 xX16 xX17 xX18; replace X1 := X1.below B; replace XR := XR.below B; replace HB := Lib.hid (bt HB.out B); clear B
  go_upto_region 2 with (fail)
  have lX3 := Nat.le_refl (World.heap w2).size; have nX3X1 := X1.lt; have nX3XR := XR.lt; generalize hWn : w2.alloc _ = w3 at *; obtain ⟨X3, BW⟩ := Bo.nw hWn; clear hWn; replace X1 := X1.below BW; replace XR := XR.below BW; replace HB := Lib.hid (bt HB.out BW); clear BW; clear lX3; clear HX hM hM'
  rcases x with _ | ⟨xa, xb⟩
  · obtain ⟨rfl, y1, y1b⟩ := v1
    obtain rfl : 0 = r := hr
    clear hn; obtain ⟨xX30, xX31, xX32, xX33, xX34, xX35, xX36, xX37, xX38⟩ := X3.u9
    refine Jo.region_joint (T := [0, 1, 2, 3, 4, 5, 6]) (ds := [some 7, some 8, some 9, some 10, some 11, some 12, some 13]) (ls := [[], [0], [1], [2], [2], [2, 3, 4], [2, 5]]) (k := 7) (L := [(some 7, 0), (some 8, 1), (some 9, 2), (some 10, 3), (some 11, 4), (some 12, 5), (some 13, 6)]) (fuel := 0) (J := fun wj => Below (World.heap w3).size w3 wj)
      (F := [Jo.qp w2.heap.size 0, Jo.qb true, Jo.qb true, Jo.qu, Jo.qu, Jo.qu, Jo.qb true])
      (by kernel_rfl) (by kernel_rfl) (by decide) rfl rfl (fun _ _ h b => bt h b) ((br _ _).drew) ?_ (fun vs w4 hJ hd => ?_)
    clear xX30 xX31 xX32 xX33 xX34 xX35 xX36 xX37 xX38
    · refine Jo.jn 0 (some 7) [] _ rfl rfl rfl rfl ?_ ?_
      · rintro wj hJ K hK; simp only [Jo.z] at hK ⊢; go_simp; exact hK.out _ _ rfl (br _ _)
      refine Jo.jn 1 (some 8) [(some 7, 0)] _ rfl rfl rfl rfl ?_ ?_
      · rintro wj hJ _ rfl K hK; simp only [Jo.z] at hK ⊢; have xX30 := (X3.below hJ).a 0 (.bool true) rfl; go_simp; exact hK.out _ _ rfl (br _ _)
      refine Jo.jn 2 (some 9) [(some 8, 1)] _ rfl rfl rfl rfl ?_ ?_
      · rintro wj hJ _ rfl K hK; simp only [Jo.z] at hK ⊢; go_simp; exact hK.out _ _ rfl (br _ _)
      refine Jo.jn 3 (some 10) [(some 9, 2)] _ rfl rfl rfl rfl ?_ ?_
      · rintro wj hJ _ rfl K hK; simp only [Jo.z] at hK ⊢; go_simp; exact hK.out _ _ rfl (br _ _)
      refine Jo.jn 4 (some 11) [(some 9, 2)] _ rfl rfl rfl rfl ?_ ?_
      · rintro wj hJ _ rfl K hK; simp only [Jo.z] at hK ⊢; go_simp; exact hK.out _ _ rfl (br _ _)
      refine Jo.jn 5 (some 12) [(some 9, 2), (some 10, 3), (some 11, 4)] _ rfl rfl rfl rfl ?_ ?_
      · rintro wj hJ _ rfl _ rfl _ rfl K hK; simp only [Jo.z] at hK ⊢; go_simp; exact hK.out _ _ rfl (br _ _)
      refine Jo.jn 6 (some 13) [(some 9, 2), (some 12, 5)] _ rfl rfl rfl rfl ?_ ?_
      · rintro wj hJ _ rfl _ rfl K hK; simp only [Jo.z] at hK ⊢; go_simp; exact hK.out _ _ rfl (br _ _)
      exact Jo.Steps.nil
    have d3 : (Jo.qu).P (vs 3) w4 := hd 3 (by decide)
    have d4 : (Jo.qu).P (vs 4) w4 := hd 4 (by decide)
    have d5 : (Jo.qu).P (vs 5) w4 := hd 5 (by decide)
    simp only [Jo.putl, Jo.zd, Jo.ze, Act.put, Jo.za, Jo.zb, Jo.zc]
    rw [show vs 1 = _ from hd 1 (by decide), show vs 2 = _ from hd 2 (by decide), show vs 6 = _ from hd 6 (by decide)]
    clear hd; generalize vs 3 = u3 at d3 ⊢; generalize vs 4 = u4 at d4 ⊢; generalize vs 5 = u5 at d5 ⊢
    replace d3 : u3 = _ := d3
    subst d3
    replace d4 : u4 = _ := d4
    subst d4
    replace d5 : u5 = _ := d5
    subst d5; replace XR := XR.below hJ; replace X3 := X3.below hJ; replace HB := Lib.hid (bt HB.out hJ); refine Jo.jdone (by kernel_rfl) ?_; obtain ⟨xXR0, xXR1, xXR2, xXR3⟩ := XR.u4; have zXR0 := XR.frozen; go_wp2; clear xXR0 zXR0 xXR1 xXR2 xXR3; have SX := StN.mk4 XR (.int .i64 0) (.bool false) (.int .u64 0) (.int .i64 0); exact bodyPost_ret (by simp [results, Tryz.results10, go_sem, SX.box.cell]) rfl ⟨_, _, _, _, rfl, Fq.nought, (SX.below HB.out (by omega))⟩
  · obtain ⟨rfl, a1, b1, o1, o1l, o1h⟩ := v1; rw [mid_some] at hr; have hnr := hn xa xb rfl; clear hn
    by_cases hall : xa = -19342822337206103650074625 ∧ xb = 19342822337206103650074625
    · obtain ⟨rfl, rfl⟩ := hall; rw [if_pos ⟨rfl, rfl⟩] at hr
      obtain rfl : 0 = r := hr
      obtain ⟨rfl, rfl, rfl, rfl⟩ := a1.uniq (show Fq 2 true 0 0 (-19342822337206103650074625) from fq_inf2 true)
      obtain ⟨rfl, rfl, rfl, rfl⟩ := b1.uniq (show Fq 2 false 0 0 19342822337206103650074625 from fq_inf2 false)
      clear hnr; obtain ⟨xX30, xX31, xX32, xX33, xX34, xX35, xX36, xX37, xX38⟩ := X3.u9
      refine Jo.region_joint (T := [0, 1, 2, 3, 4, 5, 6]) (ds := [some 7, some 8, some 9, some 10, some 11, some 12, some 13]) (ls := [[], [0], [1], [2], [2], [2, 3, 4], [2, 5]]) (k := 7) (L := [(some 7, 0), (some 8, 1), (some 9, 2), (some 10, 3), (some 11, 4), (some 12, 5), (some 13, 6)]) (fuel := 0) (J := fun wj => Below (World.heap w3).size w3 wj)
        (F := [Jo.qp w2.heap.size 0, Jo.qb false, Jo.qb false, Jo.q9 false 2 true 0 0 2 false 0 0, Jo.q9 false 2 true 0 0 2 false 0 0, Jo.qb true, Jo.qb true])
        (by kernel_rfl) (by kernel_rfl) (by decide) rfl rfl (fun _ _ h b => bt h b) ((br _ _).drew) ?_ (fun vs w4 hJ hd => ?_)
      clear xX30 xX31 xX32 xX33 xX34 xX35 xX36 xX37 xX38
      · refine Jo.jn 0 (some 7) [] _ rfl rfl rfl rfl ?_ ?_
        · rintro wj hJ K hK; simp only [Jo.z] at hK ⊢; go_simp; exact hK.out _ _ rfl (br _ _)
        refine Jo.jn 1 (some 8) [(some 7, 0)] _ rfl rfl rfl rfl ?_ ?_
        · rintro wj hJ _ rfl K hK; simp only [Jo.z] at hK ⊢; have xX30 := (X3.below hJ).a 0 (.bool false) rfl; go_simp; exact hK.out _ _ rfl (br _ _)
        refine Jo.jn 2 (some 9) [(some 8, 1)] _ rfl rfl rfl rfl ?_ ?_
        · rintro wj hJ _ rfl K hK; simp only [Jo.z] at hK ⊢; go_simp; exact hK.out _ _ rfl (br _ _)
        refine Jo.jn 3 (some 10) [(some 9, 2)] _ rfl rfl rfl rfl ?_ ?_
        · rintro wj hJ _ rfl K hK; simp only [Jo.z] at hK ⊢; obtain ⟨xX30, xX31, xX32, xX33, xX34, xX35, xX36, xX37, xX38⟩ := (X3.below hJ).u9; go_simp; exact hK.out _ _ rfl (br _ _)
        refine Jo.jn 4 (some 11) [(some 9, 2)] _ rfl rfl rfl rfl ?_ ?_
        · rintro wj hJ _ rfl K hK; simp only [Jo.z] at hK ⊢; go_simp; refine (jvAllE).mono ?_; rintro ee wk ⟨rfl, B⟩; exact hK.out _ _ rfl B
        refine Jo.jn 5 (some 12) [(some 9, 2), (some 10, 3), (some 11, 4)] _ rfl rfl rfl rfl ?_ ?_
        · rintro wj hJ _ rfl _ rfl _ rfl K hK; simp only [Jo.z] at hK ⊢; go_simp
          exact hK.out _ _ (by first | rfl | simp) (br _ _)
        refine Jo.jn 6 (some 13) [(some 9, 2), (some 12, 5)] _ rfl rfl rfl rfl ?_ ?_
        · rintro wj hJ _ rfl _ rfl K hK; simp only [Jo.z] at hK ⊢; go_simp; exact hK.out _ _ rfl (br _ _)
        exact Jo.Steps.nil
      simp only [Jo.putl, Jo.zd, Jo.ze, Act.put, Jo.za, Jo.zb, Jo.zc]
      rw [show vs 1 = _ from hd 1 (by decide), show vs 2 = _ from hd 2 (by decide), show vs 3 = _ from hd 3 (by decide), show vs 4 = _ from hd 4 (by decide), show vs 5 = _ from hd 5 (by decide), show vs 6 = _ from hd 6 (by decide)]
      clear hd; replace XR := XR.below hJ; replace X3 := X3.below hJ; replace HB := Lib.hid (bt HB.out hJ); refine Jo.jdone (by kernel_rfl) ?_; obtain ⟨xXR0, xXR1, xXR2, xXR3⟩ := XR.u4; have zXR0 := XR.frozen; go_wp2; clear xXR0 zXR0 xXR1 xXR2 xXR3; have SX := StN.mk4 XR (.int .i64 0) (.bool false) (.int .u64 0) (.int .i64 0); exact bodyPost_ret (by simp [results, Tryz.results10, go_sem, SX.box.cell]) rfl ⟨_, _, _, _, rfl, Fq.nought, (SX.below HB.out (by omega))⟩
    · rw [if_neg hall] at hr
      have hne : ¬ (K1 = 2 ∧ s1 = true ∧ M1 = 0 ∧ E1 = 0 ∧ K1b = 2 ∧ s1b = false ∧ M1b = 0 ∧ E1b = 0) := by
        rintro ⟨rfl, rfl, rfl, rfl, rfl, rfl, rfl, rfl⟩; exact hall ⟨by rw [← a1.rk]; exact (fq_inf2 true).rk, by rw [← b1.rk]; exact (fq_inf2 false).rk⟩
      have HNE := Lib.hid hne; have i1 := fq_inf a1; have i2 := fq_inf b1; have htp := TP_eq
      have j1 : xa = -19342822337206103650074625 ↔ infp xa = true := by
        constructor
        · rintro rfl
          rfl
        · intro c
          rcases infp_true c with e | e <;> omega
      have j2 : xb = 19342822337206103650074625 ↔ infp xb = true := by
        constructor
        · rintro rfl
          rfl
        · intro c
          rcases infp_true c with e | e <;> omega
      rw [i1] at j1; rw [i2] at j2; clear hne hall htp; obtain ⟨xX30, xX31, xX32, xX33, xX34, xX35, xX36, xX37, xX38⟩ := X3.u9
      refine Jo.region_joint (T := [0, 1, 2, 3, 4, 5, 6]) (ds := [some 7, some 8, some 9, some 10, some 11, some 12, some 13]) (ls := [[], [0], [1], [2], [2], [2, 3, 4], [2, 5]]) (k := 7) (L := [(some 7, 0), (some 8, 1), (some 9, 2), (some 10, 3), (some 11, 4), (some 12, 5), (some 13, 6)]) (fuel := 0) (J := fun wj => Below (World.heap w3).size w3 wj)
        (F := [Jo.qp w2.heap.size 0, Jo.qb false, Jo.qb false, Jo.q9 false K1 s1 M1 E1 K1b s1b M1b E1b, Jo.q9 false 2 true 0 0 2 false 0 0, Jo.qb false, Jo.qb false])
        (by kernel_rfl) (by kernel_rfl) (by decide) rfl rfl (fun _ _ h b => bt h b) ((br _ _).drew) ?_ (fun vs w4 hJ hd => ?_)
      clear xX30 xX31 xX32 xX33 xX34 xX35 xX36 xX37 xX38
      · refine Jo.jn 0 (some 7) [] _ rfl rfl rfl rfl ?_ ?_
        · rintro wj hJ K hK; simp only [Jo.z] at hK ⊢; go_simp; exact hK.out _ _ rfl (br _ _)
        refine Jo.jn 1 (some 8) [(some 7, 0)] _ rfl rfl rfl rfl ?_ ?_
        · rintro wj hJ _ rfl K hK; simp only [Jo.z] at hK ⊢; have xX30 := (X3.below hJ).a 0 (.bool false) rfl; go_simp; exact hK.out _ _ rfl (br _ _)
        refine Jo.jn 2 (some 9) [(some 8, 1)] _ rfl rfl rfl rfl ?_ ?_
        · rintro wj hJ _ rfl K hK; simp only [Jo.z] at hK ⊢; go_simp; exact hK.out _ _ rfl (br _ _)
        refine Jo.jn 3 (some 10) [(some 9, 2)] _ rfl rfl rfl rfl ?_ ?_
        · rintro wj hJ _ rfl K hK; simp only [Jo.z] at hK ⊢; obtain ⟨xX30, xX31, xX32, xX33, xX34, xX35, xX36, xX37, xX38⟩ := (X3.below hJ).u9; go_simp; exact hK.out _ _ rfl (br _ _)
        refine Jo.jn 4 (some 11) [(some 9, 2)] _ rfl rfl rfl rfl ?_ ?_
        · rintro wj hJ _ rfl K hK; simp only [Jo.z] at hK ⊢; go_simp; refine (jvAllE).mono ?_; rintro ee wk ⟨rfl, B⟩; exact hK.out _ _ rfl B
        refine Jo.jn 5 (some 12) [(some 9, 2), (some 10, 3), (some 11, 4)] _ rfl rfl rfl rfl ?_ ?_
        · rintro wj hJ _ rfl _ rfl _ rfl K hK; simp only [Jo.z] at hK ⊢; have hne := HNE.out; go_simp
          repeat' split
          all_goals exact hK.out _ _ (congrArg Value.bool (by first | rfl | (exfalso; simp_all))) (br _ _)
        refine Jo.jn 6 (some 13) [(some 9, 2), (some 12, 5)] _ rfl rfl rfl rfl ?_ ?_
        · rintro wj hJ _ rfl _ rfl K hK; simp only [Jo.z] at hK ⊢; go_simp; exact hK.out _ _ rfl (br _ _)
        exact Jo.Steps.nil
      simp only [Jo.putl, Jo.zd, Jo.ze, Act.put, Jo.za, Jo.zb, Jo.zc]
      rw [show vs 1 = _ from hd 1 (by decide), show vs 2 = _ from hd 2 (by decide), show vs 3 = _ from hd 3 (by decide), show vs 4 = _ from hd 4 (by decide), show vs 5 = _ from hd 5 (by decide), show vs 6 = _ from hd 6 (by decide)]
      clear hd; replace XR := XR.below hJ; replace X3 := X3.below hJ; replace HB := Lib.hid (bt HB.out hJ); refine Jo.jdone (by kernel_rfl) ?_; clear HNE
      by_cases k1 : K1 = 2
      · subst k1; rw [if_pos (j1.2 rfl)] at hr
        obtain rfl : xb = r := hr
        clear i1 i2 j1 j2 hnr o1 o1l o1h; obtain ⟨xXR0, xXR1, xXR2, xXR3⟩ := XR.u4; have zXR0 := XR.frozen; obtain ⟨xX30, xX31, xX32, xX33, xX34, xX35, xX36, xX37, xX38⟩ := X3.u9; go_wp2; clear xXR0 zXR0 xXR1 xXR2 xXR3 xX30 xX31 xX32 xX33 xX34 xX35 xX36 xX37 xX38; have SX := StN.mk4 XR (.int .i64 K1b) (.bool s1b) (.int .u64 M1b) (.int .i64 E1b); exact bodyPost_ret (by simp [results, Tryz.results10, go_sem, SX.box.cell]) rfl ⟨_, _, _, _, rfl, b1, (SX.below HB.out (by omega))⟩
      · have e1 : (K1 == 2) = false := by simpa using k1
        rw [if_neg (fun c => by have := j1.1 c; rw [e1] at this; cases this)] at hr
        clear j1
        by_cases k2 : K1b = 2
        · subst k2; rw [if_pos (j2.2 rfl)] at hr
          obtain rfl : xa = r := hr
          clear i1 i2 j2 hnr o1 o1l o1h; obtain ⟨xXR0, xXR1, xXR2, xXR3⟩ := XR.u4; have zXR0 := XR.frozen; obtain ⟨xX30, xX31, xX32, xX33, xX34, xX35, xX36, xX37, xX38⟩ := X3.u9; go_wp2; clear xXR0 zXR0 xXR1 xXR2 xXR3 xX30 xX31 xX32 xX33 xX34 xX35 xX36 xX37 xX38; have SX := StN.mk4 XR (.int .i64 K1) (.bool s1) (.int .u64 M1) (.int .i64 E1); exact bodyPost_ret (by simp [results, Tryz.results10, go_sem, SX.box.cell]) rfl ⟨_, _, _, _, rfl, a1, (SX.below HB.out (by omega))⟩
        · have e2 : (K1b == 2) = false := by simpa using k2
          rw [if_neg (fun c => by have := j2.1 c; rw [e2] at this; cases this)] at hr
          clear j2; have hN := hnr (i1.trans e1) (i2.trans e2); obtain ⟨u, hu⟩ : ∃ u, addp false xa xb = u := ⟨_, rfl⟩; rw [hu] at hr; obtain ⟨m, hm⟩ : ∃ m, mulp false u 9670816261106674691997697 = m := ⟨_, rfl⟩
          have hr2 : clp m xa xb = r := by rw [← hm]; exact hr
          have HU := Lib.hid hu; have HM := Lib.hid hm; have HN := Lib.hid hN; clear hu hm hN hr i1 i2 hnr o1 o1l o1h; obtain ⟨xX30, xX31, xX32, xX33, xX34, xX35, xX36, xX37, xX38⟩ := X3.u9
          go_wp2_with fail
          refine (gAdd a1.top b1.top a1.rk b1.rk (fun _ _ => HN.out) HU.out).mono ?_
          rintro ee w5 ⟨K2, s2, M2, E2, rfl, q2, B⟩; clear xX30 xX31 xX32 xX33 xX34 xX35 xX36 xX37 xX38; replace XR := XR.below B; replace X3 := X3.below B; replace HB := Lib.hid (bt HB.out B); clear B
          go_wp2_with fail
          refine (gHalf q2.top q2.rk HM.out).mono ?_; rintro ee w6 ⟨K3, s3, M3, E3, rfl, q3, B⟩; replace XR := XR.below B; replace X3 := X3.below B; replace HB := Lib.hid (bt HB.out B); clear B
          go_upto_region 9 with (fail)
          have lX4 := Nat.le_refl (World.heap w6).size; have nX4XR := XR.lt; have nX4X3 := X3.lt; generalize hWn : w6.alloc _ = w7 at *; obtain ⟨X4, BW⟩ := Bo.nw hWn; clear hWn; replace XR := XR.below BW; replace X3 := X3.below BW; replace HB := Lib.hid (bt HB.out BW); clear BW; clear lX4 HU HM HN q2; obtain ⟨c, hc⟩ : ∃ c, cmpI m xa = c := ⟨_, rfl⟩; have ht := cmp_lt hc
          have HC : Hid (cmpI (rk K3 s3 M3 E3) (rk K1 s1 M1 E1) = c) := Lib.hid (by rw [q3.rk, a1.rk]; exact hc)
          clear hc; obtain ⟨xX30, xX31, xX32, xX33, xX34, xX35, xX36, xX37, xX38⟩ := X3.u9; obtain ⟨xX40, xX41, xX42, xX43⟩ := X4.u4
          go_wp2_with fail
          refine (yCmp q3.top a1.top HC.out).mono ?_; rintro ee w8 ⟨rfl, B⟩; clear xX30 xX31 xX32 xX33 xX34 xX35 xX36 xX37 xX38 xX40 xX41 xX42 xX43; replace XR := XR.below B; replace X3 := X3.below B; replace X4 := X4.below B; replace HB := Lib.hid (bt HB.out B); clear B; clear HC
          by_cases hl : m < xa
          · rw [decide_eq_true hl] at ht
            unfold clp at hr2
            rw [if_pos hl] at hr2
            obtain rfl : xa = r := hr2
            clear hl; obtain ⟨xXR0, xXR1, xXR2, xXR3⟩ := XR.u4; have zXR0 := XR.frozen; obtain ⟨xX30, xX31, xX32, xX33, xX34, xX35, xX36, xX37, xX38⟩ := X3.u9; obtain ⟨xX40, xX41, xX42, xX43⟩ := X4.u4; go_wp2; clear xXR0 zXR0 xXR1 xXR2 xXR3 xX30 xX31 xX32 xX33 xX34 xX35 xX36 xX37 xX38 xX40 xX41 xX42 xX43; have SX := StN.mk4 XR (.int .i64 K1) (.bool s1) (.int .u64 M1) (.int .i64 E1); exact bodyPost_ret (by simp [results, Tryz.results10, go_sem, SX.box.cell]) rfl ⟨_, _, _, _, rfl, a1, (SX.below HB.out (by omega))⟩
          · rw [decide_eq_false hl] at ht
            unfold clp at hr2
            rw [if_neg hl] at hr2; clear hl; obtain ⟨d, hd⟩ : ∃ d, cmpI m xb = d := ⟨_, rfl⟩; have ht2 := cmp_gt hd
            have HD : Hid (cmpI (rk K3 s3 M3 E3) (rk K1b s1b M1b E1b) = d) := Lib.hid (by rw [q3.rk, b1.rk]; exact hd)
            clear hd; obtain ⟨xX30, xX31, xX32, xX33, xX34, xX35, xX36, xX37, xX38⟩ := X3.u9; obtain ⟨xX40, xX41, xX42, xX43⟩ := X4.u4
            go_wp2_with fail
            refine (yCmp q3.top b1.top HD.out).mono ?_; rintro ee w9 ⟨rfl, B⟩; clear xX30 xX31 xX32 xX33 xX34 xX35 xX36 xX37 xX38 xX40 xX41 xX42 xX43; replace XR := XR.below B; replace X3 := X3.below B; replace X4 := X4.below B; replace HB := Lib.hid (bt HB.out B); clear B; clear HD
            by_cases hl : xb < m
            · rw [decide_eq_true hl] at ht2; rw [if_pos hl] at hr2
              obtain rfl : xb = r := hr2
              clear hl; obtain ⟨xXR0, xXR1, xXR2, xXR3⟩ := XR.u4; have zXR0 := XR.frozen; obtain ⟨xX30, xX31, xX32, xX33, xX34, xX35, xX36, xX37, xX38⟩ := X3.u9; obtain ⟨xX40, xX41, xX42, xX43⟩ := X4.u4; go_wp2; clear xXR0 zXR0 xXR1 xXR2 xXR3 xX30 xX31 xX32 xX33 xX34 xX35 xX36 xX37 xX38 xX40 xX41 xX42 xX43; have SX := StN.mk4 XR (.int .i64 K1b) (.bool s1b) (.int .u64 M1b) (.int .i64 E1b); exact bodyPost_ret (by simp [results, Tryz.results10, go_sem, SX.box.cell]) rfl ⟨_, _, _, _, rfl, b1, (SX.below HB.out (by omega))⟩
            · rw [decide_eq_false hl] at ht2; rw [if_neg hl] at hr2
              obtain rfl : m = r := hr2
              clear hl; obtain ⟨xXR0, xXR1, xXR2, xXR3⟩ := XR.u4; have zXR0 := XR.frozen; obtain ⟨xX30, xX31, xX32, xX33, xX34, xX35, xX36, xX37, xX38⟩ := X3.u9; obtain ⟨xX40, xX41, xX42, xX43⟩ := X4.u4; go_wp2; clear xXR0 zXR0 xXR1 xXR2 xXR3 xX30 xX31 xX32 xX33 xX34 xX35 xX36 xX37 xX38 xX40 xX41 xX42 xX43; have SX := StN.mk4 XR (.int .i64 K3) (.bool s3) (.int .u64 M3) (.int .i64 E3); exact bodyPost_ret (by simp [results, Tryz.results10, go_sem, SX.box.cell]) rfl ⟨_, _, _, _, rfl, q3, (SX.below HB.out (by omega))⟩
set_option maxHeartbeats 2000000 in
theorem jvWidth {w : World} {e : Bool} {D M E D' M' E' : Int} {s s' : Bool} {x : Sp} {r : Int} (hM : M < 18446744073709551616) (hM' : M' < 18446744073709551616) (hx : rkI e D s M E D' s' M' E' = x) (hn : ∀ a b, x = some (a, b) → infp b = false → infp (-a) = false → Near (ep b) (ep (-a))) (hr : widI x = r) : Calls Tryz.prog 12 #[.agg #[.bool e, .int .i64 D, .bool s, .int .u64 M, .int .i64 E, .int .i64 D', .bool s', .int .u64 M', .int .i64 E']] w (PN w r) := by
  have HX := Lib.hid hx; clear hx
  go_enter Tryz.func12, Tryz.ntmps12
  go_upto_region 1 with (fail)
  generalize hW1 : (w.alloc _).alloc _ = w1 at *; obtain ⟨X1, XR, HB⟩ := Bo.en2 hW1; clear hW1; obtain ⟨xX10, xX11, xX12, xX13, xX14, xX15, xX16, xX17, xX18⟩ := X1.u9
  go_wp2_with fail
  refine (jvFair hM hM' HX.out).mono ?_; rintro ee w2 ⟨e1, K1, s1, M1, E1, K1b, s1b, M1b, E1b, rfl, v1, B⟩; clear xX10 xX11 xX12 xX13 xX14 xX15 xX16 xX17 xX18; replace X1 := X1.below B; replace XR := XR.below B; replace HB := Lib.hid (bt HB.out B); clear B
  go_upto_region 2 with (fail)
  have lX3 := Nat.le_refl (World.heap w2).size; have nX3X1 := X1.lt; have nX3XR := XR.lt; generalize hWn : w2.alloc _ = w3 at *; obtain ⟨X3, BW⟩ := Bo.nw hWn; clear hWn; replace X1 := X1.below BW; replace XR := XR.below BW; replace HB := Lib.hid (bt HB.out BW); clear BW; clear lX3; clear HX hM hM'
  rcases x with _ | ⟨xa, xb⟩
  · obtain ⟨rfl, y1, y1b⟩ := v1
    obtain rfl : 0 = r := hr
    clear hn; obtain ⟨xXR0, xXR1, xXR2, xXR3⟩ := XR.u4; have zXR0 := XR.frozen; obtain ⟨xX30, xX31, xX32, xX33, xX34, xX35, xX36, xX37, xX38⟩ := X3.u9; go_wp2; clear xXR0 zXR0 xXR1 xXR2 xXR3 xX30 xX31 xX32 xX33 xX34 xX35 xX36 xX37 xX38; have SX := StN.mk4 XR (.int .i64 0) (.bool false) (.int .u64 0) (.int .i64 0); exact bodyPost_ret (by simp [results, Tryz.results12, go_sem, SX.box.cell]) rfl ⟨_, _, _, _, rfl, Fq.nought, (SX.below HB.out (by omega))⟩
  · obtain ⟨rfl, a1, b1, o1, o1l, o1h⟩ := v1
    have HR := Lib.hid (show addp true xb (-xa) = r from hr)
    have HN := Lib.hid (hn xa xb rfl); clear hr hn o1 o1l o1h; obtain ⟨xX30, xX31, xX32, xX33, xX34, xX35, xX36, xX37, xX38⟩ := X3.u9
    go_wp2_with fail
    refine (gSub b1.top a1.top b1.rk (by rw [a1.rk]) HN.out HR.out).mono ?_; rintro ee w4 ⟨K2, s2, M2, E2, rfl, q2, B⟩; clear xX30 xX31 xX32 xX33 xX34 xX35 xX36 xX37 xX38; replace XR := XR.below B; replace X3 := X3.below B; replace HB := Lib.hid (bt HB.out B); clear B; obtain ⟨xXR0, xXR1, xXR2, xXR3⟩ := XR.u4; have zXR0 := XR.frozen; go_wp2; clear xXR0 zXR0 xXR1 xXR2 xXR3; have SX := StN.mk4 XR (.int .i64 K2) (.bool s2) (.int .u64 M2) (.int .i64 E2)
    exact bodyPost_ret (by simp [results, Tryz.results12, go_sem, SX.box.cell]) rfl ⟨_, _, _, _, rfl, q2, (SX.below HB.out (by omega))⟩
/-- Two intervals are answered. -/
def PV2 (w : World) (x y : Sp) (e : Ending) (w' : World) : Prop := ∃ e0 K s M E K' s' M' E' e1 G g P Q G' g' P' Q', e = .returned (.tuple #[.agg #[.bool e0, .int .i64 K, .bool s, .int .u64 M, .int .i64 E, .int .i64 K', .bool s', .int .u64 M', .int .i64 E'], .agg #[.bool e1, .int .i64 G, .bool g, .int .u64 P, .int .i64 Q, .int .i64 G', .bool g', .int .u64 P', .int .i64 Q']]) ∧ Ci e0 K s M E K' s' M' E' x ∧ Ci e1 G g P Q G' g' P' Q' y ∧ Below w.heap.size w w'
set_option maxHeartbeats 4000000 in
theorem jvSplit {w : World} {e : Bool} {D M E D' M' E' : Int} {s s' : Bool} {x y z : Sp} (hM : M < 18446744073709551616) (hM' : M' < 18446744073709551616) (hx : rkI e D s M E D' s' M' E' = x) (hn : NearS x) (hy : loI x = y) (hz : hiI x = z) : Calls Tryz.prog 8 #[.agg #[.bool e, .int .i64 D, .bool s, .int .u64 M, .int .i64 E, .int .i64 D', .bool s', .int .u64 M', .int .i64 E']] w (PV2 w y z) := by
  have HX := Lib.hid hx; clear hx
  go_enter Tryz.func8, Tryz.ntmps8
  go_upto_region 1 with (fail)
  generalize hW1 : ((w.alloc _).alloc _).alloc _ = w1 at *; obtain ⟨X1, XR, XS, HB⟩ := Bo.en3 hW1; clear hW1; obtain ⟨xX10, xX11, xX12, xX13, xX14, xX15, xX16, xX17, xX18⟩ := X1.u9
  go_wp2_with fail
  refine (jvFair hM hM' HX.out).mono ?_; rintro ee w2 ⟨e1, K1, s1, M1, E1, K1b, s1b, M1b, E1b, rfl, v1, B⟩; clear xX10 xX11 xX12 xX13 xX14 xX15 xX16 xX17 xX18; replace X1 := X1.below B; replace XR := XR.below B; replace XS := XS.below B; replace HB := Lib.hid (bt HB.out B); clear B
  go_upto_region 2 with (fail)
  have lX4 := Nat.le_refl (World.heap w2).size; have nX4X1 := X1.lt; have nX4XR := XR.lt; have nX4XS := XS.lt; generalize hWn : w2.alloc _ = w3 at *; obtain ⟨X4, BW⟩ := Bo.nw hWn; clear hWn; replace X1 := X1.below BW; replace XR := XR.below BW; replace XS := XS.below BW; replace HB := Lib.hid (bt HB.out BW); clear BW; clear lX4; clear HX hM hM'
  rcases x with _ | ⟨xa, xb⟩
  · obtain ⟨rfl, y1, y1b⟩ := v1
    obtain rfl : none = y := hy
    obtain rfl : none = z := hz
    clear hn; obtain ⟨xX40, xX41, xX42, xX43, xX44, xX45, xX46, xX47, xX48⟩ := X4.u9
    go_wp2_with fail
    refine (jvNoneE).mono ?_; rintro ee w4 ⟨rfl, B⟩; clear xX40 xX41 xX42 xX43 xX44 xX45 xX46 xX47 xX48; replace XR := XR.below B; replace XS := XS.below B; replace X4 := X4.below B; replace HB := Lib.hid (bt HB.out B); clear B
    go_wp2_with fail
    refine (jvNoneE).mono ?_; rintro ee w5 ⟨rfl, B⟩; replace XR := XR.below B; replace XS := XS.below B; replace X4 := X4.below B; replace HB := Lib.hid (bt HB.out B); clear B; obtain ⟨xXR0, xXR1, xXR2, xXR3, xXR4, xXR5, xXR6, xXR7, xXR8⟩ := XR.u9; have zXR0 := XR.frozen; obtain ⟨xXS0, xXS1, xXS2, xXS3, xXS4, xXS5, xXS6, xXS7, xXS8⟩ := XS.u9; have zXS0 := XS.frozen; go_wp2; clear xXR0 zXR0 xXR1 xXR2 xXR3 xXR4 xXR5 xXR6 xXR7 xXR8 xXS0 zXS0 xXS1 xXS2 xXS3 xXS4 xXS5 xXS6 xXS7 xXS8
    generalize hS : ((((((((w5.setCell _ _).setCell _ _).setCell _ _).setCell _ _).setCell _ _).setCell _ _).setCell _ _).setCell _ _).setCell _ _ = w6 at *; have SX := StN.of9 XR hS; replace XS := XS.stn SX (by omega); replace X4 := X4.stn SX (by omega); replace HB := Lib.hid (SX.below HB.out (by omega)); replace XR := SX.box; clear SX hS; generalize hS : ((((((((w6.setCell _ _).setCell _ _).setCell _ _).setCell _ _).setCell _ _).setCell _ _).setCell _ _).setCell _ _).setCell _ _ = w7 at *
    have SX := StN.of9 XS hS; replace XR := XR.stn SX (by omega); replace X4 := X4.stn SX (by omega); replace HB := Lib.hid (SX.below HB.out (by omega)); replace XS := SX.box; clear SX hS; exact bodyPost_ret (v := .tuple #[.agg #[.bool true, .int .i64 0, .bool false, .int .u64 0, .int .i64 0, .int .i64 0, .bool false, .int .u64 0, .int .i64 0], .agg #[.bool true, .int .i64 0, .bool false, .int .u64 0, .int .i64 0, .int .i64 0, .bool false, .int .u64 0, .int .i64 0]]) (by simp [results, Tryz.results8, go_sem, XR.cell, XS.cell]) rfl ⟨_, _, _, _, _, _, _, _, _, _, _, _, _, _, _, _, _, _, rfl, Ci.none, Ci.none, HB.out⟩
  · obtain ⟨rfl, a1, b1, o1, o1l, o1h⟩ := v1; obtain ⟨m, hm⟩ : ∃ m, midI (some (xa, xb)) = m := ⟨_, rfl⟩
    have hy2 : mkI xa m = y := by rw [← hm]; exact hy
    have hz2 : mkI m xb = z := by rw [← hm]; exact hz
    have HMD := Lib.hid hm; have HY := Lib.hid hy2; have HZ := Lib.hid hz2
    have hci : Ci false K1 s1 M1 E1 K1b s1b M1b E1b (some (xa, xb)) := ⟨rfl, a1, b1, o1, o1l, o1h⟩
    clear hy hz hm hy2 hz2 o1 o1l o1h; obtain ⟨xX40, xX41, xX42, xX43, xX44, xX45, xX46, xX47, xX48⟩ := X4.u9
    go_wp2_with fail
    refine (jvMid hci.top.1 hci.top.2 hci.rk hn HMD.out).mono ?_; rintro ee w4 ⟨K2, s2, M2, E2, rfl, q2, B⟩; clear xX40 xX41 xX42 xX43 xX44 xX45 xX46 xX47 xX48; replace XR := XR.below B; replace XS := XS.below B; replace X4 := X4.below B; replace HB := Lib.hid (bt HB.out B); clear B; clear HMD hn hci
    go_upto_region 5 with (fail)
    have lX5 := Nat.le_refl (World.heap w4).size; have nX5XR := XR.lt; have nX5XS := XS.lt; have nX5X4 := X4.lt; generalize hWn : w4.alloc _ = w5 at *; obtain ⟨X5, BW⟩ := Bo.nw hWn; clear hWn; replace XR := XR.below BW; replace XS := XS.below BW; replace X4 := X4.below BW; replace HB := Lib.hid (bt HB.out BW); clear BW; clear lX5; refine Jo.rj [0, 1, 2, 3, 4, 5, 6, 7] [some 14, some 15, some 16, some 17, some 18, some 19, some 20, some 21, none, none] [[], [0], [], [1, 2], [], [], [5], [4, 6], [], []] 10 [(some 14, 0), (some 15, 1), (some 16, 2), (some 17, 3), (some 18, 4), (some 19, 5), (some 20, 6), (some 21, 7)] 2 [Jo.qp w2.heap.size 1, Jo.q4 K1 s1 M1 E1, Jo.q4 K2 s2 M2 E2, Jo.Fact.iv y, Jo.q4 K2 s2 M2 E2, Jo.qp w2.heap.size 5, Jo.q4 K1b s1b M1b E1b, Jo.Fact.iv z, Jo.Fact.any, Jo.Fact.any] (by kernel_rfl) (by kernel_rfl) (by decide) rfl rfl ?_ ?_
    · refine Jo.jn 0 (some 14) [] _ rfl rfl rfl rfl ?_ ?_
      · rintro wj hJ K hK; simp only [Jo.z] at hK ⊢; go_simp; exact hK.out _ _ rfl (br _ _)
      refine Jo.jn 1 (some 15) [(some 14, 0)] _ rfl rfl rfl rfl ?_ ?_
      · rintro wj hJ _ rfl K hK; simp only [Jo.z] at hK ⊢; obtain ⟨xX40, xX41, xX42, xX43, xX44, xX45, xX46, xX47, xX48⟩ := (X4.below hJ).u9; go_simp; exact hK.out _ _ rfl (br _ _)
      refine Jo.jn 2 (some 16) [] _ rfl rfl rfl rfl ?_ ?_
      · rintro wj hJ K hK; simp only [Jo.z] at hK ⊢; obtain ⟨xX50, xX51, xX52, xX53⟩ := (X5.below hJ).u4; go_simp; exact hK.out _ _ rfl (br _ _)
      refine Jo.jn 3 (some 17) [(some 15, 1), (some 16, 2)] _ rfl rfl rfl rfl ?_ ?_
      · rintro wj hJ _ rfl _ rfl K hK; simp only [Jo.z] at hK ⊢; go_simp; refine (jvMake a1.top q2.top a1.rk q2.rk HY.out).mono ?_; rintro ee wk ⟨e3, K3, s3, M3, E3, K3b, s3b, M3b, E3b, rfl, v3, B⟩; exact hK.out _ _ ⟨e3, K3, s3, M3, E3, K3b, s3b, M3b, E3b, rfl, v3⟩ B
      refine Jo.jn 4 (some 18) [] _ rfl rfl rfl rfl ?_ ?_
      · rintro wj hJ K hK; simp only [Jo.z] at hK ⊢; obtain ⟨xX50, xX51, xX52, xX53⟩ := (X5.below hJ).u4; go_simp; exact hK.out _ _ rfl (br _ _)
      refine Jo.jn 5 (some 19) [] _ rfl rfl rfl rfl ?_ ?_
      · rintro wj hJ K hK; simp only [Jo.z] at hK ⊢; go_simp; exact hK.out _ _ rfl (br _ _)
      refine Jo.jn 6 (some 20) [(some 19, 5)] _ rfl rfl rfl rfl ?_ ?_
      · rintro wj hJ _ rfl K hK; simp only [Jo.z] at hK ⊢; obtain ⟨xX40, xX41, xX42, xX43, xX44, xX45, xX46, xX47, xX48⟩ := (X4.below hJ).u9; go_simp; exact hK.out _ _ rfl (br _ _)
      refine Jo.jn 7 (some 21) [(some 18, 4), (some 20, 6)] _ rfl rfl rfl rfl ?_ ?_
      · rintro wj hJ _ rfl _ rfl K hK; simp only [Jo.z] at hK ⊢; go_simp; refine (jvMake q2.top b1.top q2.rk b1.rk HZ.out).mono ?_; rintro ee wk ⟨e4, K4, s4, M4, E4, K4b, s4b, M4b, E4b, rfl, v4, B⟩; exact hK.out _ _ ⟨e4, K4, s4, M4, E4, K4b, s4b, M4b, E4b, rfl, v4⟩ B
      exact Jo.Steps.nil
    rintro w8 hJ _ _ _ rfl _ rfl _ ⟨e3, K3, s3, M3, E3, K3b, s3b, M3b, E3b, rfl, v3⟩ _ rfl _ _ _ rfl _ ⟨e4, K4, s4, M4, E4, K4b, s4b, M4b, E4b, rfl, v4⟩ -; simp only [Jo.z]; replace XR := XR.below hJ; replace XS := XS.below hJ; replace X4 := X4.below hJ; replace X5 := X5.below hJ; replace HB := Lib.hid (bt HB.out hJ); obtain ⟨xXR0, xXR1, xXR2, xXR3, xXR4, xXR5, xXR6, xXR7, xXR8⟩ := XR.u9; have zXR0 := XR.frozen
    refine Jo.jnext (i := 8) (o := ⟨none, _, _, _, _, _⟩) (by kernel_rfl) rfl (fun K hK => ?_)
    go_simp; refine hK.out _ _ ?_; clear hK K xXR0 zXR0 xXR1 xXR2 xXR3 xXR4 xXR5 xXR6 xXR7 xXR8; generalize hS : ((((((((w8.setCell _ _).setCell _ _).setCell _ _).setCell _ _).setCell _ _).setCell _ _).setCell _ _).setCell _ _).setCell _ _ = w9 at *; have SX := StN.of9 XR hS; replace XS := XS.stn SX (by omega); replace X4 := X4.stn SX (by omega); replace X5 := X5.stn SX (by omega); replace HB := Lib.hid (SX.below HB.out (by omega))
    replace XR := SX.box; clear SX hS; obtain ⟨xXS0, xXS1, xXS2, xXS3, xXS4, xXS5, xXS6, xXS7, xXS8⟩ := XS.u9; have zXS0 := XS.frozen
    refine Jo.jnext (i := 9) (o := ⟨none, _, _, _, _, _⟩) (by kernel_rfl) rfl (fun K hK => ?_)
    go_simp; refine hK.out _ _ ?_; clear hK K xXS0 zXS0 xXS1 xXS2 xXS3 xXS4 xXS5 xXS6 xXS7 xXS8; generalize hS : ((((((((w9.setCell _ _).setCell _ _).setCell _ _).setCell _ _).setCell _ _).setCell _ _).setCell _ _).setCell _ _).setCell _ _ = wA at *; have SX := StN.of9 XS hS; replace XR := XR.stn SX (by omega); replace X4 := X4.stn SX (by omega); replace X5 := X5.stn SX (by omega); replace HB := Lib.hid (SX.below HB.out (by omega))
    replace XS := SX.box; clear SX hS; refine Jo.jdone (by kernel_rfl) ?_; go_wp2; exact bodyPost_ret (v := .tuple #[.agg #[.bool e3, .int .i64 K3, .bool s3, .int .u64 M3, .int .i64 E3, .int .i64 K3b, .bool s3b, .int .u64 M3b, .int .i64 E3b], .agg #[.bool e4, .int .i64 K4, .bool s4, .int .u64 M4, .int .i64 E4, .int .i64 K4b, .bool s4b, .int .u64 M4b, .int .i64 E4b]]) (by simp [results, Tryz.results8, go_sem, XR.cell, XS.cell]) rfl ⟨_, _, _, _, _, _, _, _, _, _, _, _, _, _, _, _, _, _, rfl, v3, v4, HB.out⟩
set_option maxHeartbeats 4000000 in
theorem jvInflate {w : World} {e : Bool} {D M E D' M' E' : Int} {s s' : Bool} {G P Q : Int} {g : Bool} {x z : Sp} {y : Int} (hM : M < 18446744073709551616) (hM' : M' < 18446744073709551616) (hP : P < 18446744073709551616) (hx : rkI e D s M E D' s' M' E' = x) (hy : rk G g P Q = y)
    (hn : ∀ a b, x = some (a, b) → (infp a = false → infp (-y) = false → Near (ep a) (ep (-y))) ∧ (infp b = false → infp y = false → Near (ep b) (ep y))) (hr : infI x y = z) : Calls Tryz.prog 14 #[.agg #[.bool e, .int .i64 D, .bool s, .int .u64 M, .int .i64 E, .int .i64 D', .bool s', .int .u64 M', .int .i64 E'], .agg #[.int .i64 G, .bool g, .int .u64 P, .int .i64 Q]] w (PV w z) := by
  have HX := Lib.hid hx; have HY := Lib.hid hy; clear hx hy
  go_enter Tryz.func14, Tryz.ntmps14
  go_upto_region 1 with (fail)
  generalize hW1 : ((w.alloc _).alloc _).alloc _ = w1 at *; obtain ⟨X2, X3, XR, HB⟩ := Bo.en3 hW1; clear hW1; obtain ⟨xX20, xX21, xX22, xX23, xX24, xX25, xX26, xX27, xX28⟩ := X2.u9
  go_wp2_with fail
  refine (jvFair hM hM' HX.out).mono ?_; rintro ee w2 ⟨e1, K1, s1, M1, E1, K1b, s1b, M1b, E1b, rfl, v1, B⟩; clear xX20 xX21 xX22 xX23 xX24 xX25 xX26 xX27 xX28; replace X2 := X2.below B; replace X3 := X3.below B; replace XR := XR.below B; replace HB := Lib.hid (bt HB.out B); clear B
  go_upto_region 2 with (fail)
  have lX5 := Nat.le_refl (World.heap w2).size; have nX5X2 := X2.lt; have nX5X3 := X3.lt; have nX5XR := XR.lt; generalize hWn : w2.alloc _ = w3 at *; obtain ⟨X5, BW⟩ := Bo.nw hWn; clear hWn; replace X2 := X2.below BW; replace X3 := X3.below BW; replace XR := XR.below BW; replace HB := Lib.hid (bt HB.out BW); clear BW; clear lX5; clear HX hM hM'
  rcases x with _ | ⟨xa, xb⟩
  · obtain ⟨rfl, y1, y1b⟩ := v1
    obtain rfl : none = z := hr
    clear hn HY hP; obtain ⟨xXR0, xXR1, xXR2, xXR3, xXR4, xXR5, xXR6, xXR7, xXR8⟩ := XR.u9; have zXR0 := XR.frozen; obtain ⟨xX50, xX51, xX52, xX53, xX54, xX55, xX56, xX57, xX58⟩ := X5.u9; go_wp2; clear xXR0 zXR0 xXR1 xXR2 xXR3 xXR4 xXR5 xXR6 xXR7 xXR8 xX50 xX51 xX52 xX53 xX54 xX55 xX56 xX57 xX58; have SX := StN.mk9 XR (.bool true) (.int .i64 K1) (.bool s1) (.int .u64 M1) (.int .i64 E1) (.int .i64 K1b) (.bool s1b) (.int .u64 M1b) (.int .i64 E1b)
    exact bodyPost_ret (v := .agg #[.bool true, .int .i64 K1, .bool s1, .int .u64 M1, .int .i64 E1, .int .i64 K1b, .bool s1b, .int .u64 M1b, .int .i64 E1b]) (by simp [results, Tryz.results14, go_sem, SX.box.cell]) rfl ⟨_, _, _, _, _, _, _, _, _, rfl, ⟨rfl, y1, y1b⟩, (SX.below HB.out (by omega))⟩
  · obtain ⟨rfl, a1, b1, o1, o1l, o1h⟩ := v1; obtain ⟨hn1, hn2⟩ := hn xa xb rfl; obtain ⟨σ, hσ⟩ : ∃ σ, cmpI y 0 = σ := ⟨_, rfl⟩; have ht := cmp_lt hσ
    have HS : Hid (cmpI (rk G g P Q) 0 = σ) := Lib.hid (by rw [HY.out]; exact hσ)
    clear hn hσ
    have hr2 : (if y < 0 then some (xa, xb) else mkI (addp false xa (-y)) (addp true xb y)) = z := hr
    clear hr; obtain ⟨xX50, xX51, xX52, xX53, xX54, xX55, xX56, xX57, xX58⟩ := X5.u9; obtain ⟨xX30, xX31, xX32, xX33⟩ := X3.u4
    go_wp2_with fail
    refine (ySign hP HS.out).mono ?_; rintro ee w4 ⟨rfl, B⟩; clear xX50 xX51 xX52 xX53 xX54 xX55 xX56 xX57 xX58 xX30 xX31 xX32 xX33; replace X3 := X3.below B; replace XR := XR.below B; replace X5 := X5.below B; replace HB := Lib.hid (bt HB.out B); clear B; clear HS
    by_cases hl : y < 0
    · rw [decide_eq_true hl] at ht; rw [if_pos hl] at hr2
      obtain rfl : some (xa, xb) = z := hr2
      clear hl hn1 hn2 HY hP; obtain ⟨xXR0, xXR1, xXR2, xXR3, xXR4, xXR5, xXR6, xXR7, xXR8⟩ := XR.u9; have zXR0 := XR.frozen; obtain ⟨xX50, xX51, xX52, xX53, xX54, xX55, xX56, xX57, xX58⟩ := X5.u9; go_wp2; clear xXR0 zXR0 xXR1 xXR2 xXR3 xXR4 xXR5 xXR6 xXR7 xXR8 xX50 xX51 xX52 xX53 xX54 xX55 xX56 xX57 xX58; have SX := StN.mk9 XR (.bool false) (.int .i64 K1) (.bool s1) (.int .u64 M1) (.int .i64 E1) (.int .i64 K1b) (.bool s1b) (.int .u64 M1b) (.int .i64 E1b)
      exact bodyPost_ret (v := .agg #[.bool false, .int .i64 K1, .bool s1, .int .u64 M1, .int .i64 E1, .int .i64 K1b, .bool s1b, .int .u64 M1b, .int .i64 E1b]) (by simp [results, Tryz.results14, go_sem, SX.box.cell]) rfl ⟨_, _, _, _, _, _, _, _, _, rfl, ⟨rfl, a1, b1, o1, o1l, o1h⟩, (SX.below HB.out (by omega))⟩
    · rw [decide_eq_false hl] at ht; rw [if_neg hl] at hr2; obtain ⟨u, hu⟩ : ∃ u, addp false xa (-y) = u := ⟨_, rfl⟩; obtain ⟨l, hl2⟩ : ∃ l, addp true xb y = l := ⟨_, rfl⟩; rw [hu, hl2] at hr2; have HU := Lib.hid hu; have HL := Lib.hid hl2; have HR := Lib.hid hr2; have HN1 := Lib.hid hn1; have HN2 := Lib.hid hn2; clear hl hu hl2 hr2 hn1 hn2 o1 o1l o1h; obtain ⟨xX50, xX51, xX52, xX53, xX54, xX55, xX56, xX57, xX58⟩ := X5.u9
      go_upto_region 4 with (fail)
      clear xX50 xX51 xX52 xX53 xX54 xX55 xX56 xX57 xX58; refine Jo.rj [0, 1, 2, 3, 4, 5, 6, 7, 8] [some 16, some 17, some 18, some 19, some 20, some 21, some 22, some 23, some 24, none] [[], [0], [], [1, 2], [], [4], [], [5, 6], [3, 7], []] 10 [(some 16, 0), (some 17, 1), (some 18, 2), (some 19, 3), (some 20, 4), (some 21, 5), (some 22, 6), (some 23, 7), (some 24, 8)] 1 [Jo.qp w2.heap.size 1, Jo.q4 K1 s1 M1 E1, Jo.q4 G g P Q, Jo.Fact.num u, Jo.qp w2.heap.size 5, Jo.q4 K1b s1b M1b E1b, Jo.q4 G g P Q, Jo.Fact.num l, Jo.Fact.iv z, Jo.Fact.any] (by kernel_rfl) (by kernel_rfl) (by decide) rfl rfl ?_ ?_
      · refine Jo.jn 0 (some 16) [] _ rfl rfl rfl rfl ?_ ?_
        · rintro wj hJ K hK; simp only [Jo.z] at hK ⊢; go_simp; exact hK.out _ _ rfl (br _ _)
        refine Jo.jn 1 (some 17) [(some 16, 0)] _ rfl rfl rfl rfl ?_ ?_
        · rintro wj hJ _ rfl K hK; simp only [Jo.z] at hK ⊢; obtain ⟨xX50, xX51, xX52, xX53, xX54, xX55, xX56, xX57, xX58⟩ := (X5.below hJ).u9; go_simp; exact hK.out _ _ rfl (br _ _)
        refine Jo.jn 2 (some 18) [] _ rfl rfl rfl rfl ?_ ?_
        · rintro wj hJ K hK; simp only [Jo.z] at hK ⊢; obtain ⟨xX30, xX31, xX32, xX33⟩ := (X3.below hJ).u4; go_simp; exact hK.out _ _ rfl (br _ _)
        refine Jo.jn 3 (some 19) [(some 17, 1), (some 18, 2)] _ rfl rfl rfl rfl ?_ ?_
        · rintro wj hJ _ rfl _ rfl K hK; simp only [Jo.z] at hK ⊢; go_simp; refine (gSub a1.top hP a1.rk (by rw [HY.out]) HN1.out HU.out).mono ?_; rintro ee wk ⟨K2, s2, M2, E2, rfl, q2, B⟩; exact hK.out _ _ ⟨K2, s2, M2, E2, rfl, q2⟩ B
        refine Jo.jn 4 (some 20) [] _ rfl rfl rfl rfl ?_ ?_
        · rintro wj hJ K hK; simp only [Jo.z] at hK ⊢; go_simp; exact hK.out _ _ rfl (br _ _)
        refine Jo.jn 5 (some 21) [(some 20, 4)] _ rfl rfl rfl rfl ?_ ?_
        · rintro wj hJ _ rfl K hK; simp only [Jo.z] at hK ⊢; obtain ⟨xX50, xX51, xX52, xX53, xX54, xX55, xX56, xX57, xX58⟩ := (X5.below hJ).u9; go_simp; exact hK.out _ _ rfl (br _ _)
        refine Jo.jn 6 (some 22) [] _ rfl rfl rfl rfl ?_ ?_
        · rintro wj hJ K hK; simp only [Jo.z] at hK ⊢; obtain ⟨xX30, xX31, xX32, xX33⟩ := (X3.below hJ).u4; go_simp; exact hK.out _ _ rfl (br _ _)
        refine Jo.jn 7 (some 23) [(some 21, 5), (some 22, 6)] _ rfl rfl rfl rfl ?_ ?_
        · rintro wj hJ _ rfl _ rfl K hK; simp only [Jo.z] at hK ⊢; go_simp; refine (gAdd b1.top hP b1.rk HY.out HN2.out HL.out).mono ?_; rintro ee wk ⟨K3, s3, M3, E3, rfl, q3, B⟩; exact hK.out _ _ ⟨K3, s3, M3, E3, rfl, q3⟩ B
        refine Jo.jn 8 (some 24) [(some 19, 3), (some 23, 7)] _ rfl rfl rfl rfl ?_ ?_
        · rintro wj hJ _ ⟨K2, s2, M2, E2, rfl, q2⟩ _ ⟨K3, s3, M3, E3, rfl, q3⟩ K hK; simp only [Jo.z] at hK ⊢; go_simp; refine (jvMake q2.top q3.top q2.rk q3.rk HR.out).mono ?_; rintro ee wk ⟨e4, K4, s4, M4, E4, K4b, s4b, M4b, E4b, rfl, v4, B⟩; exact hK.out _ _ ⟨e4, K4, s4, M4, E4, K4b, s4b, M4b, E4b, rfl, v4⟩ B
        exact Jo.Steps.nil
      rintro w8 hJ _ _ _ rfl _ rfl _ ⟨K2, s2, M2, E2, rfl, q2⟩ _ _ _ rfl _ rfl _ ⟨K3, s3, M3, E3, rfl, q3⟩ _ ⟨e4, K4, s4, M4, E4, K4b, s4b, M4b, E4b, rfl, v4⟩ -; simp only [Jo.z]; replace X3 := X3.below hJ; replace XR := XR.below hJ; replace X5 := X5.below hJ; replace HB := Lib.hid (bt HB.out hJ); obtain ⟨xXR0, xXR1, xXR2, xXR3, xXR4, xXR5, xXR6, xXR7, xXR8⟩ := XR.u9; have zXR0 := XR.frozen
      refine Jo.jnext (i := 9) (o := ⟨none, _, _, _, _, _⟩) (by kernel_rfl) rfl (fun K hK => ?_)
      go_simp; refine hK.out _ _ ?_; clear hK K xXR0 zXR0 xXR1 xXR2 xXR3 xXR4 xXR5 xXR6 xXR7 xXR8; have SX := StN.mk9 XR (.bool e4) (.int .i64 K4) (.bool s4) (.int .u64 M4) (.int .i64 E4) (.int .i64 K4b) (.bool s4b) (.int .u64 M4b) (.int .i64 E4b); refine Jo.jdone (by kernel_rfl) ?_; go_wp2; exact bodyPost_ret (by simp [results, Tryz.results14, go_sem, SX.box.cell]) rfl ⟨_, _, _, _, _, _, _, _, _, rfl, v4, (SX.below HB.out (by omega))⟩
end Go.Proofs.YthhlccdmflgbbaaGreatDoor
