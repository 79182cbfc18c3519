/-
  The walk of IvopSums: for all arguments the call answers true, and nothing that was there has turned.
-/
import Derived.Test.YteejbcimmmcnlaaGreatDoorYCbq
import Derived.Test.YteejbcimmmcnlaaGreatDoorYCbt
namespace Go.Proofs.YteejbcimmmcnlaaGreatDoor
open Go.RowKit
set_option linter.unusedVariables false
set_option linter.unusedSimpArgs false
set_option maxRecDepth 100000

set_option maxHeartbeats 8000000 in
theorem ivopSums_far (e0 : Bool) (D0 : Int) (s0 : Bool) (M0 E0 G0 : Int) (g0 : Bool) (P0 Q0 : Int) (e1 : Bool) (D1 : Int) (s1 : Bool) (M1 E1 G1 : Int) (g1 : Bool) (P1 Q1 : Int) (a2 : Option Addr) (len2 cap2 : Nat) (w : World) (p r : Bool) {q : Bool → Int → Int → Int} (hq : QF q) (hT : Tab w) (hl : len2 ≤ 9223372036854775807) (h0 : (fewq D0 E0 && fewq G0 Q0) = p) (h1 : (fewq D1 E1 && fewq G1 Q1) = r) (h : (p && r) = false ∨ 20 < len2) :
    Calls Tryz.prog 3 #[.agg #[.bool e0, .int .i64 D0, .bool s0, .int .u64 M0, .int .i64 E0, .int .i64 G0, .bool g0, .int .u64 P0, .int .i64 Q0], .agg #[.bool e1, .int .i64 D1, .bool s1, .int .u64 M1, .int .i64 E1, .int .i64 G1, .bool g1, .int .u64 P1, .int .i64 Q1], .slice a2 len2 cap2] w (PB w true) := by
  have HQ := Lib.hid hq; have H0 := Lib.hid h0; have H1 := Lib.hid h1; have H := Lib.hid h; clear h0 h1 hq h
  go_enter Tryz.func3, Tryz.ntmps3
  go_upto_region 1 with (fail)
  generalize hW1 : (w.alloc _).alloc _ = w1 at *; obtain ⟨X0, X1, HB⟩ := Bo.en2 hW1; replace hT := hT.below HB.out; clear hW1
  go_wp2_with fail
  refine (awake9 hT HQ.out).mono ?_; rintro ee w2 ⟨rfl, B⟩; replace X0 := X0.below B; replace X1 := X1.below B; replace hT := hT.below B; replace HB := Lib.hid (bt HB.out B); clear B; obtain ⟨xX00, xX01, xX02, xX03, xX04, xX05, xX06, xX07, xX08⟩ := X0.u9
  go_wp2_with fail
  refine (kvFew9 H0.out).mono ?_; rintro ee w3 ⟨rfl, B⟩; clear xX00 xX01 xX02 xX03 xX04 xX05 xX06 xX07 xX08; replace X0 := X0.below B; replace X1 := X1.below B; replace hT := hT.below B; replace HB := Lib.hid (bt HB.out B); clear B; obtain ⟨xX10, xX11, xX12, xX13, xX14, xX15, xX16, xX17, xX18⟩ := X1.u9
  go_wp2_with fail
  refine (kvFew9 H1.out).mono ?_; rintro ee w4 ⟨rfl, B⟩; clear xX10 xX11 xX12 xX13 xX14 xX15 xX16 xX17 xX18; replace X0 := X0.below B; replace X1 := X1.below B; replace hT := hT.below B; replace HB := Lib.hid (bt HB.out B); clear B; clear H0 H1
  cases p
  · go_wp2
    go_ret
    exact ⟨rfl, HB.out⟩
  · cases r
    · go_wp2
      go_ret
      exact ⟨rfl, HB.out⟩
    · have t2 : (20 : Int) < len2 := by exact H.out.elim (fun h => by cases h) (fun h => by omega)
      go_wp2
      go_ret
      exact ⟨rfl, HB.out⟩
set_option maxHeartbeats 8000000 in
theorem ivopSums_main (e0 : Bool) (D0 : Int) (s0 : Bool) (M0 E0 G0 : Int) (g0 : Bool) (P0 Q0 : Int) (e1 : Bool) (D1 : Int) (s1 : Bool) (M1 E1 G1 : Int) (g1 : Bool) (P1 Q1 : Int) (a2 : Option Addr) (len2 cap2 : Nat) (w : World) (l : List Sp) (x y a d m : Sp) {q : Bool → Int → Int → Int} (hq : QF q) (hT : Tab w) (hT2 : Tb w) (u0 : M0 < 18446744073709551616) (v0 : P0 < 18446744073709551616) (u1 : M1 < 18446744073709551616) (v1 : P1 < 18446744073709551616) (hz0 : Il8 w a2 len2 cap2 l) (hn : len2 ≤ 20) (k0 : (fewq D0 E0 && fewq G0 Q0) = true) (k1 : (fewq D1 E1 && fewq G1 Q1) = true) (hx : rkI e0 D0 s0 M0 E0 G0 g0 P0 Q0 = x) (hy : rkI e1 D1 s1 M1 E1 G1 g1 P1 Q1 = y)
    (ha : addL l = a) (hd : subI x y = d) (hm : negI x = m) (hnr : NearA x (negI y)) :
    Calls Tryz.prog 3 #[.agg #[.bool e0, .int .i64 D0, .bool s0, .int .u64 M0, .int .i64 E0, .int .i64 G0, .bool g0, .int .u64 P0, .int .i64 Q0], .agg #[.bool e1, .int .i64 D1, .bool s1, .int .u64 M1, .int .i64 E1, .int .i64 G1, .bool g1, .int .u64 P1, .int .i64 Q1], .slice a2 len2 cap2] w (PB w true) := by
  have hlen := hz0.1; have hcap := hz0.2.1; have hbig := hz0.2.2.1; have HLN := Lib.hid hlen
  have HNL : Hid ((∀ j, j < len2 → FzI (l.getD j none) 1600) → NearI l) := Lib.hid (fun h => nearI_of (fun k hk => h k (by omega)) (by omega))
  have t2 : ¬ (20 : Int) < len2 := by omega
  have HX := Lib.hid hx; have HY := Lib.hid hy; have H0 := Lib.hid k0; have H1 := Lib.hid k1; have HA := Lib.hid ha; have HD := Lib.hid hd; have HMN := Lib.hid hm; have HNR := Lib.hid hnr; have HQ := Lib.hid hq; clear hx hy k0 k1 ha hd hm hnr hq hlen
  go_enter Tryz.func3, Tryz.ntmps3
  go_upto_region 1 with (fail)
  generalize hW1 : (w.alloc _).alloc _ = w1 at *; obtain ⟨X0, X1, HB⟩ := Bo.en2 hW1; replace hT := hT.below HB.out; replace hT2 := hT2.below HB.out; replace hz0 := hz0.below HB.out; clear hW1
  go_wp2_with fail
  refine (awake9 hT HQ.out).mono ?_; rintro ee w2 ⟨rfl, B⟩; replace X0 := X0.below B; replace X1 := X1.below B; replace hT := hT.below B; replace hT2 := hT2.below B; replace hz0 := hz0.below B; replace HB := Lib.hid (bt HB.out B); clear B; obtain ⟨xX00, xX01, xX02, xX03, xX04, xX05, xX06, xX07, xX08⟩ := X0.u9
  go_wp2_with fail
  refine (kvFew9 H0.out).mono ?_; rintro ee w3 ⟨rfl, B⟩; clear xX00 xX01 xX02 xX03 xX04 xX05 xX06 xX07 xX08; replace X0 := X0.below B; replace X1 := X1.below B; replace hT := hT.below B; replace hT2 := hT2.below B; replace hz0 := hz0.below B; replace HB := Lib.hid (bt HB.out B); clear B; obtain ⟨xX10, xX11, xX12, xX13, xX14, xX15, xX16, xX17, xX18⟩ := X1.u9
  go_wp2_with fail
  refine (kvFew9 H1.out).mono ?_; rintro ee w4 ⟨rfl, B⟩; clear xX10 xX11 xX12 xX13 xX14 xX15 xX16 xX17 xX18; replace X0 := X0.below B; replace X1 := X1.below B; replace hT := hT.below B; replace hT2 := hT2.below B; replace hz0 := hz0.below B; replace HB := Lib.hid (bt HB.out B); clear B; clear H0 H1; go_wp2
  go_loopw [10] (fun i wr => ∃ k : Nat, k ≤ len2 ∧ i = .int .i64 k ∧ (∀ j, j < k → FzI (l.getD j none) 1600) ∧ Below w4.heap.size w4 wr) (fun i _ => len2 - (intOf i).toNat)
  case atStart => exact ⟨0, Nat.zero_le _, rfl, fun j h => absurd h (Nat.not_lt_zero _), Below.refl _ _⟩
  case round =>
    obtain ⟨k, hk, rfl, hU, hB⟩ := hrel; have HU := Lib.hid hU; have HB4 := Lib.hid hB; clear hU
    by_cases hlt : k < len2
    · obtain ⟨b, o, e, hcell⟩ := hz0.2.2.2 (by omega); subst e; obtain ⟨e, D, s, M, E, D', s', M', E', c0, c1, c2, c3, c4, c5, c6, c7, c8, hM, hM', hx⟩ := hcell k hlt; have d0 := (hB.cell (p := ⟨b, _, none⟩) (block_lt_of_cell c0)).trans c0; have d1 := (hB.cell (p := ⟨b, _, none⟩) (block_lt_of_cell c1)).trans c1; have d2 := (hB.cell (p := ⟨b, _, none⟩) (block_lt_of_cell c2)).trans c2; have d3 := (hB.cell (p := ⟨b, _, none⟩) (block_lt_of_cell c3)).trans c3
      have d4 := (hB.cell (p := ⟨b, _, none⟩) (block_lt_of_cell c4)).trans c4; have d5 := (hB.cell (p := ⟨b, _, none⟩) (block_lt_of_cell c5)).trans c5; have d6 := (hB.cell (p := ⟨b, _, none⟩) (block_lt_of_cell c6)).trans c6; have d7 := (hB.cell (p := ⟨b, _, none⟩) (block_lt_of_cell c7)).trans c7; have d8 := (hB.cell (p := ⟨b, _, none⟩) (block_lt_of_cell c8)).trans c8; clear hcell hB c0 c1 c2 c3 c4 c5 c6 c7 c8
      have i1 : (k : Int) < len2 := by omega
      have i2 : (0 : Int) ≤ k := by omega
      by_cases hfew : (fewq D E && fewq D' E') = true
      · have HN : Hid (∀ j, j < k + 1 → FzI (l.getD j none) 1600) := Lib.hid (fun j hj => by
          by_cases e : j = k
          · rw [e, ← hx]; exact rkI_fz hM hM' hfew
          · exact HU.out j (by omega))
        have HW := Lib.hid hfew; clear hfew hx
        go_wp2_with fail
        refine (kvFew9 HW.out).mono ?_; rintro ee w5 ⟨rfl, B5⟩; have HB5 := Lib.hid (bt HB4.out B5); clear B5 d0 d1 d2 d3 d4 d5 d6 d7 d8; go_wp2
        go_roundw
        case rel => exact ⟨k + 1, by omega, by go_num, HN.out, HB5.out⟩
        case measure => simp [intOf]; omega
      · have HW : Hid ((fewq D E && fewq D' E') = false) := Lib.hid (by simpa using hfew)
        clear hfew hx
        go_wp2_with fail
        refine (kvFew9 HW.out).mono ?_; rintro ee w5 ⟨rfl, B5⟩; have HB5 := Lib.hid (bt HB4.out B5); clear B5 d0 d1 d2 d3 d4 d5 d6 d7 d8; go_wp2
        go_ret
        exact ⟨rfl, bt HB.out HB5.out⟩
    · obtain rfl : k = len2 := by omega
      have HNE := Lib.hid (HNL.out HU.out)
      have tl : decide ((k : Int) < (k : Int)) = false := by simp
      clear HU HNL HB4; replace X0 := X0.below hB; replace X1 := X1.below hB; replace hT := hT.below hB; replace hT2 := hT2.below hB; replace hz0 := hz0.below hB; replace HB := Lib.hid (bt HB.out hB); clear hB
      go_upto_region 12 with (fail)
      refine Jo.rk [0, 1, 2, 3, 4, 5, 6, 7, 8, 9, 10, 11, 12, 13, 14, 15, 16, 17, 18, 19, 20, 21] [some 46, some 47, some 48, some 49, some 50, some 51, some 52, some 53, some 54, some 55, some 56, some 57, some 58, some 59, some 60, some 61, some 62, some 63, some 64, some 65, some 66, some 6] [[], [0], [], [2], [1, 3], [4], [5], [5], [5, 6, 7], [5], [5], [5, 9, 10], [5, 8, 11], [5, 12], [13], [14], [14, 15], [14], [14, 17], [14, 16, 18], [14, 19], [20]] 22 0 [Jo.Fact.eq (.slice a2 k cap2), Jo.Fact.iv a, Jo.Fact.eq (.slice a2 k cap2), Jo.Fact.iv a, Jo.qb true, Jo.qb true, Jo.q9 e0 D0 s0 M0 E0 G0 g0 P0 Q0, Jo.q9 e1 D1 s1 M1 E1 G1 g1 P1 Q1, Jo.Fact.iv d, Jo.q9 e0 D0 s0 M0 E0 G0 g0 P0 Q0, Jo.q9 e1 D1 s1 M1 E1 G1 g1 P1 Q1, Jo.Fact.iv d, Jo.qb true, Jo.qb true, Jo.qb true, Jo.q9 e0 D0 s0 M0 E0 G0 g0 P0 Q0, Jo.Fact.iv m, Jo.q9 e0 D0 s0 M0 E0 G0 g0 P0 Q0, Jo.Fact.iv m, Jo.qb true, Jo.qb true, Jo.qb true] (by kernel_rfl) (by kernel_rfl) (by decide) rfl ?_ ?_
      · refine Jo.jm rfl ?_ ?_
        · rintro wj hJ K hK; simp only [Jo.z] at hK ⊢; go_simp; exact hK.out _ _ rfl (br _ _)
        refine Jo.jm rfl ?_ ?_
        · rintro wj hJ _ rfl K hK; simp only [Jo.z] at hK ⊢; go_simp; refine (fkAdd (hT2.below hJ) (hz0.below hJ) HA.out).mono ?_; rintro ee wk ⟨e20, K20, s20, M20, E20, K20b, s20b, M20b, E20b, rfl, v20, B⟩; exact hK.out _ _ ⟨e20, K20, s20, M20, E20, K20b, s20b, M20b, E20b, rfl, v20⟩ B
        refine Jo.jm rfl ?_ ?_
        · rintro wj hJ K hK; simp only [Jo.z] at hK ⊢; go_simp; exact hK.out _ _ rfl (br _ _)
        refine Jo.jm rfl ?_ ?_
        · rintro wj hJ _ rfl K hK; simp only [Jo.z] at hK ⊢; go_simp; refine (fwAdd (hz0.below hJ) HNE.out HA.out).mono ?_; rintro ee wk ⟨e21, K21, s21, M21, E21, K21b, s21b, M21b, E21b, rfl, v21, B⟩; exact hK.out _ _ ⟨e21, K21, s21, M21, E21, K21b, s21b, M21b, E21b, rfl, v21⟩ B
        refine Jo.jm rfl ?_ ?_
        · rintro wj hJ _ ⟨e20, K20, s20, M20, E20, K20b, s20b, M20b, E20b, rfl, v20⟩ _ ⟨e21, K21, s21, M21, E21, K21b, s21b, M21b, E21b, rfl, v21⟩ K hK; simp only [Jo.z] at hK ⊢; obtain ⟨rfl, rfl, rfl, rfl, rfl, rfl, rfl, rfl, rfl⟩ := v20.uniq v21; go_simp
          exact hK.out _ _ (by first | rfl | (show Value.bool _ = Value.bool _; simp)) (br _ _)
        refine Jo.jm rfl ?_ ?_
        · rintro wj hJ _ rfl K hK; simp only [Jo.z] at hK ⊢; go_simp; exact hK.out _ _ rfl (br _ _)
        refine Jo.jm rfl ?_ ?_
        · rintro wj hJ _ rfl K hK; simp only [Jo.z] at hK ⊢; obtain ⟨xX00, xX01, xX02, xX03, xX04, xX05, xX06, xX07, xX08⟩ := (X0.below hJ).u9; go_simp; exact hK.out _ _ rfl (br _ _)
        refine Jo.jm rfl ?_ ?_
        · rintro wj hJ _ rfl K hK; simp only [Jo.z] at hK ⊢; obtain ⟨xX10, xX11, xX12, xX13, xX14, xX15, xX16, xX17, xX18⟩ := (X1.below hJ).u9; go_simp; exact hK.out _ _ rfl (br _ _)
        refine Jo.jm rfl ?_ ?_
        · rintro wj hJ _ rfl _ rfl _ rfl K hK; simp only [Jo.z] at hK ⊢; go_simp; refine (fkSub (hT2.below hJ) u0 v0 u1 v1 HX.out HY.out HD.out).mono ?_; rintro ee wk ⟨e22, K22, s22, M22, E22, K22b, s22b, M22b, E22b, rfl, v22, B⟩; exact hK.out _ _ ⟨e22, K22, s22, M22, E22, K22b, s22b, M22b, E22b, rfl, v22⟩ B
        refine Jo.jm rfl ?_ ?_
        · rintro wj hJ _ rfl K hK; simp only [Jo.z] at hK ⊢; obtain ⟨xX00, xX01, xX02, xX03, xX04, xX05, xX06, xX07, xX08⟩ := (X0.below hJ).u9; go_simp; exact hK.out _ _ rfl (br _ _)
        refine Jo.jm rfl ?_ ?_
        · rintro wj hJ _ rfl K hK; simp only [Jo.z] at hK ⊢; obtain ⟨xX10, xX11, xX12, xX13, xX14, xX15, xX16, xX17, xX18⟩ := (X1.below hJ).u9; go_simp; exact hK.out _ _ rfl (br _ _)
        refine Jo.jm rfl ?_ ?_
        · rintro wj hJ _ rfl _ rfl _ rfl K hK; simp only [Jo.z] at hK ⊢; go_simp; refine (fwSub u0 v0 u1 v1 HX.out HY.out HNR.out HD.out).mono ?_; rintro ee wk ⟨e23, K23, s23, M23, E23, K23b, s23b, M23b, E23b, rfl, v23, B⟩; exact hK.out _ _ ⟨e23, K23, s23, M23, E23, K23b, s23b, M23b, E23b, rfl, v23⟩ B
        refine Jo.jm rfl ?_ ?_
        · rintro wj hJ _ rfl _ ⟨e22, K22, s22, M22, E22, K22b, s22b, M22b, E22b, rfl, v22⟩ _ ⟨e23, K23, s23, M23, E23, K23b, s23b, M23b, E23b, rfl, v23⟩ K hK; simp only [Jo.z] at hK ⊢; obtain ⟨rfl, rfl, rfl, rfl, rfl, rfl, rfl, rfl, rfl⟩ := v22.uniq v23; go_simp
          exact hK.out _ _ (by first | rfl | (show Value.bool _ = Value.bool _; simp)) (br _ _)
        refine Jo.jm rfl ?_ ?_
        · rintro wj hJ _ rfl _ rfl K hK; simp only [Jo.z] at hK ⊢; go_simp; exact hK.out _ _ rfl (br _ _)
        refine Jo.jm rfl ?_ ?_
        · rintro wj hJ _ rfl K hK; simp only [Jo.z] at hK ⊢; go_simp; exact hK.out _ _ rfl (br _ _)
        refine Jo.jm rfl ?_ ?_
        · rintro wj hJ _ rfl K hK; simp only [Jo.z] at hK ⊢; obtain ⟨xX00, xX01, xX02, xX03, xX04, xX05, xX06, xX07, xX08⟩ := (X0.below hJ).u9; go_simp; exact hK.out _ _ rfl (br _ _)
        refine Jo.jm rfl ?_ ?_
        · rintro wj hJ _ rfl _ rfl K hK; simp only [Jo.z] at hK ⊢; go_simp; refine (fkNeg u0 v0 HX.out HMN.out).mono ?_; rintro ee wk ⟨e24, K24, s24, M24, E24, K24b, s24b, M24b, E24b, rfl, v24, B⟩; exact hK.out _ _ ⟨e24, K24, s24, M24, E24, K24b, s24b, M24b, E24b, rfl, v24⟩ B
        refine Jo.jm rfl ?_ ?_
        · rintro wj hJ _ rfl K hK; simp only [Jo.z] at hK ⊢; obtain ⟨xX00, xX01, xX02, xX03, xX04, xX05, xX06, xX07, xX08⟩ := (X0.below hJ).u9; go_simp; exact hK.out _ _ rfl (br _ _)
        refine Jo.jm rfl ?_ ?_
        · rintro wj hJ _ rfl _ rfl K hK; simp only [Jo.z] at hK ⊢; go_simp; refine (fwNeg u0 v0 HX.out HMN.out).mono ?_; rintro ee wk ⟨e25, K25, s25, M25, E25, K25b, s25b, M25b, E25b, rfl, v25, B⟩; exact hK.out _ _ ⟨e25, K25, s25, M25, E25, K25b, s25b, M25b, E25b, rfl, v25⟩ B
        refine Jo.jm rfl ?_ ?_
        · rintro wj hJ _ rfl _ ⟨e24, K24, s24, M24, E24, K24b, s24b, M24b, E24b, rfl, v24⟩ _ ⟨e25, K25, s25, M25, E25, K25b, s25b, M25b, E25b, rfl, v25⟩ K hK; simp only [Jo.z] at hK ⊢; obtain ⟨rfl, rfl, rfl, rfl, rfl, rfl, rfl, rfl, rfl⟩ := v24.uniq v25; go_simp
          exact hK.out _ _ (by first | rfl | (show Value.bool _ = Value.bool _; simp)) (br _ _)
        refine Jo.jm rfl ?_ ?_
        · rintro wj hJ _ rfl _ rfl K hK; simp only [Jo.z] at hK ⊢; go_simp; exact hK.out _ _ rfl (br _ _)
        refine Jo.jm rfl ?_ ?_
        · rintro wj hJ _ rfl K hK; simp only [Jo.z] at hK ⊢; go_simp; exact hK.out _ _ rfl (br _ _)
        exact Jo.Steps.nil
      rintro w9 hJ _ rfl _ ⟨e20, K20, s20, M20, E20, K20b, s20b, M20b, E20b, rfl, v20⟩ _ rfl _ ⟨e21, K21, s21, M21, E21, K21b, s21b, M21b, E21b, rfl, v21⟩ _ rfl _ rfl _ rfl _ rfl _ ⟨e22, K22, s22, M22, E22, K22b, s22b, M22b, E22b, rfl, v22⟩ _ rfl _ rfl _ ⟨e23, K23, s23, M23, E23, K23b, s23b, M23b, E23b, rfl, v23⟩ _ rfl _ rfl _ rfl _ rfl _ ⟨e24, K24, s24, M24, E24, K24b, s24b, M24b, E24b, rfl, v24⟩ _ rfl _ ⟨e25, K25, s25, M25, E25, K25b, s25b, M25b, E25b, rfl, v25⟩ _ rfl _ rfl _ rfl -
      simp only [Jo.z]; replace X0 := X0.below hJ; replace X1 := X1.below hJ; replace hT := hT.below hJ; replace hT2 := hT2.below hJ; replace hz0 := hz0.below hJ; replace HB := Lib.hid (bt HB.out hJ); refine Jo.jdone (by kernel_rfl) ?_; go_wp2
      go_ret
      exact ⟨rfl, HB.out⟩

theorem ivopSums_walk (e0 : Bool) (D0 : Int) (s0 : Bool) (M0 E0 G0 : Int) (g0 : Bool) (P0 Q0 : Int) (e1 : Bool) (D1 : Int) (s1 : Bool) (M1 E1 G1 : Int) (g1 : Bool) (P1 Q1 : Int) (a2 : Option Addr) (len2 cap2 : Nat) (w : World) (hT : Tab w) (hT2 : Tb w) (u0 : M0 < 18446744073709551616) (v0 : P0 < 18446744073709551616) (u1 : M1 < 18446744073709551616) (v1 : P1 < 18446744073709551616) (w2 : RowsI w a2 len2 cap2) :
    Calls Tryz.prog 3 #[.agg #[.bool e0, .int .i64 D0, .bool s0, .int .u64 M0, .int .i64 E0, .int .i64 G0, .bool g0, .int .u64 P0, .int .i64 Q0], .agg #[.bool e1, .int .i64 D1, .bool s1, .int .u64 M1, .int .i64 E1, .int .i64 G1, .bool g1, .int .u64 P1, .int .i64 Q1], .slice a2 len2 cap2] w fun e w' => e = .returned (.bool true) ∧ Below w.heap.size w w' := by
  obtain ⟨q, hq⟩ := qf_ex
  cases h0 : (fewq D0 E0 && fewq G0 Q0)
  · exact ivopSums_far e0 D0 s0 M0 E0 G0 g0 P0 Q0 e1 D1 s1 M1 E1 G1 g1 P1 Q1 a2 len2 cap2 w _ _ hq hT w2.len h0 rfl (.inl rfl)
  · cases h1 : (fewq D1 E1 && fewq G1 Q1)
    · exact ivopSums_far e0 D0 s0 M0 E0 G0 g0 P0 Q0 e1 D1 s1 M1 E1 G1 g1 P1 Q1 a2 len2 cap2 w _ _ hq hT w2.len h0 h1 (.inl rfl)
    · by_cases hn : len2 ≤ 20
      · obtain ⟨l, hl⟩ := w2.il (by omega); exact ivopSums_main e0 D0 s0 M0 E0 G0 g0 P0 Q0 e1 D1 s1 M1 E1 G1 g1 P1 Q1 a2 len2 cap2 w l _ _ _ _ _ hq hT hT2 u0 v0 u1 v1 hl hn h0 h1 rfl rfl rfl rfl rfl ((rkI_fz u0 v0 h0).near (rkI_fz u1 v1 h1).neg (by decide))
      · exact ivopSums_far e0 D0 s0 M0 E0 G0 g0 P0 Q0 e1 D1 s1 M1 E1 G1 g1 P1 Q1 a2 len2 cap2 w _ _ hq hT w2.len h0 h1 (.inr (by omega))
end Go.Proofs.YteejbcimmmcnlaaGreatDoor
