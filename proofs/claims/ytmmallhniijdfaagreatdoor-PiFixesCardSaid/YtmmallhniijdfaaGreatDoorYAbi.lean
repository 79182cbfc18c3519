/-
 Contracts that the proof rests on.
-/
import Derived.Test.YtmmallhniijdfaaGreatDoorYAbh
namespace Go.Proofs.YtmmallhniijdfaaGreatDoor
open Go.RowKit
set_option linter.unusedVariables false
set_option linter.unusedSimpArgs false
set_option maxRecDepth 100000
def WB (w : World) (K : Nat) (z : Int) (t : Bool) (e : Ending) (w' : World) : Prop := ∃ s A n c, e = .returned (.tuple #[.agg #[.bool s, .slice A n c], .bool t]) ∧ Wn w' s A n c z ∧ n ≤ K ∧ Below w.heap.size w w'
set_option maxHeartbeats 8000000 in
theorem jFix {w : World} {D M E : Int} {s : Bool} {x z : Int} {t : Bool} (hM : LQ M) (hx : rk D s M E = x) (hz : fixI x = z) (ht : fixB x = t) : Calls Tryz.prog 16 #[VQ D s M E] w (WB w 140000 z t) := by
 delta VQ
 have HX := Lib.hid hx; have HZ := Lib.hid hz; have HTT := Lib.hid ht; clear hx hz ht
 go_enter Tryz.func16, Tryz.ntmps16
 go_upto_region 1 with (fail)
 generalize hW1 : (w.alloc _).alloc _ = w1 at *; obtain ⟨X1, XR, HB⟩ := Bo.en2 hW1; clear hW1; have xX1 := X1.cell
 go_wp2_with fail
 refine (gFair hM HX.out).mono ?_; rintro ee w2 ⟨K1, s1, M1, E1, rfl, q1, B⟩; clear xX1; replace X1 := X1.below B; replace XR := XR.below B; replace HB := Hqb HB B; clear B
 go_upto_region 2 with (fail)
 have lX4 := Nat.le_refl (World.heap w2).size; have nX4X1 := X1.lt; have nX4XR := XR.lt; generalize hWn : w2.alloc _ = w3 at *; obtain ⟨X4, BW⟩ := Bo.nw hWn; clear hWn; replace X1 := X1.below BW; replace XR := XR.below BW; replace HB := Hqb HB BW; clear BW; clear lX4 HX hM; clear X1
 rcases fq_kind q1 with ⟨rfl, rfl⟩ | rfl | rfl
 · obtain ⟨fb, fi⟩ := fix_zero
   obtain rfl : true = t := by rw [← HTT.out, fb]
   obtain rfl : 0 = z := by rw [← HZ.out, fi]
   obtain ⟨_, rfl, rfl, rfl⟩ := q1.uniq Fq.nought
   have hb : exb 0 false 0 0 = true := by decide
   obtain ⟨N, hN⟩ : ∃ N, (exq 0 false 0 0).1 = N := ⟨_, rfl⟩; obtain ⟨G, hG⟩ : ∃ N, (exq 0 false 0 0).2 = N := ⟨_, rfl⟩
   have m0 : (0 : Int) ≤ 0 := by decide
   obtain ⟨σ, hσ⟩ : ∃ σ, cmpI (if false = true then -0 else (0 : Int)) (opl 1073741824) = σ := ⟨_, rfl⟩; have hc0 := fixB_abs (fq_sign q1) hσ; rw [fb] at hc0
   have HC0 : Hid (decide (0 ≤ σ) = false) := Lib.hid hc0
   have HC : Hid (cmpI 0 (opl 1073741824) = σ) := Lib.hid hσ
   clear HTT HZ fb fi hσ hc0; have xX4 := X4.cell
   go_wp2_with fail
   refine (yExact0 m0 (by decide) hb hN hG).mono ?_; rintro ee w4 ⟨s5, A5, n5, c5, rfl, p5, k5, B⟩; clear xX4; replace XR := XR.below B; replace X4 := X4.below B; replace HB := Hqb HB B; clear B; clear hN hG hb m0 p5
   go_upto_region 3 with (fail)
   have lX5 := Nat.le_refl (World.heap w4).size; have nX5XR := XR.lt; have nX5X4 := X4.lt; generalize hWn : w4.alloc _ = w5 at *; obtain ⟨X5, BW⟩ := Bo.nw hWn; clear hWn; replace XR := XR.below BW; replace X4 := X4.below BW; replace HB := Hqb HB BW; clear BW; clear lX5; have xX4 := X4.cell
   go_upto_region 6 with (fail)
   clear xX4; have lX7 := Nat.le_refl (World.heap w5).size; have nX7XR := XR.lt; have nX7X4 := X4.lt; have nX7X5 := X5.lt; generalize hWn : w5.alloc _ = w6 at *; obtain ⟨X7, BW⟩ := Bo.nw hWn; clear hWn; replace XR := XR.below BW; replace X4 := X4.below BW; replace X5 := X5.below BW; replace HB := Hqb HB BW; clear BW; clear lX7; have xX7 := X7.cell
   have zX70 := X7.frozen
   go_upto_region 7 with (fail)
   clear xX7 zX70
   have SX : StN w6 (World.setCell w6 ⟨w5.heap.size, 1, none⟩ (.bool false)) _ _ #[.int .i64 0, .bool false, .int .u64 0, .int .i64 0] _ := StN.at4 X7 1 (.bool false)
   replace XR := XR.stn SX (by omega); replace X4 := X4.stn SX (by omega); replace X5 := X5.stn SX (by omega); replace HB := Hqs HB SX (by omega); replace X7 := SX.box; clear SX; generalize World.setCell w6 ⟨w5.heap.size, 1, none⟩ (.bool false) = w7 at *; refine Jo.rk [0, 1, 2, 3] [some 20, some 21, some 22, some 23] [[], [], [0, 1], [2]] 4 0 [Jo.q4 0 false 0 0, Jo.Fact.num (opl 1073741824), Jo.qi σ, Jo.qb false] (by kernel_rfl) (by kernel_rfl) (by decide) rfl ?_ ?_
   · refine Jo.jm rfl ?_ ?_
     · rintro wj hJ K hK; simp only [Jo.z] at hK ⊢; have xX7 := (X7.below hJ).cell; go_simp; exact hK.out _ _ rfl (br _ _)
     refine Jo.jm rfl ?_ ?_
     · rintro wj hJ K hK; simp only [Jo.z] at hK ⊢; go_simp; refine (yOf _ (by decide) (by decide) rfl).mono ?_; rintro ee wk ⟨K9, s9, M9, E9, rfl, q9, B⟩; exact hK.out _ _ ⟨K9, s9, M9, E9, rfl, q9⟩ B
     refine Jo.jm rfl ?_ ?_
     · rintro wj hJ _ rfl _ ⟨K9, s9, M9, E9, rfl, q9⟩ K hK; simp only [Jo.z] at hK ⊢; go_simp; refine (yCmp (z := σ) (by decide) q9.top (by rw [Fq.nought.rk, q9.rk]; exact HC.out)).mono ?_; rintro ee wk ⟨rfl, B⟩; exact hK.out _ _ rfl B
     refine Jo.jm rfl ?_ ?_
     · rintro wj hJ _ rfl K hK; simp only [Jo.z] at hK ⊢; have hc0 := HC0.out; go_simp
       exact hK.out _ _ (by first | rfl | (show Value.bool _ = Value.bool _; rw [hc0]) | simp_all) (br _ _)
     exact Jo.Steps.nil
   rintro w8 hJ _ rfl _ ⟨K9, s9, M9, E9, rfl, _⟩ _ rfl _ rfl -; simp only [Jo.z]; replace XR := XR.below hJ; replace X4 := X4.below hJ; replace X5 := X5.below hJ; replace X7 := X7.below hJ; replace HB := Hqb HB hJ; refine Jo.jdone (by kernel_rfl) ?_; clear HC HC0; have xX4 := X4.cell; have xXR := XR.cell; have zXR0 := XR.frozen; go_wp2; clear xX4 xXR zXR0
   have SX := StN.mk2 XR (.bool false) (.slice none 0 0); exact bodyPost_ret (v := .tuple #[.agg #[.bool false, .slice none 0 0], .bool true]) (by simp [results, Tryz.results16, go_sem, SX.box.cell]) rfl ⟨_, _, _, _, rfl, ⟨Nm.zero, rfl⟩, Nat.zero_le _, (SX.below HB.out (by omega))⟩
 · obtain ⟨N, G, hb, hN, hG, nf, hv, n64, g1, g2, sg0⟩ := fix_exq q1; have m0 := fq_mn q1; have qa := fq_abs q1 (by decide); obtain ⟨a, ha⟩ : ∃ a, (if s1 = true then -x else x) = a := ⟨_, rfl⟩; obtain ⟨σ, hσ⟩ : ∃ σ, cmpI (if s1 = true then -x else x) (opl 1073741824) = σ := ⟨_, rfl⟩; have hc0 := fixB_abs (fq_sign q1) hσ; rw [HTT.out] at hc0; rw [ha] at hσ qa
   have HC : Hid (cmpI a (opl 1073741824) = σ) := Lib.hid hσ
   clear hσ ha; have xX4 := X4.cell
   go_wp2_with fail
   refine (yExact0 m0 q1.top hb hN hG).mono ?_; rintro ee w4 ⟨s5, A5, n5, c5, rfl, p5, k5, B⟩; clear xX4; replace XR := XR.below B; replace X4 := X4.below B; replace HB := Hqb HB B; clear B; clear hN hG hb m0
   go_upto_region 3 with (fail)
   have lX5 := Nat.le_refl (World.heap w4).size; have nX5XR := XR.lt; have nX5X4 := X4.lt; generalize hWn : w4.alloc _ = w5 at *; obtain ⟨X5, BW⟩ := Bo.nw hWn; clear hWn; replace XR := XR.below BW; replace X4 := X4.below BW; replace p5 := p5.below BW; replace HB := Hqb HB BW; clear BW; clear lX5; have xX4 := X4.cell
   go_upto_region 6 with (fail)
   clear xX4; have lX7 := Nat.le_refl (World.heap w5).size; have nX7XR := XR.lt; have nX7X4 := X4.lt; have nX7X5 := X5.lt; generalize hWn : w5.alloc _ = w6 at *; obtain ⟨X7, BW⟩ := Bo.nw hWn; clear hWn; replace XR := XR.below BW; replace X4 := X4.below BW; replace X5 := X5.below BW; replace p5 := p5.below BW; replace HB := Hqb HB BW; clear BW; clear lX7; have xX7 := X7.cell
   have zX70 := X7.frozen
   go_upto_region 7 with (fail)
   clear xX7 zX70
   have SX : StN w6 (World.setCell w6 ⟨w5.heap.size, 1, none⟩ (.bool false)) _ _ #[.int .i64 1, .bool false, .int .u64 M1, .int .i64 E1] _ := StN.at4 X7 1 (.bool false)
   replace XR := XR.stn SX (by omega); replace X4 := X4.stn SX (by omega); replace X5 := X5.stn SX (by omega); replace p5 := p5.stn SX (by simp [no32]); replace HB := Hqs HB SX (by omega); replace X7 := SX.box; clear SX; generalize World.setCell w6 ⟨w5.heap.size, 1, none⟩ (.bool false) = w7 at *
   cases t
   · have HC0 : Hid (decide (0 ≤ σ) = true) := Lib.hid hc0
     obtain rfl : 0 = z := by rw [← HZ.out, fixI_no HTT.out]
     clear hc0 HZ HTT hv nf n64 sg0 p5; refine Jo.rk [0, 1, 2, 3] [some 20, some 21, some 22, some 23] [[], [], [0, 1], [2]] 4 0 [Jo.q4 1 false M1 E1, Jo.Fact.num (opl 1073741824), Jo.qi σ, Jo.qb true] (by kernel_rfl) (by kernel_rfl) (by decide) rfl ?_ ?_
     · refine Jo.jm rfl ?_ ?_
       · rintro wj hJ K hK; simp only [Jo.z] at hK ⊢; have xX7 := (X7.below hJ).cell; go_simp; exact hK.out _ _ rfl (br _ _)
       refine Jo.jm rfl ?_ ?_
       · rintro wj hJ K hK; simp only [Jo.z] at hK ⊢; go_simp; refine (yOf _ (by decide) (by decide) rfl).mono ?_; rintro ee wk ⟨K9, s9, M9, E9, rfl, q9, B⟩; exact hK.out _ _ ⟨K9, s9, M9, E9, rfl, q9⟩ B
       refine Jo.jm rfl ?_ ?_
       · rintro wj hJ _ rfl _ ⟨K9, s9, M9, E9, rfl, q9⟩ K hK; simp only [Jo.z] at hK ⊢; go_simp; refine (yCmp (z := σ) qa.top q9.top (by rw [qa.rk, q9.rk]; exact HC.out)).mono ?_; rintro ee wk ⟨rfl, B⟩; exact hK.out _ _ rfl B
       refine Jo.jm rfl ?_ ?_
       · rintro wj hJ _ rfl K hK; simp only [Jo.z] at hK ⊢; have hc0 := HC0.out; go_simp
         exact hK.out _ _ (by first | rfl | (show Value.bool _ = Value.bool _; rw [hc0]) | simp_all) (br _ _)
       exact Jo.Steps.nil
     rintro w8 hJ _ rfl _ ⟨K9, s9, M9, E9, rfl, _⟩ _ rfl _ rfl -; simp only [Jo.z]; replace XR := XR.below hJ; replace X4 := X4.below hJ; replace X5 := X5.below hJ; replace X7 := X7.below hJ; replace HB := Hqb HB hJ; refine Jo.jdone (by kernel_rfl) ?_; clear HC HC0; have xXR := XR.cell; have zXR0 := XR.frozen; go_wp2; clear xXR zXR0; have SX := StN.mk2 XR (.bool false) (.slice none 0 0)
     exact bodyPost_ret (v := .tuple #[.agg #[.bool false, .slice none 0 0], .bool false]) (by simp [results, Tryz.results16, go_sem, SX.box.cell]) rfl ⟨_, _, _, _, rfl, ⟨Nm.zero, rfl⟩, Nat.zero_le _, (SX.below HB.out (by omega))⟩
   · have HC0 : Hid (decide (0 ≤ σ) = false) := Lib.hid hc0
     have hzz := HZ.out; rw [fixI_yes HTT.out] at hzz; clear hc0 HZ HTT; refine Jo.rk [0, 1, 2, 3] [some 20, some 21, some 22, some 23] [[], [], [0, 1], [2]] 4 0 [Jo.q4 1 false M1 E1, Jo.Fact.num (opl 1073741824), Jo.qi σ, Jo.qb false] (by kernel_rfl) (by kernel_rfl) (by decide) rfl ?_ ?_
     · refine Jo.jm rfl ?_ ?_
       · rintro wj hJ K hK; simp only [Jo.z] at hK ⊢; have xX7 := (X7.below hJ).cell; go_simp; exact hK.out _ _ rfl (br _ _)
       refine Jo.jm rfl ?_ ?_
       · rintro wj hJ K hK; simp only [Jo.z] at hK ⊢; go_simp; refine (yOf _ (by decide) (by decide) rfl).mono ?_; rintro ee wk ⟨K9, s9, M9, E9, rfl, q9, B⟩; exact hK.out _ _ ⟨K9, s9, M9, E9, rfl, q9⟩ B
       refine Jo.jm rfl ?_ ?_
       · rintro wj hJ _ rfl _ ⟨K9, s9, M9, E9, rfl, q9⟩ K hK; simp only [Jo.z] at hK ⊢; go_simp; refine (yCmp (z := σ) qa.top q9.top (by rw [qa.rk, q9.rk]; exact HC.out)).mono ?_; rintro ee wk ⟨rfl, B⟩; exact hK.out _ _ rfl B
       refine Jo.jm rfl ?_ ?_
       · rintro wj hJ _ rfl K hK; simp only [Jo.z] at hK ⊢; have hc0 := HC0.out; go_simp
         exact hK.out _ _ (by first | rfl | (show Value.bool _ = Value.bool _; rw [hc0]) | simp_all) (br _ _)
       exact Jo.Steps.nil
     rintro w8 hJ _ rfl _ ⟨K9, s9, M9, E9, rfl, _⟩ _ rfl _ rfl -; simp only [Jo.z]; replace XR := XR.below hJ; replace X4 := X4.below hJ; replace X5 := X5.below hJ; replace X7 := X7.below hJ; replace p5 := p5.below hJ; replace HB := Hqb HB hJ; refine Jo.jdone (by kernel_rfl) ?_; clear HC HC0
     by_cases hf : G < -3000
     · rw [fix_far hv n64 g1 hf] at hzz
       have tf : decide (G < -3000) = true := decide_eq_true hf
       clear hf hv nf n64 p5
       by_cases hs : s1 = true
       · subst hs; rw [if_pos (sg0.2 rfl)] at hzz
         obtain rfl : -1 = z := hzz
         have xX4 := X4.cell; have xX5 := X5.cell
         go_wp2_with fail
         refine (qFrom (-1) _ (by decide) (by decide)).mono ?_; rintro ee wA ⟨s20, A20, n20, c20, rfl, p20, k20, B⟩; clear xX4 xX5; replace XR := XR.below B; replace X4 := X4.below B; replace X5 := X5.below B; replace X7 := X7.below B; replace HB := Hqb HB B; clear B; clear tf; have xXR := XR.cell; have zXR0 := XR.frozen; go_wp2; clear xXR zXR0
         have SX := StN.mk2 XR (.bool s20) (.slice A20 n20 c20); replace p20 := p20.stn SX (by simp [no32]); exact bodyPost_ret (v := .tuple #[.agg #[.bool s20, .slice A20 n20 c20], .bool true]) (by simp [results, Tryz.results16, go_sem, SX.box.cell]) rfl ⟨_, _, _, _, rfl, p20, by omega, (SX.below HB.out (by omega))⟩
       · have hs2 : s1 = false := by simpa using hs
         subst hs2
         rw [if_neg (fun c => by cases sg0.1 c)] at hzz
         obtain rfl : 0 = z := hzz
         have xX4 := X4.cell; have xX5 := X5.cell; have xXR := XR.cell; have zXR0 := XR.frozen; go_wp2; clear xX4 xX5 xXR zXR0; have SX := StN.mk2 XR (.bool false) (.slice none 0 0); exact bodyPost_ret (v := .tuple #[.agg #[.bool false, .slice none 0 0], .bool true]) (by simp [results, Tryz.results16, go_sem, SX.box.cell]) rfl ⟨_, _, _, _, rfl, ⟨Nm.zero, rfl⟩, Nat.zero_le _, (SX.below HB.out (by omega))⟩
     · have tf : decide (G < -3000) = false := decide_eq_false hf
       have n64b : N.natAbs < 2 ^ 128 := Nat.lt_trans n64 (by decide)
       have hfl := flr_moved nf n64b g1 g2; rw [← hv, hzz] at hfl; obtain ⟨P, hP⟩ : ∃ P, (mv N G 192).1 = P := ⟨_, rfl⟩; obtain ⟨Q, hQ⟩ : ∃ P, (mv N G 192).2 = P := ⟨_, rfl⟩
       have hnf : mk P Q = (P, Q) := by
         have e : Nf (mv N G 192) := by
           unfold mv
           split
           · exact mk_zero 0
           · exact mk_nf _ _
         rw [← hP, ← hQ]; exact e
       rw [hP, hQ] at hfl
       have HFL : Hid (flr (mk P Q).1 (mk P Q).2 = z) := Lib.hid (by rw [hnf]; exact hfl)
       have HPP := Lib.hid hP; have HQQ := Lib.hid hQ; clear hfl hP hQ hnf hzz hv nf n64 n64b sg0 hf; have xX4 := X4.cell; have xX5 := X5.cell
       go_wp2_with fail
       refine (q3Move p5.wr (by omega) HPP.out HQQ.out).mono ?_; rintro ee wA ⟨s6, A6, n6, c6, rfl, p6, k6, B⟩; clear xX4 xX5; replace XR := XR.below B; replace X4 := X4.below B; replace X5 := X5.below B; replace X7 := X7.below B; replace p5 := p5.below B; replace HB := Hqb HB B; clear B; clear p5 tf
       go_wp2_with fail
       refine (q3Floor p6.wr (by omega) HFL.out).mono ?_; rintro ee wB ⟨s20, A20, n20, c20, rfl, p20, k20, B⟩; replace XR := XR.below B; replace X4 := X4.below B; replace X5 := X5.below B; replace X7 := X7.below B; replace p6 := p6.below B; replace HB := Hqb HB B; clear B; clear p6; have xXR := XR.cell; have zXR0 := XR.frozen; go_wp2; clear xXR zXR0; have SX := StN.mk2 XR (.bool s20) (.slice A20 n20 c20)
       replace p20 := p20.stn SX (by simp [no32]); exact bodyPost_ret (v := .tuple #[.agg #[.bool s20, .slice A20 n20 c20], .bool true]) (by simp [results, Tryz.results16, go_sem, SX.box.cell]) rfl ⟨_, _, _, _, rfl, p20, by omega, (SX.below HB.out (by omega))⟩
 · obtain ⟨fb, fi, hb⟩ := fix_inf q1
   obtain rfl : false = t := by rw [← HTT.out, fb]
   obtain rfl : 0 = z := by rw [← HZ.out, fi]
   obtain ⟨N, hN⟩ : ∃ N, (exq 2 s1 M1 E1).1 = N := ⟨_, rfl⟩; obtain ⟨G, hG⟩ : ∃ N, (exq 2 s1 M1 E1).2 = N := ⟨_, rfl⟩; have m0 := fq_mn q1; have xX4 := X4.cell
   go_wp2_with fail
   refine (yExact0 m0 q1.top hb hN hG).mono ?_; rintro ee w4 ⟨s5, A5, n5, c5, rfl, p5, k5, B⟩; clear xX4; replace XR := XR.below B; replace X4 := X4.below B; replace HB := Hqb HB B; clear B; clear hN hG hb HZ HTT fb fi m0 p5
   go_upto_region 3 with (fail)
   have lX5 := Nat.le_refl (World.heap w4).size; have nX5XR := XR.lt; have nX5X4 := X4.lt; generalize hWn : w4.alloc _ = w5 at *; obtain ⟨X5, BW⟩ := Bo.nw hWn; clear hWn; replace XR := XR.below BW; replace X4 := X4.below BW; replace HB := Hqb HB BW; clear BW; clear lX5; have xXR := XR.cell; have zXR0 := XR.frozen; go_wp2; clear xXR zXR0; have SX := StN.mk2 XR (.bool false) (.slice none 0 0)
   exact bodyPost_ret (v := .tuple #[.agg #[.bool false, .slice none 0 0], .bool false]) (by simp [results, Tryz.results16, go_sem, SX.box.cell]) rfl ⟨_, _, _, _, rfl, ⟨Nm.zero, rfl⟩, Nat.zero_le _, (SX.below HB.out (by omega))⟩
theorem Nl.lit2 {W : World} {g : Nat} {D1 D2 M1 M2 E1 E2 r1 r2 : Int} {s1 s2 : Bool} (hg : W.heap.size = g) (h1 : LQ M1) (h2 : LQ M2) (k1 : rk D1 s1 M1 E1 = r1) (k2 : rk D2 s2 M2 E2 = r2) :
   Nl (W.alloc (.cells #[.int .i64 D1, .bool s1, .int .u64 M1, .int .i64 E1, .int .i64 D2, .bool s2, .int .u64 M2, .int .i64 E2] 33)) (some ⟨g, 0, none⟩) 2 2 [r1, r2] := by
 subst hg; have hh := heap_alloc_new W (.cells #[.int .i64 D1, .bool s1, .int .u64 M1, .int .i64 E1, .int .i64 D2, .bool s2, .int .u64 M2, .int .i64 E2] 33)
 refine ⟨rfl, Nat.le_refl _, by decide, fun _ => ⟨_, 0, rfl, fun k hk => ?_⟩⟩
 rcases (by omega : k = 0 ∨ k = 1) with rfl | rfl
 · exact ⟨D1, s1, M1, E1, by rw [cell_of_row _ _ _ _ _ _ hh]; rfl, by rw [cell_of_row _ _ _ _ _ _ hh]; rfl, by rw [cell_of_row _ _ _ _ _ _ hh]; rfl, by rw [cell_of_row _ _ _ _ _ _ hh]; rfl, h1, k1⟩
 · exact ⟨D2, s2, M2, E2, by rw [cell_of_row _ _ _ _ _ _ hh]; rfl, by rw [cell_of_row _ _ _ _ _ _ hh]; rfl, by rw [cell_of_row _ _ _ _ _ _ hh]; rfl, by rw [cell_of_row _ _ _ _ _ _ hh]; rfl, h2, k2⟩
theorem mxp_two {a b : Int} (ha : -19342822337206103650074625 ≤ a) : mxp [a, b] = max a b := by
 have := TP_eq
 show max (max (-TP) a) b = _
 omega
end Go.Proofs.YtmmallhniijdfaaGreatDoor
namespace Go.Proofs.YtmmallhniijdfaaGreatDoor
open Go Go.RowKit
set_option linter.unusedVariables false
theorem fixB_max {x m c : Int} (hm : max x (-x) = m) (h : cmpI m (opl 1073741824) = c) : decide (0 ≤ c) = !(fixB x) := by
 subst hm; have t := t30
 unfold fixB
 rw [← h]
 by_cases g : -opl 1073741824 < x ∧ x < opl 1073741824
 · rw [decide_eq_true g, cmpI_lt (show max x (-x) < opl 1073741824 by omega)]
   rfl
 · rw [decide_eq_false g]
   rcases cmpI_tri (max x (-x)) (opl 1073741824) with ⟨a, b⟩ | ⟨a, b⟩ | ⟨a, b⟩
   · omega
   · rw [b]; rfl
   · rw [b]; rfl
theorem mxp_opp {x : Int} (ha : -19342822337206103650074625 ≤ x) : mxp [x, -x] = max x (-x) := mxp_two ha
theorem fix_raw {D M E x : Int} {s : Bool} (hM : LQ M) (hx : rk D s M E = x) (hb : fixB x = true) :
   ∃ N F, (exq D s M E).1 = N ∧ (exq D s M E).2 = F ∧ mk N F = (N, F) ∧ vr x = N * 2 ^ (F + KK).toNat ∧ N.natAbs < 2 ^ 64 ∧ -2900000 ≤ F ∧ F ≤ 2900000 := by
 have zero : ∀ N : Int, N = 0 → vr 0 = N * 2 ^ ((0 : Int) + KK).toNat := fun N e => by rw [e, Int.zero_mul]; rfl
 by_cases h : MayQ D s M E
 · have q := rk_fq hM h; rw [hx] at q
   rcases fq_kind q with ⟨rfl, rfl⟩ | rfl | rfl
   · obtain ⟨_, rfl, rfl, rfl⟩ := q.uniq Fq.nought; exact ⟨0, 0, by decide, by decide, mk_zero 0, zero 0 rfl, by decide, by decide, by decide⟩
   · obtain ⟨N, F, _, a, b, nf, hv, n64, g1, g2, _⟩ := fix_exq q; exact ⟨N, F, a, b, nf, hv, n64, g1, g2⟩
   · rw [(fix_inf q).1] at hb
     cases hb
 · have e : exq D s M E = (0, 0) := by
     unfold exq exb
     rw [decide_eq_false h]
     rfl
   rw [rk_not h] at hx; subst hx; exact ⟨0, 0, by rw [e], by rw [e], mk_zero 0, zero 0 rfl, by decide, by decide, by decide⟩
theorem fix_code {N F P Q x : Int} (nf : mk N F = (N, F)) (hv : vr x = N * 2 ^ (F + KK).toNat) (h64 : N.natAbs < 2 ^ 64) (h1 : -2900000 ≤ F) (h2 : F ≤ 2900000) (hb : fixB x = true)
   (hP : (mvs (mk N F) 192).1 = P) (hQ : (mvs (mk N F) 192).2 = Q) : flr (mk P Q).1 (mk P Q).2 = fixI x := by
 have hfl := flr_moved nf (Nat.lt_trans h64 (by decide)) h1 h2
 have e : mv N F 192 = mk N (F + 192) := by
   unfold mv
   rw [if_neg (by omega), nf]
 rw [nf] at hP hQ
 have e2 : mk P Q = (P, Q) := by
   have := mk_nf N (F + 192)
   rw [← hP, ← hQ]; exact this
 rw [e2, fixI_yes hb, hv, ← hfl, e, ← hP, ← hQ]
 rfl
end Go.Proofs.YtmmallhniijdfaaGreatDoor
namespace Go.Proofs.YtmmallhniijdfaaGreatDoor
open Go.RowKit
set_option linter.unusedVariables false
theorem stk_iff {q d d' : Nat} (h : d = 0 ↔ d' = 0) : stk q d = stk q d' := by
 unfold stk
 by_cases c : d = 0
 · rw [if_pos c, if_pos (h.1 c)]
 · rw [if_neg c, if_neg (fun e => c (h.2 e))]
theorem stk_two (q d : Nat) : stk q d ≤ 2 * q + 1 := by
 unfold stk
 split <;> omega
theorem le_of_blen {a k : Nat} (h0 : 0 < a) (h : k < blen a) : 2 ^ k ≤ a := by
 have h1 := blen_le (n := a) (by omega); exact Nat.le_trans (Nat.pow_le_pow_right (by decide) (by omega)) h1
theorem part_up {α β k : Nat} {e : Int} (hα : 0 < α) (hβ : 0 < β) (hk : (blen β : Int) - (blen α : Int) + 64 = (k : Int)) (ha : blen α ≤ 112000) (hb : blen β ≤ 112000) (e1 : -2200000 ≤ e) (e2 : e ≤ 2200000) (σ up : Bool) :
   Sid up (sgi σ ((α : Int) * 2 ^ (e + KK).toNat)) (β : Int) (rnd up (mk (sgi σ ((stk (α * 2 ^ k / β) (α * 2 ^ k % β) : Nat) : Int)) (e - k - 1)).1 (mk (sgi σ ((stk (α * 2 ^ k / β) (α * 2 ^ k % β) : Nat) : Int)) (e - k - 1)).2) := by
 obtain ⟨κ, hκ⟩ : ∃ κ : Nat, κ = 500000 := ⟨_, rfl⟩
 have la : 0 < blen α := by
   rcases Nat.eq_zero_or_pos (blen α) with c | c
   · have := blen_lt α
     rw [c] at this
     omega
   · exact c
 have hq : 9223372036854775808 ≤ α * 2 ^ k / β := by
   rw [Nat.le_div_iff_mul_le hβ]; have l1 := blen_lt β
   have l2 : 2 ^ 63 * β ≤ 2 ^ 63 * 2 ^ blen β := Nat.mul_le_mul_left _ (Nat.le_of_lt l1)
   have l3 := le_of_blen (k := blen α - 1) hα (by omega)
   have l4 : 2 ^ (blen α - 1) * 2 ^ k ≤ α * 2 ^ k := Nat.mul_le_mul_right _ l3
   rw [← Nat.pow_add] at l2 l4
   rw [show blen α - 1 + k = 63 + blen β by omega] at l4
   omega
 have hs : stk (α * 2 ^ k / β) (α * 2 ^ k % β) < 2 ^ κ := by
   have q1 : α * 2 ^ k / β ≤ α * 2 ^ k := Nat.div_le_self _ _
   have q2 : α * 2 ^ k < 2 ^ blen α * 2 ^ k := Nat.mul_lt_mul_of_pos_right (blen_lt α) (Nat.pow_pos (by decide))
   rw [← Nat.pow_add] at q2; have q3 := stk_two (α * 2 ^ k / β) (α * 2 ^ k % β)
   have q4 : 2 ^ (blen α + k + 1) ≤ 2 ^ κ := Nat.pow_le_pow_right (by decide) (by omega)
   rw [Nat.pow_succ] at q4
   omega
 rw [rnd_sgi]
 exact sid_sgi (quo_side (up != σ) hβ (fun _ => hq) hκ hs (by omega) (by omega))
theorem left_iff {α β k : Nat} : α % (β * 2 ^ k) = 0 ↔ α / 2 ^ k * 2 ^ k = α ∧ α / 2 ^ k % β = 0 := by
 have hp : 0 < 2 ^ k := Nat.pow_pos (by decide)
 constructor
 · intro h
   obtain ⟨t, ht⟩ := Nat.dvd_of_mod_eq_zero h
   have e : α / 2 ^ k = β * t := by
     rw [ht, Nat.mul_right_comm, Nat.mul_div_cancel _ hp]
   rw [e]; refine ⟨?_, Nat.mul_mod_right _ _⟩; rw [ht, Nat.mul_right_comm]
 · rintro ⟨a, b⟩; obtain ⟨t, ht⟩ := Nat.dvd_of_mod_eq_zero b; rw [← a, ht, Nat.mul_right_comm]; exact Nat.mul_mod_right _ _
theorem part_dn {α β k d : Nat} {e : Int} (hα : 0 < α) (hβ : 0 < β) (hk : (blen β : Int) - (blen α : Int) + 64 = -(k : Int)) (ha : blen α ≤ 112000) (e1 : -2200000 ≤ e) (e2 : e ≤ 2200000) (hd : d = 0 ↔ (α / 2 ^ k * 2 ^ k = α ∧ α / 2 ^ k % β = 0)) (σ up : Bool) :
   Sid up (sgi σ ((α : Int) * 2 ^ (e + KK).toNat)) (β : Int) (rnd up (mk (sgi σ ((stk (α / 2 ^ k / β) d : Nat) : Int)) (e + k - 1)).1 (mk (sgi σ ((stk (α / 2 ^ k / β) d : Nat) : Int)) (e + k - 1)).2) := by
 have hKK := KK_eq; obtain ⟨κ, hκ⟩ : ∃ κ : Nat, κ = 500000 := ⟨_, rfl⟩
 have hp : 0 < 2 ^ k := Nat.pow_pos (by decide)
 have hD : 0 < β * 2 ^ k := Nat.mul_pos hβ hp
 have es : stk (α / 2 ^ k / β) d = stk (α / (β * 2 ^ k)) (α % (β * 2 ^ k)) := by
   rw [Nat.div_div_eq_div_mul, Nat.mul_comm (2 ^ k) β]; exact stk_iff (hd.trans left_iff.symm)
 rw [es]
 have hq : 9223372036854775808 ≤ α / (β * 2 ^ k) := by
   rw [Nat.le_div_iff_mul_le hD]; have l1 := blen_lt β
   have l2 : 2 ^ 63 * (β * 2 ^ k) ≤ 2 ^ 63 * (2 ^ blen β * 2 ^ k) := Nat.mul_le_mul_left _ (Nat.mul_le_mul_right _ (Nat.le_of_lt l1))
   have l3 := le_of_blen (k := blen α - 1) hα (by omega); rw [← Nat.pow_add, ← Nat.pow_add] at l2
   rw [show blen α - 1 = 63 + (blen β + k) by omega] at l3
   omega
 have hs : stk (α / (β * 2 ^ k)) (α % (β * 2 ^ k)) < 2 ^ κ := by
   have q1 : α / (β * 2 ^ k) ≤ α := Nat.div_le_self _ _
   have q2 := blen_lt α; have q3 := stk_two (α / (β * 2 ^ k)) (α % (β * 2 ^ k))
   have q4 : 2 ^ (blen α + 1) ≤ 2 ^ κ := Nat.pow_le_pow_right (by decide) (by omega)
   rw [Nat.pow_succ] at q4
   omega
 have h := quo_side (α := α) (β := β * 2 ^ k) (e := e + k) (n := 0) (up != σ) hD (fun _ => by rw [Nat.pow_zero, Nat.mul_one]; exact hq) hκ (by rw [Nat.pow_zero, Nat.mul_one]; exact hs) (by omega) (by omega)
 rw [Nat.pow_zero, Nat.mul_one, show e + (k : Int) - ((0 : Nat) : Int) - 1 = e + k - 1 by omega] at h
 rw [rnd_sgi]; refine sid_sgi (h.cross (by omega) (by omega) ?_)
 have e3 : (e + (k : Int) + (KK : Int)).toNat = (e + (KK : Int)).toNat + k := by omega
 rw [e3, Int.pow_add]
 push_cast
 generalize (2 : Int) ^ (e + (KK : Int)).toNat = U; generalize (2 : Int) ^ k = V; rw [Int.mul_assoc, Int.mul_assoc, Int.mul_assoc, Int.mul_comm V (β : Int)]
end Go.Proofs.YtmmallhniijdfaaGreatDoor
