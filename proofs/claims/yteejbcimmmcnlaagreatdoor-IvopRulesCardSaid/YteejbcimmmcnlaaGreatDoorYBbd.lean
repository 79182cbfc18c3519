/-
  Contracts and words that the statement's proof rests on, several texts in one: He.
-/
import Derived.Test.YteejbcimmmcnlaaGreatDoorYBbc
/-
  What cutting and rounding a number of 128 bits does.
-/
namespace Go.Proofs.YteejbcimmmcnlaaGreatDoor
open Go.RowKit
set_option linter.unusedVariables false
set_option linter.unusedSimpArgs false
set_option maxRecDepth 100000

theorem cut_cases {S : Nat} {F T C X r : Int} {s t : Bool} (ra : Ra S F T C X) (hr : sgi s (lo S F) = r) (ht : exw S F = t) :
    (T = 0 ∧ 0 = r ∧ true = t) ∨ ((T == 0) = false ∧ 1048576 < X ∧ false = t ∧ nx s (sgi s TP) = r) ∨ ((T == 0) = false ∧ ¬ 1048576 < X ∧ X < -1048576 ∧ false = t ∧ 0 = r) ∨ ((T == 0) = false ∧ -1048576 ≤ X ∧ X ≤ 1048576 ∧ Fq 1 s T X r ∧ (C == 0) = t) := by
  obtain ⟨t0, t1, k0, k1, hT, hx⟩ := ra
  unfold lo at hr
  unfold exw at ht
  by_cases h0 : S = 0
  · rw [if_pos h0] at hr
    have e0 : (S == 0) = true := by simpa using h0
    rw [e0, Bool.true_or] at ht; refine .inl ⟨?_, ?_, ht⟩
    · rw [hT, h0]
      rfl
    · rw [← hr]
      cases s <;> rfl
  · right
    rw [if_neg h0] at hr
    have e0 : (S == 0) = false := by simpa using h0
    rw [e0, Bool.false_or] at ht; obtain ⟨x1, x2⟩ := hx h0; have g1 := tp_ge h0
    have eT : (T == 0) = false := by
      have : T ≠ 0 := by omega
      simpa using this
    rw [← x1] at hr ht
    by_cases c1 : 1048576 < X
    · rw [if_pos c1] at hr
      rw [show decide (X ≤ 1048576) = false from decide_eq_false (by omega), Bool.false_and] at ht
      refine .inl ⟨eT, c1, ht, ?_⟩; rw [← hr]
      have := TP_eq
      unfold nx
      cases s
      · rw [wsg_f, wsg_f, if_neg (by decide)]
        omega
      · rw [wsg_t, wsg_t, if_pos rfl]
        omega
    · right
      rw [if_neg c1] at hr
      rw [show decide (X ≤ 1048576) = true from decide_eq_true (by omega), Bool.true_and] at ht
      by_cases c2 : X < -1048576
      · rw [if_pos c2] at hr
        rw [show decide (-1048576 ≤ X) = false from decide_eq_false (by omega), Bool.false_and] at ht
        refine .inl ⟨eT, c1, c2, ht, ?_⟩; rw [← hr]
        cases s <;> rfl
      · rw [if_neg c2] at hr
        rw [show decide (-1048576 ≤ X) = true from decide_eq_true (by omega), Bool.true_and] at ht
        refine .inr ⟨eT, by omega, by omega, ?_, ?_⟩
        · rw [← hT] at hr; exact Fq.fin (by omega) t1 (by omega) (by omega) hr
        · rw [← ht, Bool.eq_iff_iff, decide_eq_true_iff, ← x2]
          simp
set_option maxHeartbeats 8000000 in
theorem aCut {w : World} {s t : Bool} {h l : Nat} {H L e r : Int} (hh : h < 18446744073709551616) (hl : l < 18446744073709551616) (hH : (h : Int) = H) (hL : (l : Int) = L) (e1 : -4000000 ≤ e) (e2 : e ≤ 4000000) (hr : sgi s (lo (h * 18446744073709551616 + l) (e - 64)) = r) (ht : exw (h * 18446744073709551616 + l) (e - 64) = t) :
    Calls Tryz.prog 135 #[.agg #[.bool s, .int .u64 H, .int .u64 L, .int .i64 e]] w (PNB w r t) := by
  have HR := Lib.hid hr; have HT := Lib.hid ht; clear hr ht
  go_enter Tryz.func135, Tryz.ntmps135
  go_upto_region 1 with (fail)
  generalize hW1 : (w.alloc _).alloc _ = w1 at *; obtain ⟨X1, XR, HB⟩ := Bo.en2 hW1; clear hW1; obtain ⟨xX10, xX11, xX12, xX13⟩ := X1.u4
  go_wp2_with fail
  refine (aRaised hh hl hH hL e1 e2).mono ?_; rintro ee w2 ⟨T, C, X, rfl, ra, B⟩; clear xX10 xX11 xX12 xX13; replace X1 := X1.below B; replace XR := XR.below B; replace HB := Lib.hid (bt HB.out B); clear B; obtain ⟨xX10, xX11, xX12, xX13⟩ := X1.u4; have zX10 := X1.frozen
  go_upto_region 2 with (fail)
  clear xX10 zX10 xX11 xX12 xX13; generalize hS : (((w2.setCell _ _).setCell _ _).setCell _ _).setCell _ _ = w3 at *; have SX := StN.of4 X1 hS; replace XR := XR.stn SX (by omega); replace HB := Lib.hid (SX.below HB.out (by omega)); replace X1 := SX.box; clear SX hS; have hcc := cut_cases ra HR.out HT.out; clear ra HR HT hh hl hH hL e1 e2
  rcases hcc with ⟨g1, g2, g3⟩ | ⟨g1, g2, g3, g4⟩ | ⟨g1, g2, g3, g4, g5⟩ | ⟨g1, g2, g3, g4, g5⟩
  · subst g1; subst g2; subst g3; obtain ⟨xXR0, xXR1, xXR2, xXR3⟩ := XR.u4; have zXR0 := XR.frozen; obtain ⟨xX10, xX11, xX12, xX13⟩ := X1.u4; go_wp2; clear xXR0 zXR0 xXR1 xXR2 xXR3 xX10 xX11 xX12 xX13; have SX := StN.mk4 XR (.int .i64 0) (.bool false) (.int .u64 0) (.int .i64 0); exact bodyPost_ret (v := .tuple #[.agg #[.int .i64 0, .bool false, .int .u64 0, .int .i64 0], .bool true]) (by simp [results, Tryz.results135, go_sem, SX.box.cell]) rfl ⟨_, _, _, _, rfl, Fq.nought, (SX.below HB.out (by omega))⟩
  · subst g3; obtain ⟨i, hi⟩ : ∃ i, sgi s TP = i := ⟨_, rfl⟩; rw [hi] at g4; have HI := Lib.hid hi; have HN := Lib.hid g4; clear hi g4; obtain ⟨xX10, xX11, xX12, xX13⟩ := X1.u4
    go_upto_region 5 with (fail)
    clear xX10 xX11 xX12 xX13; refine Jo.rk [0, 1, 2, 3, 4, 5] [some 15, some 16, some 17, some 18, some 19, some 20, none, some 3] [[], [0], [1], [], [3], [2, 4], [], []] 8 2 [Jo.qp w.heap.size 0, Jo.qb s, Jo.Fact.num i, Jo.qp w.heap.size 0, Jo.qb s, Jo.Fact.num r, Jo.Fact.any, Jo.Fact.any] (by kernel_rfl) (by kernel_rfl) (by decide) rfl ?_ ?_
    · refine Jo.jm rfl ?_ ?_
      · rintro wj hJ K hK; simp only [Jo.z] at hK ⊢; go_simp; exact hK.out _ _ rfl (br _ _)
      refine Jo.jm rfl ?_ ?_
      · rintro wj hJ _ rfl K hK; simp only [Jo.z] at hK ⊢; have xX10 := (X1.below hJ).a 0 (.bool s) rfl; go_simp; exact hK.out _ _ rfl (br _ _)
      refine Jo.jm rfl ?_ ?_
      · rintro wj hJ _ rfl K hK; simp only [Jo.z] at hK ⊢; go_simp; refine (nInf HI.out).mono ?_; rintro ee wk ⟨K4, s4, M4, E4, rfl, q4, B⟩; exact hK.out _ _ ⟨K4, s4, M4, E4, rfl, q4⟩ B
      refine Jo.jm rfl ?_ ?_
      · rintro wj hJ K hK; simp only [Jo.z] at hK ⊢; go_simp; exact hK.out _ _ rfl (br _ _)
      refine Jo.jm rfl ?_ ?_
      · rintro wj hJ _ rfl K hK; simp only [Jo.z] at hK ⊢; have xX10 := (X1.below hJ).a 0 (.bool s) rfl; go_simp; exact hK.out _ _ rfl (br _ _)
      refine Jo.jm rfl ?_ ?_
      · rintro wj hJ _ ⟨K4, s4, M4, E4, rfl, q4⟩ _ rfl K hK; simp only [Jo.z] at hK ⊢; go_simp; refine (nNext (r := r) q4.top (by rw [q4.rk]; exact HN.out)).mono ?_; rintro ee wk ⟨K5, s5, M5, E5, rfl, q5, B⟩; exact hK.out _ _ ⟨K5, s5, M5, E5, rfl, q5⟩ B
      exact Jo.Steps.nil
    rintro w4 hJ _ _ _ rfl _ ⟨K4, s4, M4, E4, rfl, _⟩ _ _ _ rfl _ ⟨K5, s5, M5, E5, rfl, q5⟩ -; simp only [Jo.z]; replace X1 := X1.below hJ; replace XR := XR.below hJ; replace HB := Lib.hid (bt HB.out hJ); obtain ⟨xXR0, xXR1, xXR2, xXR3⟩ := XR.u4; have zXR0 := XR.frozen
    refine Jo.jnext (i := 6) (o := ⟨none, _, _, _, _, _⟩) (by kernel_rfl) rfl (fun K hK => ?_)
    go_simp; refine hK.out _ _ ?_; clear hK K xXR0 zXR0 xXR1 xXR2 xXR3; generalize hS : (((w4.setCell _ _).setCell _ _).setCell _ _).setCell _ _ = w5 at *; have SX := StN.of4 XR hS; replace X1 := X1.stn SX (by omega); replace HB := Lib.hid (SX.below HB.out (by omega)); replace XR := SX.box; clear SX hS
    refine Jo.jnext (i := 7) (o := ⟨some 3, _, _, _, _, _⟩) (by kernel_rfl) rfl (fun K hK => ?_)
    go_simp; refine hK.out _ _ ?_; clear hK K; refine Jo.jdone (by kernel_rfl) ?_; go_wp2; exact bodyPost_ret (v := .tuple #[.agg #[.int .i64 K5, .bool s5, .int .u64 M5, .int .i64 E5], .bool false]) (by simp [results, Tryz.results135, go_sem, XR.cell]) rfl ⟨_, _, _, _, rfl, q5, HB.out⟩
  · subst g4; subst g5; obtain ⟨xXR0, xXR1, xXR2, xXR3⟩ := XR.u4; have zXR0 := XR.frozen; obtain ⟨xX10, xX11, xX12, xX13⟩ := X1.u4; go_wp2; clear xXR0 zXR0 xXR1 xXR2 xXR3 xX10 xX11 xX12 xX13; have SX := StN.mk4 XR (.int .i64 0) (.bool false) (.int .u64 0) (.int .i64 0); exact bodyPost_ret (v := .tuple #[.agg #[.int .i64 0, .bool false, .int .u64 0, .int .i64 0], .bool false]) (by simp [results, Tryz.results135, go_sem, SX.box.cell]) rfl ⟨_, _, _, _, rfl, Fq.nought, (SX.below HB.out (by omega))⟩
  · have HTT := Lib.hid g5; clear g5; obtain ⟨xX10, xX11, xX12, xX13⟩ := X1.u4
    go_upto_region 8 with (fail)
    clear xX10 xX11 xX12 xX13
    refine Jo.region_late (g := w.heap.size + 1) (new := #[.int .i64 1, .bool s, .int .u64 T, .int .i64 X]) (R := 24) (T := [0, 1, 2, 3, 4, 5, 6, 7, 8, 9, 10]) (ds := [some 26, some 27, some 28, some 29, some 30, some 31, some 32, some 33, some 34, some 35, none, some 3]) (ls := [[], [0], [], [2], [], [4], [1, 3, 5], [], [7], [8], [6], []]) (k := 12) (L := [(some 26, 0), (some 27, 1), (some 28, 2), (some 29, 3), (some 30, 4), (some 31, 5), (some 32, 6), (some 33, 7), (some 34, 8), (some 35, 9), (none, 10)]) (fuel := 1)
      (F := [Jo.LFact.eq (.pointer (some ⟨w.heap.size, 0, none⟩)), Jo.LFact.eq (.bool s), Jo.LFact.eq (.pointer (some ⟨w.heap.size, 1, none⟩)), Jo.LFact.eq (.int .u64 T), Jo.LFact.eq (.pointer (some ⟨w.heap.size, 3, none⟩)), Jo.LFact.eq (.int .i64 X), Jo.LFact.eq (.agg #[.int .i64 1, .bool s, .int .u64 T, .int .i64 X]), Jo.LFact.eq (.pointer (some ⟨w.heap.size, 2, none⟩)), Jo.LFact.eq (.int .u64 C), Jo.LFact.eq (.bool t), Jo.LFact.done, Jo.LFact.any])
      (by kernel_rfl) (by kernel_rfl) (by decide) rfl rfl ?_ (fun vs w4 hJ hd => ?_)
    · refine Jo.ld 0 (some 26) [] (Jo.LFact.eq (.pointer (some ⟨w.heap.size, 0, none⟩))) rfl rfl rfl rfl (fun vs wj hJ hd K hK => ?_) ?_
      · simp only [Jo.putl, Jo.ze, Act.put, Jo.za, Jo.zb, Jo.zc] at hK ⊢; clear hd; go_simp; exact hK.out _ _ rfl (Jo.Off.refl _ _ _ _)
      refine Jo.ld 1 (some 27) [(some 26, 0)] (Jo.LFact.eq (.bool s)) rfl rfl rfl rfl (fun vs wj hJ hd K hK => ?_) ?_
      · simp only [Jo.putl, Jo.zd, Jo.ze, Act.put, Jo.za, Jo.zb, Jo.zc] at hK ⊢
        rw [show vs 0 = _ from hd 0 (by decide)] at hK ⊢
        clear hd; replace X1 := X1.off (by omega) hJ; obtain ⟨xX10, xX11, xX12, xX13⟩ := X1.u4; go_simp; exact hK.out _ _ rfl (Jo.Off.refl _ _ _ _)
      refine Jo.ld 2 (some 28) [] (Jo.LFact.eq (.pointer (some ⟨w.heap.size, 1, none⟩))) rfl rfl rfl rfl (fun vs wj hJ hd K hK => ?_) ?_
      · simp only [Jo.putl, Jo.ze, Act.put, Jo.za, Jo.zb, Jo.zc] at hK ⊢; clear hd; go_simp; exact hK.out _ _ rfl (Jo.Off.refl _ _ _ _)
      refine Jo.ld 3 (some 29) [(some 28, 2)] (Jo.LFact.eq (.int .u64 T)) rfl rfl rfl rfl (fun vs wj hJ hd K hK => ?_) ?_
      · simp only [Jo.putl, Jo.zd, Jo.ze, Act.put, Jo.za, Jo.zb, Jo.zc] at hK ⊢
        rw [show vs 2 = _ from hd 2 (by decide)] at hK ⊢
        clear hd; replace X1 := X1.off (by omega) hJ; obtain ⟨xX10, xX11, xX12, xX13⟩ := X1.u4; go_simp; exact hK.out _ _ rfl (Jo.Off.refl _ _ _ _)
      refine Jo.ld 4 (some 30) [] (Jo.LFact.eq (.pointer (some ⟨w.heap.size, 3, none⟩))) rfl rfl rfl rfl (fun vs wj hJ hd K hK => ?_) ?_
      · simp only [Jo.putl, Jo.ze, Act.put, Jo.za, Jo.zb, Jo.zc] at hK ⊢; clear hd; go_simp; exact hK.out _ _ rfl (Jo.Off.refl _ _ _ _)
      refine Jo.ld 5 (some 31) [(some 30, 4)] (Jo.LFact.eq (.int .i64 X)) rfl rfl rfl rfl (fun vs wj hJ hd K hK => ?_) ?_
      · simp only [Jo.putl, Jo.zd, Jo.ze, Act.put, Jo.za, Jo.zb, Jo.zc] at hK ⊢
        rw [show vs 4 = _ from hd 4 (by decide)] at hK ⊢
        clear hd; replace X1 := X1.off (by omega) hJ; obtain ⟨xX10, xX11, xX12, xX13⟩ := X1.u4; go_simp; exact hK.out _ _ rfl (Jo.Off.refl _ _ _ _)
      refine Jo.ld 6 (some 32) [(some 27, 1), (some 29, 3), (some 31, 5)] (Jo.LFact.eq (.agg #[.int .i64 1, .bool s, .int .u64 T, .int .i64 X])) rfl rfl rfl rfl (fun vs wj hJ hd K hK => ?_) ?_
      · simp only [Jo.putl, Jo.zd, Jo.ze, Act.put, Jo.za, Jo.zb, Jo.zc] at hK ⊢
        rw [show vs 1 = _ from hd 1 (by decide), show vs 3 = _ from hd 3 (by decide), show vs 5 = _ from hd 5 (by decide)] at hK ⊢
        clear hd; go_simp; exact hK.out _ _ rfl (Jo.Off.refl _ _ _ _)
      refine Jo.ld 7 (some 33) [] (Jo.LFact.eq (.pointer (some ⟨w.heap.size, 2, none⟩))) rfl rfl rfl rfl (fun vs wj hJ hd K hK => ?_) ?_
      · simp only [Jo.putl, Jo.ze, Act.put, Jo.za, Jo.zb, Jo.zc] at hK ⊢; clear hd; go_simp; exact hK.out _ _ rfl (Jo.Off.refl _ _ _ _)
      refine Jo.ld 8 (some 34) [(some 33, 7)] (Jo.LFact.eq (.int .u64 C)) rfl rfl rfl rfl (fun vs wj hJ hd K hK => ?_) ?_
      · simp only [Jo.putl, Jo.zd, Jo.ze, Act.put, Jo.za, Jo.zb, Jo.zc] at hK ⊢
        rw [show vs 7 = _ from hd 7 (by decide)] at hK ⊢
        clear hd; replace X1 := X1.off (by omega) hJ; obtain ⟨xX10, xX11, xX12, xX13⟩ := X1.u4; go_simp; exact hK.out _ _ rfl (Jo.Off.refl _ _ _ _)
      refine Jo.ld 9 (some 35) [(some 34, 8)] (Jo.LFact.eq (.bool t)) rfl rfl rfl rfl (fun vs wj hJ hd K hK => ?_) ?_
      · simp only [Jo.putl, Jo.zd, Jo.ze, Act.put, Jo.za, Jo.zb, Jo.zc] at hK ⊢
        rw [show vs 8 = _ from hd 8 (by decide)] at hK ⊢
        clear hd; have htt := HTT.out; go_simp
        exact hK.out _ _ (by first | rfl | (show Value.bool _ = Value.bool _; rw [htt])) (Jo.Off.refl _ _ _ _)
      refine Jo.ld 10 (none) [(some 32, 6)] (Jo.LFact.done) rfl rfl rfl rfl (fun vs wj hJ hd K hK => ?_) ?_
      · simp only [Jo.putl, Jo.zd, Jo.ze, Act.put, Jo.za, Jo.zb, Jo.zc] at hK ⊢
        rw [show vs 6 = _ from hd 6 (by decide)] at hK ⊢
        clear hd
        obtain ⟨v0, v1, v2, v3, XO⟩ : ∃ v0 v1 v2 v3, Bo wj (w.heap.size + 1) #[v0, v1, v2, v3] 24 := by
          rcases hJ.own with e | e
          · exact ⟨_, _, _, _, XR.keep e⟩
          · exact ⟨_, _, _, _, e⟩
        have y0 := XO.a 0 (v0) rfl; have u0 := XO.frozen 0; have y1 := XO.a 1 (v1) rfl; have u1 := XO.frozen 1; have y2 := XO.a 2 (v2) rfl; have u2 := XO.frozen 2; have y3 := XO.a 3 (v3) rfl; have u3 := XO.frozen 3; go_simp; have SX := StN.mk4 XO (.int .i64 1) (.bool s) (.int .u64 T) (.int .i64 X); exact hK.out undef _ SX.box (Jo.Off.of_stn SX)
      exact Jo.Steps.nil
    have d10 : (Jo.LFact.done).P (vs 10) w4 := hd 10 (by decide)
    simp only [Jo.putl, Jo.zd, Jo.ze, Act.put, Jo.za, Jo.zb, Jo.zc]
    rw [show vs 1 = _ from hd 1 (by decide), show vs 3 = _ from hd 3 (by decide), show vs 5 = _ from hd 5 (by decide), show vs 6 = _ from hd 6 (by decide), show vs 8 = _ from hd 8 (by decide), show vs 9 = _ from hd 9 (by decide)]
    clear hd; generalize vs 10 = u10 at d10 ⊢; replace HB := Lib.hid (hJ.below HB.out (by omega) XR.lt); replace X1 := X1.off (by omega) hJ
    replace XR : Bo w4 (w.heap.size + 1) #[.int .i64 1, .bool s, .int .u64 T, .int .i64 X] 24 := d10
    refine Jo.jnext (i := 11) (o := ⟨some 3, _, _, _, _, _⟩) (by kernel_rfl) rfl (fun K hK => ?_)
    go_simp; refine hK.out _ _ ?_; clear hK K; refine Jo.jdone (by kernel_rfl) ?_; go_wp2; exact bodyPost_ret (v := .tuple #[.agg #[.int .i64 1, .bool s, .int .u64 T, .int .i64 X], .bool t]) (by simp [results, Tryz.results135, go_sem, XR.cell]) rfl ⟨_, _, _, _, rfl, g4, HB.out⟩
/-- What comes of two numbers before it is rounded: its cells, and to what it is rounded. -/
def Wd (s : Bool) (H L e : Int) (f : Bool → Int) : Prop := ∃ h l : Nat, h < 18446744073709551616 ∧ l < 18446744073709551616 ∧ (h : Int) = H ∧ (l : Int) = L ∧ -2900000 ≤ e ∧ e ≤ 2900000 ∧ ∀ up, rnd up (mk (sgi s ((h * 18446744073709551616 + l : Nat) : Int)) (e - 64)).1 (mk (sgi s ((h * 18446744073709551616 + l : Nat) : Int)) (e - 64)).2 = f up
/-- Such a one is answered. -/
def PW6 (w : World) (f : Bool → Int) (e : Ending) (w' : World) : Prop := ∃ s H L x, e = .returned (.agg #[.bool s, .int .u64 H, .int .u64 L, .int .i64 x]) ∧ Wd s H L x f ∧ Below w.heap.size w w'
set_option maxHeartbeats 8000000 in
theorem aRound {w : World} {s up : Bool} {H L e r : Int} {fu : Bool → Int} (hw : Wd s H L e fu) (hr : fu up = r) :
    Calls Tryz.prog 98 #[.agg #[.bool s, .int .u64 H, .int .u64 L, .int .i64 e], .bool up] w (PN w r) := by
  obtain ⟨h, l, hh, hl, hH, hL, e1, e2, hf⟩ := hw
  have e3 : -4000000 ≤ e := by omega
  have e4 : e ≤ 4000000 := by omega
  obtain ⟨w1_, w2_, w3_⟩ := wide_rnd (neg := s) (S := h * 18446744073709551616 + l) (F := e - 64) (by omega) (by omega) (by omega) rfl rfl
  have k1 : exw (h * 18446744073709551616 + l) (e - 64) = true → sgi s (lo (h * 18446744073709551616 + l) (e - 64)) = r := fun c => by
    rw [← w1_ c up, hf up, hr]
  have k2 : s = up → sgi s (lo (h * 18446744073709551616 + l) (e - 64)) = r := fun c => by
    rw [← w2_, hf s, c, hr]
  have k3 : exw (h * 18446744073709551616 + l) (e - 64) = false → (!s) = up → nx up (sgi s (lo (h * 18446744073709551616 + l) (e - 64))) = r := fun c d => by
    rw [← d, ← w3_ c, hf (!s), d, hr]
  obtain ⟨x, hx⟩ : ∃ x, sgi s (lo (h * 18446744073709551616 + l) (e - 64)) = x := ⟨_, rfl⟩; obtain ⟨t, ht⟩ : ∃ t, exw (h * 18446744073709551616 + l) (e - 64) = t := ⟨_, rfl⟩; rw [hx, ht] at k1 k3; rw [hx] at k2; have HX := Lib.hid hx; have HT := Lib.hid ht; have K1_ := Lib.hid k1; have K2_ := Lib.hid k2; have K3_ := Lib.hid k3; clear hx ht k1 k2 k3 w1_ w2_ w3_ hf hr e1 e2
  go_enter Tryz.func98, Tryz.ntmps98
  go_upto_region 1 with (fail)
  generalize hW1 : (w.alloc _).alloc _ = w1 at *; obtain ⟨X1, XR, HB⟩ := Bo.en2 hW1; clear hW1; obtain ⟨xX10, xX11, xX12, xX13⟩ := X1.u4
  go_wp2_with fail
  refine (aCut hh hl hH hL e3 e4 HX.out HT.out).mono ?_; rintro ee w5 ⟨K2, s2, M2, E2, rfl, q2, B⟩; clear xX10 xX11 xX12 xX13; replace X1 := X1.below B; replace XR := XR.below B; replace HB := Lib.hid (bt HB.out B); clear B; clear HX HT
  go_upto_region 2 with (fail)
  have lX5 := Nat.le_refl (World.heap w5).size; have nX5X1 := X1.lt; have nX5XR := XR.lt; generalize hWn : w5.alloc _ = w6 at *; obtain ⟨X5, BW⟩ := Bo.nw hWn; clear hWn; replace X1 := X1.below BW; replace XR := XR.below BW; replace HB := Lib.hid (bt HB.out BW); clear BW; clear lX5
  by_cases ht : t = true
  · subst ht
    obtain rfl : x = r := K1_.out rfl
    clear K1_ K2_ K3_; obtain ⟨xXR0, xXR1, xXR2, xXR3⟩ := XR.u4; have zXR0 := XR.frozen; obtain ⟨xX10, xX11, xX12, xX13⟩ := X1.u4; obtain ⟨xX50, xX51, xX52, xX53⟩ := X5.u4; go_wp2; clear xXR0 zXR0 xXR1 xXR2 xXR3 xX10 xX11 xX12 xX13 xX50 xX51 xX52 xX53; have SX := StN.mk4 XR (.int .i64 K2) (.bool s2) (.int .u64 M2) (.int .i64 E2); exact bodyPost_ret (by simp [results, Tryz.results98, go_sem, SX.box.cell]) rfl ⟨_, _, _, _, rfl, q2, (SX.below HB.out (by omega))⟩
  · have ht : t = false := by simpa using ht
    subst ht
    by_cases hs : s = up
    · obtain rfl : x = r := K2_.out hs
      clear K1_ K2_ K3_; subst hs; obtain ⟨xXR0, xXR1, xXR2, xXR3⟩ := XR.u4; have zXR0 := XR.frozen; obtain ⟨xX10, xX11, xX12, xX13⟩ := X1.u4; obtain ⟨xX50, xX51, xX52, xX53⟩ := X5.u4; go_wp2; clear xXR0 zXR0 xXR1 xXR2 xXR3 xX10 xX11 xX12 xX13 xX50 xX51 xX52 xX53; have SX := StN.mk4 XR (.int .i64 K2) (.bool s2) (.int .u64 M2) (.int .i64 E2); exact bodyPost_ret (by simp [results, Tryz.results98, go_sem, SX.box.cell]) rfl ⟨_, _, _, _, rfl, q2, (SX.below HB.out (by omega))⟩
    · obtain rfl : (!s) = up := by cases s <;> cases up <;> first | rfl | exact absurd rfl hs
      clear hs
      have e2 : (s == !s) = false := by cases s <;> rfl
      have HRR : Hid (nx (!s) (rk K2 s2 M2 E2) = r) := Lib.hid (by rw [q2.rk]; exact K3_.out rfl rfl)
      clear K1_ K2_ K3_; obtain ⟨xX10, xX11, xX12, xX13⟩ := X1.u4; obtain ⟨xX50, xX51, xX52, xX53⟩ := X5.u4
      go_wp2_with fail
      refine (nNext q2.top HRR.out).mono ?_; rintro ee w7 ⟨K3, s3, M3, E3, rfl, q3, B⟩; clear xX10 xX11 xX12 xX13 xX50 xX51 xX52 xX53; replace X1 := X1.below B; replace XR := XR.below B; replace X5 := X5.below B; replace HB := Lib.hid (bt HB.out B); clear B; obtain ⟨xXR0, xXR1, xXR2, xXR3⟩ := XR.u4; have zXR0 := XR.frozen; obtain ⟨xX10, xX11, xX12, xX13⟩ := X1.u4; obtain ⟨xX50, xX51, xX52, xX53⟩ := X5.u4
      go_wp2; clear xXR0 zXR0 xXR1 xXR2 xXR3 xX10 xX11 xX12 xX13 xX50 xX51 xX52 xX53; have SX := StN.mk4 XR (.int .i64 K3) (.bool s3) (.int .u64 M3) (.int .i64 E3); exact bodyPost_ret (by simp [results, Tryz.results98, go_sem, SX.box.cell]) rfl ⟨_, _, _, _, rfl, q3, (SX.below HB.out (by omega))⟩
end Go.Proofs.YteejbcimmmcnlaaGreatDoor
