/-
 Contracts that the proof rests on.
-/
import Derived.Test.YtnbliijpjcmbjaaGreatDoorYPbj
namespace Go.Proofs.YtnbliijpjcmbjaaGreatDoor
set_option maxHeartbeats 2000000
open Go.RowKit
set_option linter.unusedVariables false
set_option linter.unusedSimpArgs false
set_option maxRecDepth 100000
theorem blen_word {α : Nat} (h0 : 9223372036854775808 ≤ α) (h1 : α < 18446744073709551616) : blen α = 64 := blen_uniq (k := 63) (by omega) h0 h1
theorem div_pre {up s t : Bool} {M1 E1 M2 E2 x y r : Int} {α β : Nat} (q1 : Fq 1 s M1 E1 x) (q2 : Fq 1 t M2 E2 y) (ha : (α : Int) = M1) (hb : (β : Int) = M2) (hr : Qt up x y r) (hβ : 0 < β) :
   ∃ P : Bool → Bool → Int → Prop, (∀ σ up r', Sid up (sgi σ ((α : Int) * 2 ^ (E1 - E2 + (KK : Int)).toNat)) (β : Int) r' → P σ up r') ∧ (∀ r', P (s != t) up r' → r' = r) := by
 refine ⟨_, fun _ _ _ h => h, fun r' h => ?_⟩
 have e0 : E1 - E2 + ((0 : Nat) : Int) - ((0 : Nat) : Int) + (KK : Int) = E1 - E2 + (KK : Int) := by omega
 exact (div_side (v := 0) (w := 0) q1 q2 (by rw [← ha]; exact (Int.mul_one _).symm) (by rw [← hb]; exact (Int.mul_one _).symm) hβ (by decide) (by decide) (by rw [e0]; exact h)).uniq hr
theorem root_pre {up : Bool} {M1 E1 x r : Int} {α : Nat} (q1 : Fq 1 false M1 E1 x) (ha : (α : Int) = M1) (hr : Rt up (vr x * 2 ^ KK) r) :
   ∃ P : Bool → Bool → Int → Prop, (∀ up r', Rt up ((α : Int) * 2 ^ (E1 + 2 * (KK : Int)).toNat) r' → P false up r') ∧ (∀ up r', P true up r') ∧ (∀ r', P false up r' → r' = r) := by
 refine ⟨fun σ up r' => σ = false → Rt up ((α : Int) * 2 ^ (E1 + 2 * (KK : Int)).toNat) r', fun _ _ h _ => h, fun _ _ h => absurd h (by decide), fun r' h => ?_⟩
 have e0 : E1 + ((0 : Nat) : Int) + 2 * (KK : Int) = E1 + 2 * (KK : Int) := by omega
 exact (root_fin (v := 0) q1 (by rw [← ha]; exact (Int.mul_one _).symm) (by decide) (by rw [e0]; exact h rfl)).uniq hr
theorem kDiv {w : World} {D D' M M' E E' : Int} {s s' : Bool} {up : Bool} {x y r : Int} (hT : Tab w) (hM : LQ M) (hM' : LQ M') (hx : rk D s M E = x) (hy : rk D' s' M' E' = y) (hr : Qt up x y r) : Calls Tryz.prog 101 #[VQ D s M E, VQ D' s' M' E', .bool up] w (PN w r) := by
 delta VQ
 obtain ⟨K1, s1, M1, E1, q1⟩ := fq_tk7 (D := D) (s := s) (M := M) (E := E) hM; obtain ⟨K2, s2, M2, E2, q2⟩ := fq_tk7 (D := D') (s := s') (M := M') (E := E') hM'; rw [hx] at q1; rw [hy] at q2; have HX := Lib.hid hx; have HY := Lib.hid hy; clear hx hy
 go_enter Tryz.func101, Tryz.ntmps101
 go_upto_region 1 with (fail)
 generalize hW1 : ((w.alloc _).alloc _).alloc _ = w1 at *; obtain ⟨X3, X4, XR, HB⟩ := Bo.en3 hW1; replace hT := hT.below HB.out; clear hW1; refine Jo.rk [0, 1, 2, 3] [some 7, some 8, some 9, some 10, none, none] [[], [0], [], [2], [], []] 6 2 [Jo.q4 D s M E, Jo.q4 K1 s1 M1 E1, Jo.q4 D' s' M' E', Jo.q4 K2 s2 M2 E2, Jo.Fact.any, Jo.Fact.any] (by kernel_rfl) (by kernel_rfl) (by decide) rfl ?_ ?_
 · refine Jo.jm rfl ?_ ?_; rotate_left
   refine Jo.jm rfl ?_ ?_
   · rintro wj hJ _ rfl K hK; simp only [Jo.z] at hK ⊢; go_simp; refine (qTaken hM q1 HX.out).mono ?_; rintro ee wk ⟨rfl, B⟩; exact hK.out _ _ rfl B
   refine Jo.jm rfl ?_ ?_; rotate_left
   refine Jo.jm rfl ?_ ?_
   · rintro wj hJ _ rfl K hK; simp only [Jo.z] at hK ⊢; go_simp; refine (qTaken hM' q2 HY.out).mono ?_; rintro ee wk ⟨rfl, B⟩; exact hK.out _ _ rfl B
   exact Jo.Steps.nil
   all_goals (rintro wj hJ; (repeat rintro _ rfl); intro K hK; simp only [Jo.z] at hK ⊢; have xX3 := (X3.below hJ).cell; have xX4 := (X4.below hJ).cell; go_simp; exact hK.out _ _ rfl (br _ _))
 rintro w2 hJ _ rfl _ rfl _ rfl _ rfl -; simp only [Jo.z]; replace X3 := X3.below hJ; replace X4 := X4.below hJ; replace XR := XR.below hJ; replace hT := hT.below hJ; replace HB := Hqb HB hJ; have xX3 := X3.cell; have zX30 := X3.frozen
 refine Jo.jnext (i := 4) (o := ⟨none, _, _, _, _, _⟩) (by kernel_rfl) rfl (fun K hK => ?_)
 go_simp; refine hK.out _ _ ?_; clear hK K xX3 zX30; generalize hS : (((w2.setCell _ _).setCell _ _).setCell _ _).setCell _ _ = w3 at *; have SX := StN.of4 X3 hS; replace X4 := X4.stn SX (by omega); replace XR := XR.stn SX (by omega); replace hT := hT.stn SX (by simp [no8]); replace HB := Hqs HB SX (by omega); replace X3 := SX.box; clear SX hS; have xX4 := X4.cell
 have zX40 := X4.frozen
 refine Jo.jnext (i := 5) (o := ⟨none, _, _, _, _, _⟩) (by kernel_rfl) rfl (fun K hK => ?_)
 go_simp; refine hK.out _ _ ?_; clear hK K xX4 zX40; generalize hS : (((w3.setCell _ _).setCell _ _).setCell _ _).setCell _ _ = w4 at *; have SX := StN.of4 X4 hS; replace X3 := X3.stn SX (by omega); replace XR := XR.stn SX (by omega); replace hT := hT.stn SX (by simp [no8]); replace HB := Hqs HB SX (by omega); replace X4 := SX.box; clear SX hS; refine Jo.jdone (by kernel_rfl) ?_
 clear HX HY hM hM'; have i1 := fq_inf q1; have i2 := fq_inf q2; have z1 := q1.zero_iff; have z2 := q2.zero_iff
 have kk1 : K1 = 2 ∨ K1 = 0 ∨ K1 = 1 := by rcases q1.cases with ⟨h, _⟩ | ⟨h, _⟩ | ⟨h, _⟩ <;> omega
 have kk2 : K2 = 2 ∨ K2 = 0 ∨ K2 = 1 := by rcases q2.cases with ⟨h, _⟩ | ⟨h, _⟩ | ⟨h, _⟩ <;> omega
 rcases kk1 with rfl | rfl | rfl
 · rcases kk2 with rfl | rfl | rfl
   · have hy0 : y ≠ 0 := fun c => absurd (z2.2 c) (by decide)
     have hr2 : r = 0 := (qt_zero hy0 (.inr i2)).1 hr
     subst hr2; clear i1 i2 z1 z2 q1 q2 hr hy0 hT; have xXR := XR.cell; have zXR0 := XR.frozen; have xX3 := X3.cell; have xX4 := X4.cell; go_wp2; clear xXR zXR0 xX3 xX4; have SX := StN.mk4 XR (.int .i64 0) (.bool false) (.int .u64 0) (.int .i64 0); exact bodyPost_ret (by simp [results, Tryz.results101, go_sem, SX.box.cell]) rfl ⟨_, _, _, _, rfl, Fq.nought, (SX.below HB.out (by omega))⟩
   · have hr2 : sgi (!up) TP = r := by
       rw [z2.1 rfl] at hr; exact (qt_none'.1 hr).symm
     have HRR := Lib.hid hr2; clear i1 i2 z1 z2 q1 q2 hr hr2 hT; have xX3 := X3.cell; have xX4 := X4.cell
     go_wp2_with fail
     refine (qAway HRR.out).mono ?_; rintro ee w6 ⟨K3, s3, M3, E3, rfl, q3, B⟩; clear xX3 xX4; replace X3 := X3.below B; replace X4 := X4.below B; replace XR := XR.below B; replace HB := Hqb HB B; clear B; have xXR := XR.cell; have zXR0 := XR.frozen; go_wp2; clear xXR zXR0; have SX := StN.mk4 XR (.int .i64 K3) (.bool s3) (.int .u64 M3) (.int .i64 E3)
     exact bodyPost_ret (by simp [results, Tryz.results101, go_sem, SX.box.cell]) rfl ⟨_, _, _, _, rfl, q3, (SX.below HB.out (by omega))⟩
   · have hy0 : y ≠ 0 := fun c => absurd (z2.2 c) (by decide)
     have hn : ¬ (x = 0 ∨ infp y = true) := by
       rw [i2]; rintro (c | c)
       · exact absurd (z1.2 c) (by decide)
       · exact absurd c (by decide)
     have sx : decide (x < 0) = s1 := by
       rcases q1.three with ⟨a, _⟩ | ⟨_, rfl, b⟩ | ⟨_, rfl, b⟩
       · exact absurd a (by decide)
       · exact decide_eq_false (by omega)
       · exact decide_eq_true b
     have sy : decide (y < 0) = s2 := by
       rcases q2.three with ⟨a, _⟩ | ⟨_, rfl, b⟩ | ⟨_, rfl, b⟩
       · exact absurd a (by decide)
       · exact decide_eq_false (by omega)
       · exact decide_eq_true b
     have hr2 : sgi (s1 != s2) TP = r := by
       have := (qt_inf hy0 hn i1).1 hr
       rw [sx, sy] at this; exact this.symm
     have HRR := Lib.hid hr2; clear i1 i2 z1 z2 q1 q2 hr hr2 sx sy hn hy0 hT; have xX3 := X3.cell; have xX4 := X4.cell
     go_wp2_with fail
     refine (nInf (s := s1 != s2) HRR.out).mono ?_; rintro ee w6 ⟨K3, s3, M3, E3, rfl, q3, B⟩; clear xX3 xX4; replace X3 := X3.below B; replace X4 := X4.below B; replace XR := XR.below B; replace HB := Hqb HB B; clear B; have xXR := XR.cell; have zXR0 := XR.frozen; go_wp2; clear xXR zXR0; have SX := StN.mk4 XR (.int .i64 K3) (.bool s3) (.int .u64 M3) (.int .i64 E3)
     exact bodyPost_ret (by simp [results, Tryz.results101, go_sem, SX.box.cell]) rfl ⟨_, _, _, _, rfl, q3, (SX.below HB.out (by omega))⟩
 · rcases kk2 with rfl | rfl | rfl
   · have hy0 : y ≠ 0 := fun c => absurd (z2.2 c) (by decide)
     have hr2 : r = 0 := (qt_zero hy0 (.inl (z1.1 rfl))).1 hr
     subst hr2; clear i1 i2 z1 z2 q1 q2 hr hy0 hT; have xXR := XR.cell; have zXR0 := XR.frozen; have xX3 := X3.cell; have xX4 := X4.cell; go_wp2; clear xXR zXR0 xX3 xX4; have SX := StN.mk4 XR (.int .i64 0) (.bool false) (.int .u64 0) (.int .i64 0); exact bodyPost_ret (by simp [results, Tryz.results101, go_sem, SX.box.cell]) rfl ⟨_, _, _, _, rfl, Fq.nought, (SX.below HB.out (by omega))⟩
   · have hr2 : sgi (!up) TP = r := by
       rw [z2.1 rfl] at hr; exact (qt_none'.1 hr).symm
     have HRR := Lib.hid hr2; clear i1 i2 z1 z2 q1 q2 hr hr2 hT; have xX3 := X3.cell; have xX4 := X4.cell
     go_wp2_with fail
     refine (qAway HRR.out).mono ?_; rintro ee w6 ⟨K3, s3, M3, E3, rfl, q3, B⟩; clear xX3 xX4; replace X3 := X3.below B; replace X4 := X4.below B; replace XR := XR.below B; replace HB := Hqb HB B; clear B; have xXR := XR.cell; have zXR0 := XR.frozen; go_wp2; clear xXR zXR0; have SX := StN.mk4 XR (.int .i64 K3) (.bool s3) (.int .u64 M3) (.int .i64 E3)
     exact bodyPost_ret (by simp [results, Tryz.results101, go_sem, SX.box.cell]) rfl ⟨_, _, _, _, rfl, q3, (SX.below HB.out (by omega))⟩
   · have hy0 : y ≠ 0 := fun c => absurd (z2.2 c) (by decide)
     have hr2 : r = 0 := (qt_zero hy0 (.inl (z1.1 rfl))).1 hr
     subst hr2; clear i1 i2 z1 z2 q1 q2 hr hy0 hT; have xXR := XR.cell; have zXR0 := XR.frozen; have xX3 := X3.cell; have xX4 := X4.cell; go_wp2; clear xXR zXR0 xX3 xX4; have SX := StN.mk4 XR (.int .i64 0) (.bool false) (.int .u64 0) (.int .i64 0); exact bodyPost_ret (by simp [results, Tryz.results101, go_sem, SX.box.cell]) rfl ⟨_, _, _, _, rfl, Fq.nought, (SX.below HB.out (by omega))⟩
 · rcases kk2 with rfl | rfl | rfl
   · have hy0 : y ≠ 0 := fun c => absurd (z2.2 c) (by decide)
     have hr2 : r = 0 := (qt_zero hy0 (.inr i2)).1 hr
     subst hr2; clear i1 i2 z1 z2 q1 q2 hr hy0 hT; have xXR := XR.cell; have zXR0 := XR.frozen; have xX3 := X3.cell; have xX4 := X4.cell; go_wp2; clear xXR zXR0 xX3 xX4; have SX := StN.mk4 XR (.int .i64 0) (.bool false) (.int .u64 0) (.int .i64 0); exact bodyPost_ret (by simp [results, Tryz.results101, go_sem, SX.box.cell]) rfl ⟨_, _, _, _, rfl, Fq.nought, (SX.below HB.out (by omega))⟩
   · have hr2 : sgi (!up) TP = r := by
       rw [z2.1 rfl] at hr; exact (qt_none'.1 hr).symm
     have HRR := Lib.hid hr2; clear i1 i2 z1 z2 q1 q2 hr hr2 hT; have xX3 := X3.cell; have xX4 := X4.cell
     go_wp2_with fail
     refine (qAway HRR.out).mono ?_; rintro ee w6 ⟨K3, s3, M3, E3, rfl, q3, B⟩; clear xX3 xX4; replace X3 := X3.below B; replace X4 := X4.below B; replace XR := XR.below B; replace HB := Hqb HB B; clear B; have xXR := XR.cell; have zXR0 := XR.frozen; go_wp2; clear xXR zXR0; have SX := StN.mk4 XR (.int .i64 K3) (.bool s3) (.int .u64 M3) (.int .i64 E3)
     exact bodyPost_ret (by simp [results, Tryz.results101, go_sem, SX.box.cell]) rfl ⟨_, _, _, _, rfl, q3, (SX.below HB.out (by omega))⟩
   · have hy0 : y ≠ 0 := fun c => absurd (z2.2 c) (by decide)
     obtain ⟨a1, a2, a3, a4, _⟩ := fq_vr q1; obtain ⟨b1, b2, b3, b4, _⟩ := fq_vr q2; obtain ⟨α, hα⟩ : ∃ α : Nat, (α : Int) = M1 := ⟨M1.toNat, by omega⟩
     obtain ⟨β, hβ⟩ : ∃ β : Nat, (β : Int) = M2 := ⟨M2.toNat, by omega⟩
     have α1 : 9223372036854775808 ≤ α := by omega
     have α2 : α < 18446744073709551616 := by omega
     have β1 : 9223372036854775808 ≤ β := by omega
     have β2 : β < 18446744073709551616 := by omega
     obtain ⟨P, hP, hPr⟩ := div_pre q1 q2 hα hβ hr (by omega); obtain ⟨e, he⟩ : ∃ e, E1 - E2 = e := ⟨_, rfl⟩; rw [he] at hP
     have eb1 : -2200000 ≤ e := by omega
     have eb2 : e ≤ 2200000 := by omega
     have eb3 : e - ((blen β : Int) - (blen α : Int) + 64) ≤ 2097152 := by
       rw [blen_word α1 α2, blen_word β1 β2]
       omega
     have HPP := Lib.hid hP; have HPR := Lib.hid hPr; have HA := Lib.hid hα; have HBE := Lib.hid hβ
     have HW : Hid (IntKind.i64.wrap (E1 - E2) = e) := Lib.hid (by rw [he]; exact IntWalk.i64_in _ (by omega))
     have HW2 : Hid (wrap64 (E1 - E2) = e) := Lib.hid (by rw [he]; exact IntWalk.wrap64_in _ (by omega))
     have α0 : 0 < α := by omega
     have β0 : 0 < β := by omega
     clear i1 i2 z1 z2 hr hy0 a1 a2 a3 a4 b1 b2 b3 b4 hP hPr he hα hβ α1 β1 q1 q2; have xX3 := X3.cell; have xX4 := X4.cell
     go_upto_region 8 with (fail)
     clear xX3 xX4; refine Jo.rk [0, 1, 2, 3, 4, 5, 6, 7, 8, 9, 10, 11, 12, 13, 14, 15, 16, 17, 18] [some 37, some 38, some 39, some 40, some 41, some 42, some 43, some 44, some 45, some 46, some 47, some 48, some 49, some 50, some 51, some 52, some 53, some 54, some 55, none] [[], [0], [1], [], [3], [4], [], [6], [], [8], [7, 9], [2, 5, 10], [], [12], [], [14], [13, 15], [], [11, 16, 17], []] 20 1 [Jo.qp w.heap.size 2, Jo.Fact.eq (.int .u64 M1), Jo.Fact.rd α 2, Jo.qp (w.heap.size + 1) 2, Jo.Fact.eq (.int .u64 M2), Jo.Fact.rd β 2, Jo.qp w.heap.size 3, Jo.qi E1, Jo.qp (w.heap.size + 1) 3, Jo.qi E2, Jo.qi e, Jo.Fact.pk P, Jo.qp w.heap.size 1, Jo.qb s1, Jo.qp (w.heap.size + 1) 1, Jo.qb s2, Jo.Fact.eq (.bool (s1 != s2)), Jo.qb up, Jo.Fact.num r, Jo.Fact.any] (by kernel_rfl) (by kernel_rfl) (by decide) rfl ?_ ?_
     · refine Jo.jm rfl ?_ ?_; rotate_left
       refine Jo.jm rfl ?_ ?_
       · rintro wj hJ _ rfl K hK; simp only [Jo.z] at hK ⊢; have xX32 := (X3.below hJ).a 2 (.int .u64 M1) rfl; go_simp; exact hK.out _ _ rfl (br _ _)
       refine Jo.jm rfl ?_ ?_
       · rintro wj hJ _ rfl K hK; simp only [Jo.z] at hK ⊢; go_simp; refine (qLimbs HA.out α2).mono ?_; rintro ee wk ⟨A2, rfl, p2, B⟩; exact hK.out _ _ ⟨A2, 2, 2, rfl, p2, Nat.le_refl _⟩ B
       refine Jo.jm rfl ?_ ?_; rotate_left
       refine Jo.jm rfl ?_ ?_
       · rintro wj hJ _ rfl K hK; simp only [Jo.z] at hK ⊢; have xX42 := (X4.below hJ).a 2 (.int .u64 M2) rfl; go_simp; exact hK.out _ _ rfl (br _ _)
       refine Jo.jm rfl ?_ ?_
       · rintro wj hJ _ rfl K hK; simp only [Jo.z] at hK ⊢; go_simp; refine (qLimbs HBE.out β2).mono ?_; rintro ee wk ⟨A5, rfl, p5, B⟩; exact hK.out _ _ ⟨A5, 2, 2, rfl, p5, Nat.le_refl _⟩ B
       refine Jo.jm rfl ?_ ?_; rotate_left
       refine Jo.jm rfl ?_ ?_
       · rintro wj hJ _ rfl K hK; simp only [Jo.z] at hK ⊢; have xX33 := (X3.below hJ).a 3 (.int .i64 E1) rfl; go_simp; exact hK.out _ _ rfl (br _ _)
       refine Jo.jm rfl ?_ ?_; rotate_left
       refine Jo.jm rfl ?_ ?_
       · rintro wj hJ _ rfl K hK; simp only [Jo.z] at hK ⊢; have xX43 := (X4.below hJ).a 3 (.int .i64 E2) rfl; go_simp; exact hK.out _ _ rfl (br _ _)
       refine Jo.jm rfl ?_ ?_
       · rintro wj hJ _ rfl _ rfl K hK; simp only [Jo.z] at hK ⊢; have hw := HW.out; have hw2 := HW2.out; go_simp
         exact hK.out _ _ (by first | rfl | (show Value.int _ _ = Value.int _ _; first | rw [hw] | rw [hw2])) (br _ _)
       refine Jo.jm rfl ?_ ?_
       · rintro wj hJ _ ⟨A2, n2, c2, rfl, p2, k2⟩ _ ⟨A5, n5, c5, rfl, p5, k5⟩ _ rfl K hK; simp only [Jo.z] at hK ⊢; go_simp; refine (qDivided p2 p5 (by omega) (by omega) α0 β0 eb1 eb2 eb3 HPP.out).mono ?_; rintro ee wk ⟨A7, n7, c7, t7, x7, rfl, p7, B⟩; exact hK.out _ _ ⟨A7, n7, c7, t7, x7, rfl, p7⟩ B
       refine Jo.jm rfl ?_ ?_; rotate_left
       refine Jo.jm rfl ?_ ?_
       · rintro wj hJ _ rfl K hK; simp only [Jo.z] at hK ⊢; have xX31 := (X3.below hJ).a 1 (.bool s1) rfl; go_simp; exact hK.out _ _ rfl (br _ _)
       refine Jo.jm rfl ?_ ?_; rotate_left
       refine Jo.jm rfl ?_ ?_
       · rintro wj hJ _ rfl K hK; simp only [Jo.z] at hK ⊢; have xX41 := (X4.below hJ).a 1 (.bool s2) rfl; go_simp; exact hK.out _ _ rfl (br _ _)
       iterate 2 (refine Jo.jm rfl ?_ ?_; rotate_left)
       refine Jo.jm rfl ?_ ?_
       · rintro wj hJ _ ⟨A7, n7, c7, t7, x7, rfl, p7⟩ _ rfl _ rfl K hK; simp only [Jo.z] at hK ⊢; go_simp; refine (qRound (hT.below hJ) p7 HPR.out).mono ?_; rintro ee wk ⟨K9, s9, M9, E9, rfl, q9, B⟩; exact hK.out _ _ ⟨K9, s9, M9, E9, rfl, q9⟩ B
       exact Jo.Steps.nil
       all_goals (rintro wj hJ; (repeat rintro _ rfl); intro K hK; simp only [Jo.z] at hK ⊢; go_simp; exact hK.out _ _ rfl (br _ _))
     rintro w8 hJ _ _ _ rfl _ ⟨_, _, _, rfl, _⟩ _ _ _ rfl _ ⟨_, _, _, rfl, _⟩ _ _ _ rfl _ _ _ rfl _ rfl _ ⟨_, _, _, _, _, rfl, _⟩ _ _ _ rfl _ _ _ rfl _ rfl _ rfl _ ⟨K9, s9, M9, E9, rfl, q9⟩ -; simp only [Jo.z]; replace X3 := X3.below hJ; replace X4 := X4.below hJ; replace XR := XR.below hJ; replace hT := hT.below hJ; replace HB := Hqb HB hJ; have xXR := XR.cell; have zXR0 := XR.frozen
     refine Jo.jnext (i := 19) (o := ⟨none, _, _, _, _, _⟩) (by kernel_rfl) rfl (fun K hK => ?_)
     go_simp; refine hK.out _ _ ?_; clear hK K xXR zXR0; have SX := StN.mk4 XR (.int .i64 K9) (.bool s9) (.int .u64 M9) (.int .i64 E9); refine Jo.jdone (by kernel_rfl) ?_; go_wp2; exact bodyPost_ret (by simp [results, Tryz.results101, go_sem, SX.box.cell]) rfl ⟨_, _, _, _, rfl, q9, (SX.below HB.out (by omega))⟩
theorem kRoot {w : World} {D M E : Int} {s : Bool} {up t : Bool} {x r : Int} (hT : Tab w) (hM : LQ M) (hx : rk D s M E = x) (hr : Ro up x r t) : Calls Tryz.prog 78 #[VQ D s M E, .bool up] w (PNB w r t) := by
 delta VQ
 obtain ⟨K1, s1, M1, E1, q1⟩ := fq_tk7 (D := D) (s := s) (M := M) (E := E) hM; rw [hx] at q1; have HX := Lib.hid hx; clear hx
 go_enter Tryz.func78, Tryz.ntmps78
 go_upto_region 1 with (fail)
 generalize hW1 : (w.alloc _).alloc _ = w1 at *; obtain ⟨X2, XR, HB⟩ := Bo.en2 hW1; replace hT := hT.below HB.out; clear hW1; have xX2 := X2.cell
 go_wp2_with fail
 refine (qTaken hM q1 HX.out).mono ?_; rintro ee w2 ⟨rfl, B⟩; clear xX2; replace X2 := X2.below B; replace XR := XR.below B; replace hT := hT.below B; replace HB := Hqb HB B; clear B; have xX2 := X2.cell; have zX20 := X2.frozen
 go_upto_region 2 with (fail)
 clear xX2 zX20; generalize hS : (((w2.setCell _ _).setCell _ _).setCell _ _).setCell _ _ = w3 at *; have SX := StN.of4 X2 hS; replace XR := XR.stn SX (by omega); replace hT := hT.stn SX (by simp [no8]); replace HB := Hqs HB SX (by omega); replace X2 := SX.box; clear SX hS; clear HX hM; have i1 := fq_inf q1; have z1 := q1.zero_iff
 have kk1 : K1 = 2 ∨ K1 = 0 ∨ K1 = 1 := by rcases q1.cases with ⟨h, _⟩ | ⟨h, _⟩ | ⟨h, _⟩ <;> omega
 have hsx : K1 ≠ 0 → decide (x < 0) = s1 := fun h0 => by
   rcases q1.three with ⟨a, _⟩ | ⟨_, rfl, b⟩ | ⟨_, rfl, b⟩
   · exact absurd a h0
   · exact decide_eq_false (by omega)
   · exact decide_eq_true b
 rcases kk1 with rfl | rfl | rfl
 · by_cases hs : s1 = true
   · subst hs
     have hx0 : x < 0 := of_decide_eq_true (hsx (by decide))
     obtain ⟨rfl, rfl⟩ := (ro_neg hx0).1 hr; clear hr hx0 i1 z1 hsx q1 hT; have xXR := XR.cell; have zXR0 := XR.frozen; have xX2 := X2.cell; go_wp2; clear xXR zXR0 xX2; have SX := StN.mk4 XR (.int .i64 0) (.bool false) (.int .u64 0) (.int .i64 0); exact bodyPost_ret (v := .tuple #[.agg #[.int .i64 0, .bool false, .int .u64 0, .int .i64 0], .bool false]) (by simp [results, Tryz.results78, go_sem, SX.box.cell]) rfl ⟨_, _, _, _, rfl, Fq.nought, (SX.below HB.out (by omega))⟩
   · have hs : s1 = false := by simpa using hs
     subst hs
     have hx0 : ¬ x < 0 := of_decide_eq_false (hsx (by decide))
     have hx1 : x = 0 ∨ infp x = true := .inr i1
     obtain ⟨rfl, rfl⟩ := (ro_it hx0 hx1).1 hr; clear hr hx0 hx1 i1 z1 hsx hT; have xXR := XR.cell; have zXR0 := XR.frozen; have xX2 := X2.cell; go_wp2; clear xXR zXR0 xX2; have SX := StN.mk4 XR (.int .i64 2) (.bool false) (.int .u64 M1) (.int .i64 E1); exact bodyPost_ret (v := .tuple #[.agg #[.int .i64 2, .bool false, .int .u64 M1, .int .i64 E1], .bool true]) (by simp [results, Tryz.results78, go_sem, SX.box.cell]) rfl ⟨_, _, _, _, rfl, q1, (SX.below HB.out (by omega))⟩
 · have hs0 : s1 = false := by
     rcases q1.cases with ⟨_, c, _⟩ | ⟨c, _⟩ | ⟨c, _⟩
     · exact c
     · exact absurd c (by decide)
     · exact absurd c (by decide)
   subst hs0
   have hx0 : ¬ x < 0 := by have := z1.1 rfl; omega
   have hx1 : x = 0 ∨ infp x = true := .inl (z1.1 rfl)
   obtain ⟨rfl, rfl⟩ := (ro_it hx0 hx1).1 hr; clear hr hx0 hx1 i1 z1 hsx hT; have xXR := XR.cell; have zXR0 := XR.frozen; have xX2 := X2.cell; go_wp2; clear xXR zXR0 xX2; have SX := StN.mk4 XR (.int .i64 0) (.bool false) (.int .u64 M1) (.int .i64 E1); exact bodyPost_ret (v := .tuple #[.agg #[.int .i64 0, .bool false, .int .u64 M1, .int .i64 E1], .bool true]) (by simp [results, Tryz.results78, go_sem, SX.box.cell]) rfl ⟨_, _, _, _, rfl, q1, (SX.below HB.out (by omega))⟩
 · by_cases hs : s1 = true
   · subst hs
     have hx0 : x < 0 := of_decide_eq_true (hsx (by decide))
     obtain ⟨rfl, rfl⟩ := (ro_neg hx0).1 hr; clear hr hx0 i1 z1 hsx q1 hT; have xXR := XR.cell; have zXR0 := XR.frozen; have xX2 := X2.cell; go_wp2; clear xXR zXR0 xX2; have SX := StN.mk4 XR (.int .i64 0) (.bool false) (.int .u64 0) (.int .i64 0); exact bodyPost_ret (v := .tuple #[.agg #[.int .i64 0, .bool false, .int .u64 0, .int .i64 0], .bool false]) (by simp [results, Tryz.results78, go_sem, SX.box.cell]) rfl ⟨_, _, _, _, rfl, Fq.nought, (SX.below HB.out (by omega))⟩
   · have hs : s1 = false := by simpa using hs
     subst hs
     have hx0 : ¬ x < 0 := of_decide_eq_false (hsx (by decide))
     have hx1 : ¬ (x = 0 ∨ infp x = true) := by
       rw [i1]; rintro (c | c)
       · exact absurd (z1.2 c) (by decide)
       · exact absurd c (by decide)
     obtain ⟨hr2, ht⟩ := (ro_fin hx0 hx1).1 hr; subst ht; obtain ⟨a1, a2, a3, a4, _⟩ := fq_vr q1; obtain ⟨α, hα⟩ : ∃ α : Nat, (α : Int) = M1 := ⟨M1.toNat, by omega⟩
     have α1 : 9223372036854775808 ≤ α := by omega
     have α2 : α < 18446744073709551616 := by omega
     obtain ⟨P, hP, hPt, hPr⟩ := root_pre q1 hα hr2
     have eb1 : -2200000 ≤ E1 := by omega
     have eb2 : E1 ≤ 2200000 := by omega
     have HPP := Lib.hid hP; have HPT := Lib.hid hPt; have HPR := Lib.hid hPr; have HA := Lib.hid hα; clear hr hr2 hx0 hx1 i1 z1 hsx a1 a2 a3 a4 hα hP hPt hPr q1; have xX2 := X2.cell
     go_upto_region 6 with (fail)
     clear xX2; refine Jo.rk [0, 1, 2, 3, 4, 5, 6, 7] [some 17, some 18, some 19, some 20, some 21, some 22, some 23, some 24, none, some 5] [[], [0], [1], [], [3], [2, 4], [], [5, 6], [], []] 10 2 [Jo.qp w.heap.size 2, Jo.Fact.eq (.int .u64 M1), Jo.Fact.rd α 2, Jo.qp w.heap.size 3, Jo.qi E1, Jo.Fact.pk P, Jo.qb up, Jo.Fact.num r, Jo.Fact.any, Jo.Fact.any] (by kernel_rfl) (by kernel_rfl) (by decide) rfl ?_ ?_
     · refine Jo.jm rfl ?_ ?_; rotate_left
       refine Jo.jm rfl ?_ ?_
       · rintro wj hJ _ rfl K hK; simp only [Jo.z] at hK ⊢; have xX22 := (X2.below hJ).a 2 (.int .u64 M1) rfl; go_simp; exact hK.out _ _ rfl (br _ _)
       refine Jo.jm rfl ?_ ?_
       · rintro wj hJ _ rfl K hK; simp only [Jo.z] at hK ⊢; go_simp; refine (qLimbs HA.out α2).mono ?_; rintro ee wk ⟨A2, rfl, p2, B⟩; exact hK.out _ _ ⟨A2, 2, 2, rfl, p2, Nat.le_refl _⟩ B
       refine Jo.jm rfl ?_ ?_; rotate_left
       refine Jo.jm rfl ?_ ?_
       · rintro wj hJ _ rfl K hK; simp only [Jo.z] at hK ⊢; have xX23 := (X2.below hJ).a 3 (.int .i64 E1) rfl; go_simp; exact hK.out _ _ rfl (br _ _)
       refine Jo.jm rfl ?_ ?_
       · rintro wj hJ _ ⟨A2, n2, c2, rfl, p2, k2⟩ _ rfl K hK; simp only [Jo.z] at hK ⊢; go_simp; refine (qRoot0 p2 (by omega) α1 α2 eb1 eb2 HPP.out HPT.out).mono ?_; rintro ee wk ⟨A7, n7, c7, t7, x7, rfl, p7, B⟩; exact hK.out _ _ ⟨A7, n7, c7, t7, x7, rfl, p7⟩ B
       refine Jo.jm rfl ?_ ?_; rotate_left
       refine Jo.jm rfl ?_ ?_
       · rintro wj hJ _ ⟨A7, n7, c7, t7, x7, rfl, p7⟩ _ rfl K hK; simp only [Jo.z] at hK ⊢; go_simp; refine (qRound (hT.below hJ) p7 HPR.out).mono ?_; rintro ee wk ⟨K9, s9, M9, E9, rfl, q9, B⟩; exact hK.out _ _ ⟨K9, s9, M9, E9, rfl, q9⟩ B
       exact Jo.Steps.nil
       all_goals (rintro wj hJ; (repeat rintro _ rfl); intro K hK; simp only [Jo.z] at hK ⊢; go_simp; exact hK.out _ _ rfl (br _ _))
     rintro w8 hJ _ _ _ rfl _ ⟨_, _, _, rfl, _⟩ _ _ _ rfl _ ⟨_, _, _, _, _, rfl, _⟩ _ rfl _ ⟨K9, s9, M9, E9, rfl, q9⟩ -; simp only [Jo.z]; replace X2 := X2.below hJ; replace XR := XR.below hJ; replace hT := hT.below hJ; replace HB := Hqb HB hJ; have xXR := XR.cell; have zXR0 := XR.frozen
     refine Jo.jnext (i := 8) (o := ⟨none, _, _, _, _, _⟩) (by kernel_rfl) rfl (fun K hK => ?_)
     go_simp; refine hK.out _ _ ?_; clear hK K xXR zXR0; generalize hS : (((w8.setCell _ _).setCell _ _).setCell _ _).setCell _ _ = w9 at *; have SX := StN.of4 XR hS; replace X2 := X2.stn SX (by omega); replace HB := Hqs HB SX (by omega); replace XR := SX.box; clear SX hS
     refine Jo.jnext (i := 9) (o := ⟨some 5, _, _, _, _, _⟩) (by kernel_rfl) rfl (fun K hK => ?_)
     go_simp; refine hK.out _ _ ?_; clear hK K; refine Jo.jdone (by kernel_rfl) ?_; go_wp2; exact bodyPost_ret (v := .tuple #[.agg #[.int .i64 K9, .bool s9, .int .u64 M9, .int .i64 E9], .bool true]) (by simp [results, Tryz.results78, go_sem, XR.cell]) rfl ⟨_, _, _, _, rfl, q9, HB.out⟩
end Go.Proofs.YtnbliijpjcmbjaaGreatDoor
