/-
 Contracts that the proof rests on.
-/
import Derived.Test.YtnbliijpjcmbjaaGreatDoorYAbd
namespace Go.Proofs.YtnbliijpjcmbjaaGreatDoor
set_option maxHeartbeats 8000000
open Go.RowKit
set_option linter.unusedVariables false
set_option linter.unusedSimpArgs false
set_option maxRecDepth 100000
theorem blen_word {α : Nat} (h0 : 9223372036854775808 ≤ α) (h1 : α < 18446744073709551616) : blen α = 64 := blen_uniq (k := 63) (by omega) h0 h1
theorem div_pre {up s t : Bool} {M1 E1 M2 E2 x y r : Int} {α β : Nat} (q1 : Fq 1 s M1 E1 x) (q2 : Fq 1 t M2 E2 y) (ha : (α : Int) = M1) (hb : (β : Int) = M2) (hr : Qt up x y r) (hβ : 0 < β) :
   ∃ P : Bool → Bool → Int → Prop, (∀ σ up r', Sid up (sgi σ ((α : Int) * 2 ^ (E1 - E2 + (KK : Int)).toNat)) (β : Int) r' → P σ up r') ∧ (∀ r', P (s != t) up r' → r' = r) := by
 refine ⟨_, fun _ _ _ h => h, fun r' h => ?_⟩
 have e0 : E1 - E2 + ((0 : Nat) : Int) - ((0 : Nat) : Int) + (KK : Int) = E1 - E2 + (KK : Int) := by omega
 exact (div_side (v := 0) (w := 0) q1 q2 (by rw [← ha]; exact (Int.mul_one _).symm) (by rw [← hb]; exact (Int.mul_one _).symm) hβ (by decide) (by decide) (by rw [e0]; exact h)).uniq hr
theorem root_pre {up : Bool} {M1 E1 x r : Int} {α : Nat} (q1 : Fq 1 false M1 E1 x) (ha : (α : Int) = M1) (hr : Rt up (vr x * 2 ^ KK) r) :
   ∃ P : Bool → Bool → Int → Prop, (∀ up r', Rt up ((α : Int) * 2 ^ (E1 + 2 * (KK : Int)).toNat) r' → P false up r') ∧ (∀ up r', P true up r') ∧ (∀ r', P false up r' → r' = r) := by
 refine ⟨fun σ up r' => σ = false → Rt up ((α : Int) * 2 ^ (E1 + 2 * (KK : Int)).toNat) r', fun _ _ h _ => h, fun _ _ h => absurd h (by decide), fun r' h => ?_⟩
 have e0 : E1 + ((0 : Nat) : Int) + 2 * (KK : Int) = E1 + 2 * (KK : Int) := by omega
 exact (root_fin (v := 0) q1 (by rw [← ha]; exact (Int.mul_one _).symm) (by decide) (by rw [e0]; exact h rfl)).uniq hr
theorem kDiv {w : World} {D D' M M' E E' : Int} {s s' : Bool} {up : Bool} {x y r : Int} (hT : Tab w) (hM : LQ M) (hM' : LQ M') (hx : rk D s M E = x) (hy : rk D' s' M' E' = y) (hr : Qt up x y r) : Calls Tryz.prog 101 #[VQ D s M E, VQ D' s' M' E', .bool up] w (PN w r) := by
 delta VQ
 obtain ⟨K1, s1, M1, E1, q1⟩ := fq_tk7 (D := D) (s := s) (M := M) (E := E) hM; obtain ⟨K2, s2, M2, E2, q2⟩ := fq_tk7 (D := D') (s := s') (M := M') (E := E') hM'; rw [hx] at q1; rw [hy] at q2; have HX := Lib.hid hx; have HY := Lib.hid hy; clear hx hy
 go_enter Tryz.func101, Tryz.ntmps101
 go_upto_region 1 with (fail)
 generalize hW1 : ((w.alloc _).alloc _).alloc _ = w1 at *; obtain ⟨X3, X4, XR, HB⟩ := Bo.en3 hW1; replace hT := hT.below HB.out; clear hW1; refine Jo.rk [0, 1, 2, 3] [some 7, some 8, some 9, some 10, none, none] [[], [0], [], [2], [], []] 6 2 [Jo.q4 D s M E, Jo.q4 K1 s1 M1 E1, Jo.q4 D' s' M' E', Jo.q4 K2 s2 M2 E2, Jo.Fact.any, Jo.Fact.any] (by kernel_rfl) (by kernel_rfl) (by decide) rfl ?_ ?_
 · refine Jo.jm rfl ?_ ?_; rotate_left
   refine Jo.jm rfl ?_ ?_
   · rintro wj hJ _ rfl K hK; simp only [Jo.z] at hK ⊢; go_simp; refine (qTaken hM q1 HX.out).mono ?_; rintro ee wk ⟨rfl, B⟩; exact hK.out _ _ rfl B
   refine Jo.jm rfl ?_ ?_; rotate_left
   refine Jo.jm rfl ?_ ?_
   · rintro wj hJ _ rfl K hK; simp only [Jo.z] at hK ⊢; go_simp; refine (qTaken hM' q2 HY.out).mono ?_; rintro ee wk ⟨rfl, B⟩; exact hK.out _ _ rfl B
   exact Jo.Steps.nil
   all_goals (rintro wj hJ; (repeat rintro _ rfl); intro K hK; simp only [Jo.z] at hK ⊢; have xX3 := (X3.below hJ).cell; have xX4 := (X4.below hJ).cell; go_simp; exact hK.out _ _ rfl (br _ _))
 rintro w2 hJ _ rfl _ rfl _ rfl _ rfl -; simp only [Jo.z]; replace X3 := X3.below hJ; replace X4 := X4.below hJ; replace XR := XR.below hJ; replace hT := hT.below hJ; replace HB := Hqb HB hJ; have xX3 := X3.cell; have zX30 := X3.frozen
 refine Jo.jnext (i := 4) (o := ⟨none, _, _, _, _, _⟩) (by kernel_rfl) rfl (fun K hK => ?_)
 go_simp; refine hK.out _ _ ?_; clear hK K xX3 zX30; generalize hS : (((w2.setCell _ _).setCell _ _).setCell _ _).setCell _ _ = w3 at *; have SX := StN.of4 X3 hS; replace X4 := X4.stn SX (by omega); replace XR := XR.stn SX (by omega); replace hT := hT.stn SX (by simp [no8]); replace HB := Hqs HB SX (by omega); replace X3 := SX.box; clear SX hS; have xX4 := X4.cell
 have zX40 := X4.frozen
 refine Jo.jnext (i := 5) (o := ⟨none, _, _, _, _, _⟩) (by kernel_rfl) rfl (fun K hK => ?_)
 go_simp; refine hK.out _ _ ?_; clear hK K xX4 zX40; generalize hS : (((w3.setCell _ _).setCell _ _).setCell _ _).setCell _ _ = w4 at *; have SX := StN.of4 X4 hS; replace X3 := X3.stn SX (by omega); replace XR := XR.stn SX (by omega); replace hT := hT.stn SX (by simp [no8]); replace HB := Hqs HB SX (by omega); replace X4 := SX.box; clear SX hS; refine Jo.jdone (by kernel_rfl) ?_
 clear HX HY hM hM'; have i1 := fq_inf q1; have i2 := fq_inf q2; have z1 := q1.zero_iff; have z2 := q2.zero_iff
 have kk1 : K1 = 2 ∨ K1 = 0 ∨ K1 = 1 := by rcases q1.cases with ⟨h, _⟩ | ⟨h, _⟩ | ⟨h, _⟩ <;> omega
 have kk2 : K2 = 2 ∨ K2 = 0 ∨ K2 = 1 := by rcases q2.cases with ⟨h, _⟩ | ⟨h, _⟩ | ⟨h, _⟩ <;> omega
 rcases kk1 with rfl | rfl | rfl
 · rcases kk2 with rfl | rfl | rfl
   · have hy0 : y ≠ 0 := fun c => absurd (z2.2 c) (by decide)
     have hr2 : r = 0 := (qt_zero hy0 (.inr i2)).1 hr
     subst hr2; clear i1 i2 z1 z2 q1 q2 hr hy0 hT; have xXR := XR.cell; have zXR0 := XR.frozen; have xX3 := X3.cell; have xX4 := X4.cell; go_wp2; clear xXR zXR0 xX3 xX4; have SX := StN.mk4 XR (.int .i64 0) (.bool false) (.int .u64 0) (.int .i64 0); exact bodyPost_ret (by simp [results, Tryz.results101, go_sem, SX.box.cell]) rfl ⟨_, _, _, _, rfl, Fq.nought, (SX.below HB.out (by omega))⟩
   · have hr2 : sgi (!up) TP = r := by
       rw [z2.1 rfl] at hr; exact (qt_none'.1 hr).symm
     have HRR := Lib.hid hr2; clear i1 i2 z1 z2 q1 q2 hr hr2 hT; have xX3 := X3.cell; have xX4 := X4.cell
     go_wp2_with fail
     refine (qAway HRR.out).mono ?_; rintro ee w6 ⟨K3, s3, M3, E3, rfl, q3, B⟩; clear xX3 xX4; replace X3 := X3.below B; replace X4 := X4.below B; replace XR := XR.below B; replace HB := Hqb HB B; clear B; have xXR := XR.cell; have zXR0 := XR.frozen; go_wp2; clear xXR zXR0; have SX := StN.mk4 XR (.int .i64 K3) (.bool s3) (.int .u64 M3) (.int .i64 E3)
     exact bodyPost_ret (by simp [results, Tryz.results101, go_sem, SX.box.cell]) rfl ⟨_, _, _, _, rfl, q3, (SX.below HB.out (by omega))⟩
   · have hy0 : y ≠ 0 := fun c => absurd (z2.2 c) (by decide)
     have hn : ¬ (x = 0 ∨ infp y = true) := by
       rw [i2]; rintro (c | c)
       · exact absurd (z1.2 c) (by decide)
       · exact absurd c (by decide)
     have sx : decide (x < 0) = s1 := by
       rcases q1.three with ⟨a, _⟩ | ⟨_, rfl, b⟩ | ⟨_, rfl, b⟩
       · exact absurd a (by decide)
       · exact decide_eq_false (by omega)
       · exact decide_eq_true b
     have sy : decide (y < 0) = s2 := by
       rcases q2.three with ⟨a, _⟩ | ⟨_, rfl, b⟩ | ⟨_, rfl, b⟩
       · exact absurd a (by decide)
       · exact decide_eq_false (by omega)
       · exact decide_eq_true b
     have hr2 : sgi (s1 != s2) TP = r := by
       have := (qt_inf hy0 hn i1).1 hr
       rw [sx, sy] at this; exact this.symm
     have HRR := Lib.hid hr2; clear i1 i2 z1 z2 q1 q2 hr hr2 sx sy hn hy0 hT; have xX3 := X3.cell; have xX4 := X4.cell
     go_wp2_with fail
     refine (nInf (s := s1 != s2) HRR.out).mono ?_; rintro ee w6 ⟨K3, s3, M3, E3, rfl, q3, B⟩; clear xX3 xX4; replace X3 := X3.below B; replace X4 := X4.below B; replace XR := XR.below B; replace HB := Hqb HB B; clear B; have xXR := XR.cell; have zXR0 := XR.frozen; go_wp2; clear xXR zXR0; have SX := StN.mk4 XR (.int .i64 K3) (.bool s3) (.int .u64 M3) (.int .i64 E3)
     exact bodyPost_ret (by simp [results, Tryz.results101, go_sem, SX.box.cell]) rfl ⟨_, _, _, _, rfl, q3, (SX.below HB.out (by omega))⟩
 · rcases kk2 with rfl | rfl | rfl
   · have hy0 : y ≠ 0 := fun c => absurd (z2.2 c) (by decide)
     have hr2 : r = 0 := (qt_zero hy0 (.inl (z1.1 rfl))).1 hr
     subst hr2; clear i1 i2 z1 z2 q1 q2 hr hy0 hT; have xXR := XR.cell; have zXR0 := XR.frozen; have xX3 := X3.cell; have xX4 := X4.cell; go_wp2; clear xXR zXR0 xX3 xX4; have SX := StN.mk4 XR (.int .i64 0) (.bool false) (.int .u64 0) (.int .i64 0); exact bodyPost_ret (by simp [results, Tryz.results101, go_sem, SX.box.cell]) rfl ⟨_, _, _, _, rfl, Fq.nought, (SX.below HB.out (by omega))⟩
   · have hr2 : sgi (!up) TP = r := by
       rw [z2.1 rfl] at hr; exact (qt_none'.1 hr).symm
     have HRR := Lib.hid hr2; clear i1 i2 z1 z2 q1 q2 hr hr2 hT; have xX3 := X3.cell; have xX4 := X4.cell
     go_wp2_with fail
     refine (qAway HRR.out).mono ?_; rintro ee w6 ⟨K3, s3, M3, E3, rfl, q3, B⟩; clear xX3 xX4; replace X3 := X3.below B; replace X4 := X4.below B; replace XR := XR.below B; replace HB := Hqb HB B; clear B; have xXR := XR.cell; have zXR0 := XR.frozen; go_wp2; clear xXR zXR0; have SX := StN.mk4 XR (.int .i64 K3) (.bool s3) (.int .u64 M3) (.int .i64 E3)
     exact bodyPost_ret (by simp [results, Tryz.results101, go_sem, SX.box.cell]) rfl ⟨_, _, _, _, rfl, q3, (SX.below HB.out (by omega))⟩
   · have hy0 : y ≠ 0 := fun c => absurd (z2.2 c) (by decide)
     have hr2 : r = 0 := (qt_zero hy0 (.inl (z1.1 rfl))).1 hr
     subst hr2; clear i1 i2 z1 z2 q1 q2 hr hy0 hT; have xXR := XR.cell; have zXR0 := XR.frozen; have xX3 := X3.cell; have xX4 := X4.cell; go_wp2; clear xXR zXR0 xX3 xX4; have SX := StN.mk4 XR (.int .i64 0) (.bool false) (.int .u64 0) (.int .i64 0); exact bodyPost_ret (by simp [results, Tryz.results101, go_sem, SX.box.cell]) rfl ⟨_, _, _, _, rfl, Fq.nought, (SX.below HB.out (by omega))⟩
 · rcases kk2 with rfl | rfl | rfl
   · have hy0 : y ≠ 0 := fun c => absurd (z2.2 c) (by decide)
     have hr2 : r = 0 := (qt_zero hy0 (.inr i2)).1 hr
     subst hr2; clear i1 i2 z1 z2 q1 q2 hr hy0 hT; have xXR := XR.cell; have zXR0 := XR.frozen; have xX3 := X3.cell; have xX4 := X4.cell; go_wp2; clear xXR zXR0 xX3 xX4; have SX := StN.mk4 XR (.int .i64 0) (.bool false) (.int .u64 0) (.int .i64 0); exact bodyPost_ret (by simp [results, Tryz.results101, go_sem, SX.box.cell]) rfl ⟨_, _, _, _, rfl, Fq.nought, (SX.below HB.out (by omega))⟩
   · have hr2 : sgi (!up) TP = r := by
       rw [z2.1 rfl] at hr; exact (qt_none'.1 hr).symm
     have HRR := Lib.hid hr2; clear i1 i2 z1 z2 q1 q2 hr hr2 hT; have xX3 := X3.cell; have xX4 := X4.cell
     go_wp2_with fail
     refine (qAway HRR.out).mono ?_; rintro ee w6 ⟨K3, s3, M3, E3, rfl, q3, B⟩; clear xX3 xX4; replace X3 := X3.below B; replace X4 := X4.below B; replace XR := XR.below B; replace HB := Hqb HB B; clear B; have xXR := XR.cell; have zXR0 := XR.frozen; go_wp2; clear xXR zXR0; have SX := StN.mk4 XR (.int .i64 K3) (.bool s3) (.int .u64 M3) (.int .i64 E3)
     exact bodyPost_ret (by simp [results, Tryz.results101, go_sem, SX.box.cell]) rfl ⟨_, _, _, _, rfl, q3, (SX.below HB.out (by omega))⟩
   · have hy0 : y ≠ 0 := fun c => absurd (z2.2 c) (by decide)
     obtain ⟨a1, a2, a3, a4, _⟩ := fq_vr q1; obtain ⟨b1, b2, b3, b4, _⟩ := fq_vr q2; obtain ⟨α, hα⟩ : ∃ α : Nat, (α : Int) = M1 := ⟨M1.toNat, by omega⟩
     obtain ⟨β, hβ⟩ : ∃ β : Nat, (β : Int) = M2 := ⟨M2.toNat, by omega⟩
     have α1 : 9223372036854775808 ≤ α := by omega
     have α2 : α < 18446744073709551616 := by omega
     have β1 : 9223372036854775808 ≤ β := by omega
     have β2 : β < 18446744073709551616 := by omega
     obtain ⟨P, hP, hPr⟩ := div_pre q1 q2 hα hβ hr (by omega); obtain ⟨e, he⟩ : ∃ e, E1 - E2 = e := ⟨_, rfl⟩; rw [he] at hP
     have eb1 : -2200000 ≤ e := by omega
     have eb2 : e ≤ 2200000 := by omega
     have eb3 : e - ((blen β : Int) - (blen α : Int) + 64) ≤ 2097152 := by
       rw [blen_word α1 α2, blen_word β1 β2]
       omega
     have HPP := Lib.hid hP; have HPR := Lib.hid hPr; have HA := Lib.hid hα; have HBE := Lib.hid hβ
     have HW : Hid (IntKind.i64.wrap (E1 - E2) = e) := Lib.hid (by rw [he]; exact IntWalk.i64_in _ (by omega))
     have HW2 : Hid (wrap64 (E1 - E2) = e) := Lib.hid (by rw [he]; exact IntWalk.wrap64_in _ (by omega))
     have α0 : 0 < α := by omega
     have β0 : 0 < β := by omega
     clear i1 i2 z1 z2 hr hy0 a1 a2 a3 a4 b1 b2 b3 b4 hP hPr he hα hβ α1 β1 q1 q2; have xX3 := X3.cell; have xX4 := X4.cell
     go_upto_region 8 with (fail)
     clear xX3 xX4; refine Jo.rk [0, 1, 2, 3, 4, 5, 6, 7, 8, 9, 10, 11, 12, 13, 14, 15, 16, 17, 18] [some 37, some 38, some 39, some 40, some 41, some 42, some 43, some 44, some 45, some 46, some 47, some 48, some 49, some 50, some 51, some 52, some 53, some 54, some 55, none] [[], [0], [1], [], [3], [4], [], [6], [], [8], [7, 9], [2, 5, 10], [], [12], [], [14], [13, 15], [], [11, 16, 17], []] 20 1 [Jo.qp w.heap.size 2, Jo.Fact.eq (.int .u64 M1), Jo.Fact.rd α 2, Jo.qp (w.heap.size + 1) 2, Jo.Fact.eq (.int .u64 M2), Jo.Fact.rd β 2, Jo.qp w.heap.size 3, Jo.qi E1, Jo.qp (w.heap.size + 1) 3, Jo.qi E2, Jo.qi e, Jo.Fact.pk P, Jo.qp w.heap.size 1, Jo.qb s1, Jo.qp (w.heap.size + 1) 1, Jo.qb s2, Jo.Fact.eq (.bool (s1 != s2)), Jo.qb up, Jo.Fact.num r, Jo.Fact.any] (by kernel_rfl) (by kernel_rfl) (by decide) rfl ?_ ?_
     · refine Jo.jm rfl ?_ ?_; rotate_left
       refine Jo.jm rfl ?_ ?_
       · rintro wj hJ _ rfl K hK; simp only [Jo.z] at hK ⊢; have xX32 := (X3.below hJ).a 2 (.int .u64 M1) rfl; go_simp; exact hK.out _ _ rfl (br _ _)
       refine Jo.jm rfl ?_ ?_
       · rintro wj hJ _ rfl K hK; simp only [Jo.z] at hK ⊢; go_simp; refine (qLimbs HA.out α2).mono ?_; rintro ee wk ⟨A2, rfl, p2, B⟩; exact hK.out _ _ ⟨A2, 2, 2, rfl, p2, Nat.le_refl _⟩ B
       refine Jo.jm rfl ?_ ?_; rotate_left
       refine Jo.jm rfl ?_ ?_
       · rintro wj hJ _ rfl K hK; simp only [Jo.z] at hK ⊢; have xX42 := (X4.below hJ).a 2 (.int .u64 M2) rfl; go_simp; exact hK.out _ _ rfl (br _ _)
       refine Jo.jm rfl ?_ ?_
       · rintro wj hJ _ rfl K hK; simp only [Jo.z] at hK ⊢; go_simp; refine (qLimbs HBE.out β2).mono ?_; rintro ee wk ⟨A5, rfl, p5, B⟩; exact hK.out _ _ ⟨A5, 2, 2, rfl, p5, Nat.le_refl _⟩ B
       refine Jo.jm rfl ?_ ?_; rotate_left
       refine Jo.jm rfl ?_ ?_
       · rintro wj hJ _ rfl K hK; simp only [Jo.z] at hK ⊢; have xX33 := (X3.below hJ).a 3 (.int .i64 E1) rfl; go_simp; exact hK.out _ _ rfl (br _ _)
       refine Jo.jm rfl ?_ ?_; rotate_left
       refine Jo.jm rfl ?_ ?_
       · rintro wj hJ _ rfl K hK; simp only [Jo.z] at hK ⊢; have xX43 := (X4.below hJ).a 3 (.int .i64 E2) rfl; go_simp; exact hK.out _ _ rfl (br _ _)
       refine Jo.jm rfl ?_ ?_
       · rintro wj hJ _ rfl _ rfl K hK; simp only [Jo.z] at hK ⊢; have hw := HW.out; have hw2 := HW2.out; go_simp
         exact hK.out _ _ (by first | rfl | (show Value.int _ _ = Value.int _ _; first | rw [hw] | rw [hw2])) (br _ _)
       refine Jo.jm rfl ?_ ?_
       · rintro wj hJ _ ⟨A2, n2, c2, rfl, p2, k2⟩ _ ⟨A5, n5, c5, rfl, p5, k5⟩ _ rfl K hK; simp only [Jo.z] at hK ⊢; go_simp; refine (qDivided p2 p5 (by omega) (by omega) α0 β0 eb1 eb2 eb3 HPP.out).mono ?_; rintro ee wk ⟨A7, n7, c7, t7, x7, rfl, p7, B⟩; exact hK.out _ _ ⟨A7, n7, c7, t7, x7, rfl, p7⟩ B
       refine Jo.jm rfl ?_ ?_; rotate_left
       refine Jo.jm rfl ?_ ?_
       · rintro wj hJ _ rfl K hK; simp only [Jo.z] at hK ⊢; have xX31 := (X3.below hJ).a 1 (.bool s1) rfl; go_simp; exact hK.out _ _ rfl (br _ _)
       refine Jo.jm rfl ?_ ?_; rotate_left
       refine Jo.jm rfl ?_ ?_
       · rintro wj hJ _ rfl K hK; simp only [Jo.z] at hK ⊢; have xX41 := (X4.below hJ).a 1 (.bool s2) rfl; go_simp; exact hK.out _ _ rfl (br _ _)
       iterate 2 (refine Jo.jm rfl ?_ ?_; rotate_left)
       refine Jo.jm rfl ?_ ?_
       · rintro wj hJ _ ⟨A7, n7, c7, t7, x7, rfl, p7⟩ _ rfl _ rfl K hK; simp only [Jo.z] at hK ⊢; go_simp; refine (qRound (hT.below hJ) p7 HPR.out).mono ?_; rintro ee wk ⟨K9, s9, M9, E9, rfl, q9, B⟩; exact hK.out _ _ ⟨K9, s9, M9, E9, rfl, q9⟩ B
       exact Jo.Steps.nil
       all_goals (rintro wj hJ; (repeat rintro _ rfl); intro K hK; simp only [Jo.z] at hK ⊢; go_simp; exact hK.out _ _ rfl (br _ _))
     rintro w8 hJ _ _ _ rfl _ ⟨_, _, _, rfl, _⟩ _ _ _ rfl _ ⟨_, _, _, rfl, _⟩ _ _ _ rfl _ _ _ rfl _ rfl _ ⟨_, _, _, _, _, rfl, _⟩ _ _ _ rfl _ _ _ rfl _ rfl _ rfl _ ⟨K9, s9, M9, E9, rfl, q9⟩ -; simp only [Jo.z]; replace X3 := X3.below hJ; replace X4 := X4.below hJ; replace XR := XR.below hJ; replace hT := hT.below hJ; replace HB := Hqb HB hJ; have xXR := XR.cell; have zXR0 := XR.frozen
     refine Jo.jnext (i := 19) (o := ⟨none, _, _, _, _, _⟩) (by kernel_rfl) rfl (fun K hK => ?_)
     go_simp; refine hK.out _ _ ?_; clear hK K xXR zXR0; have SX := StN.mk4 XR (.int .i64 K9) (.bool s9) (.int .u64 M9) (.int .i64 E9); refine Jo.jdone (by kernel_rfl) ?_; go_wp2; exact bodyPost_ret (by simp [results, Tryz.results101, go_sem, SX.box.cell]) rfl ⟨_, _, _, _, rfl, q9, (SX.below HB.out (by omega))⟩
theorem kRoot {w : World} {D M E : Int} {s : Bool} {up t : Bool} {x r : Int} (hT : Tab w) (hM : LQ M) (hx : rk D s M E = x) (hr : Ro up x r t) : Calls Tryz.prog 78 #[VQ D s M E, .bool up] w (PNB w r t) := by
 delta VQ
 obtain ⟨K1, s1, M1, E1, q1⟩ := fq_tk7 (D := D) (s := s) (M := M) (E := E) hM; rw [hx] at q1; have HX := Lib.hid hx; clear hx
 go_enter Tryz.func78, Tryz.ntmps78
 go_upto_region 1 with (fail)
 generalize hW1 : (w.alloc _).alloc _ = w1 at *; obtain ⟨X2, XR, HB⟩ := Bo.en2 hW1; replace hT := hT.below HB.out; clear hW1; have xX2 := X2.cell
 go_wp2_with fail
 refine (qTaken hM q1 HX.out).mono ?_; rintro ee w2 ⟨rfl, B⟩; clear xX2; replace X2 := X2.below B; replace XR := XR.below B; replace hT := hT.below B; replace HB := Hqb HB B; clear B; have xX2 := X2.cell; have zX20 := X2.frozen
 go_upto_region 2 with (fail)
 clear xX2 zX20; generalize hS : (((w2.setCell _ _).setCell _ _).setCell _ _).setCell _ _ = w3 at *; have SX := StN.of4 X2 hS; replace XR := XR.stn SX (by omega); replace hT := hT.stn SX (by simp [no8]); replace HB := Hqs HB SX (by omega); replace X2 := SX.box; clear SX hS; clear HX hM; have i1 := fq_inf q1; have z1 := q1.zero_iff
 have kk1 : K1 = 2 ∨ K1 = 0 ∨ K1 = 1 := by rcases q1.cases with ⟨h, _⟩ | ⟨h, _⟩ | ⟨h, _⟩ <;> omega
 have hsx : K1 ≠ 0 → decide (x < 0) = s1 := fun h0 => by
   rcases q1.three with ⟨a, _⟩ | ⟨_, rfl, b⟩ | ⟨_, rfl, b⟩
   · exact absurd a h0
   · exact decide_eq_false (by omega)
   · exact decide_eq_true b
 rcases kk1 with rfl | rfl | rfl
 · by_cases hs : s1 = true
   · subst hs
     have hx0 : x < 0 := of_decide_eq_true (hsx (by decide))
     obtain ⟨rfl, rfl⟩ := (ro_neg hx0).1 hr; clear hr hx0 i1 z1 hsx q1 hT; have xXR := XR.cell; have zXR0 := XR.frozen; have xX2 := X2.cell; go_wp2; clear xXR zXR0 xX2; have SX := StN.mk4 XR (.int .i64 0) (.bool false) (.int .u64 0) (.int .i64 0); exact bodyPost_ret (v := .tuple #[.agg #[.int .i64 0, .bool false, .int .u64 0, .int .i64 0], .bool false]) (by simp [results, Tryz.results78, go_sem, SX.box.cell]) rfl ⟨_, _, _, _, rfl, Fq.nought, (SX.below HB.out (by omega))⟩
   · have hs : s1 = false := by simpa using hs
     subst hs
     have hx0 : ¬ x < 0 := of_decide_eq_false (hsx (by decide))
     have hx1 : x = 0 ∨ infp x = true := .inr i1
     obtain ⟨rfl, rfl⟩ := (ro_it hx0 hx1).1 hr; clear hr hx0 hx1 i1 z1 hsx hT; have xXR := XR.cell; have zXR0 := XR.frozen; have xX2 := X2.cell; go_wp2; clear xXR zXR0 xX2; have SX := StN.mk4 XR (.int .i64 2) (.bool false) (.int .u64 M1) (.int .i64 E1); exact bodyPost_ret (v := .tuple #[.agg #[.int .i64 2, .bool false, .int .u64 M1, .int .i64 E1], .bool true]) (by simp [results, Tryz.results78, go_sem, SX.box.cell]) rfl ⟨_, _, _, _, rfl, q1, (SX.below HB.out (by omega))⟩
 · have hs0 : s1 = false := by
     rcases q1.cases with ⟨_, c, _⟩ | ⟨c, _⟩ | ⟨c, _⟩
     · exact c
     · exact absurd c (by decide)
     · exact absurd c (by decide)
   subst hs0
   have hx0 : ¬ x < 0 := by have := z1.1 rfl; omega
   have hx1 : x = 0 ∨ infp x = true := .inl (z1.1 rfl)
   obtain ⟨rfl, rfl⟩ := (ro_it hx0 hx1).1 hr; clear hr hx0 hx1 i1 z1 hsx hT; have xXR := XR.cell; have zXR0 := XR.frozen; have xX2 := X2.cell; go_wp2; clear xXR zXR0 xX2; have SX := StN.mk4 XR (.int .i64 0) (.bool false) (.int .u64 M1) (.int .i64 E1); exact bodyPost_ret (v := .tuple #[.agg #[.int .i64 0, .bool false, .int .u64 M1, .int .i64 E1], .bool true]) (by simp [results, Tryz.results78, go_sem, SX.box.cell]) rfl ⟨_, _, _, _, rfl, q1, (SX.below HB.out (by omega))⟩
 · by_cases hs : s1 = true
   · subst hs
     have hx0 : x < 0 := of_decide_eq_true (hsx (by decide))
     obtain ⟨rfl, rfl⟩ := (ro_neg hx0).1 hr; clear hr hx0 i1 z1 hsx q1 hT; have xXR := XR.cell; have zXR0 := XR.frozen; have xX2 := X2.cell; go_wp2; clear xXR zXR0 xX2; have SX := StN.mk4 XR (.int .i64 0) (.bool false) (.int .u64 0) (.int .i64 0); exact bodyPost_ret (v := .tuple #[.agg #[.int .i64 0, .bool false, .int .u64 0, .int .i64 0], .bool false]) (by simp [results, Tryz.results78, go_sem, SX.box.cell]) rfl ⟨_, _, _, _, rfl, Fq.nought, (SX.below HB.out (by omega))⟩
   · have hs : s1 = false := by simpa using hs
     subst hs
     have hx0 : ¬ x < 0 := of_decide_eq_false (hsx (by decide))
     have hx1 : ¬ (x = 0 ∨ infp x = true) := by
       rw [i1]; rintro (c | c)
       · exact absurd (z1.2 c) (by decide)
       · exact absurd c (by decide)
     obtain ⟨hr2, ht⟩ := (ro_fin hx0 hx1).1 hr; subst ht; obtain ⟨a1, a2, a3, a4, _⟩ := fq_vr q1; obtain ⟨α, hα⟩ : ∃ α : Nat, (α : Int) = M1 := ⟨M1.toNat, by omega⟩
     have α1 : 9223372036854775808 ≤ α := by omega
     have α2 : α < 18446744073709551616 := by omega
     obtain ⟨P, hP, hPt, hPr⟩ := root_pre q1 hα hr2
     have eb1 : -2200000 ≤ E1 := by omega
     have eb2 : E1 ≤ 2200000 := by omega
     have HPP := Lib.hid hP; have HPT := Lib.hid hPt; have HPR := Lib.hid hPr; have HA := Lib.hid hα; clear hr hr2 hx0 hx1 i1 z1 hsx a1 a2 a3 a4 hα hP hPt hPr q1; have xX2 := X2.cell
     go_upto_region 6 with (fail)
     clear xX2; refine Jo.rk [0, 1, 2, 3, 4, 5, 6, 7] [some 17, some 18, some 19, some 20, some 21, some 22, some 23, some 24, none, some 5] [[], [0], [1], [], [3], [2, 4], [], [5, 6], [], []] 10 2 [Jo.qp w.heap.size 2, Jo.Fact.eq (.int .u64 M1), Jo.Fact.rd α 2, Jo.qp w.heap.size 3, Jo.qi E1, Jo.Fact.pk P, Jo.qb up, Jo.Fact.num r, Jo.Fact.any, Jo.Fact.any] (by kernel_rfl) (by kernel_rfl) (by decide) rfl ?_ ?_
     · refine Jo.jm rfl ?_ ?_; rotate_left
       refine Jo.jm rfl ?_ ?_
       · rintro wj hJ _ rfl K hK; simp only [Jo.z] at hK ⊢; have xX22 := (X2.below hJ).a 2 (.int .u64 M1) rfl; go_simp; exact hK.out _ _ rfl (br _ _)
       refine Jo.jm rfl ?_ ?_
       · rintro wj hJ _ rfl K hK; simp only [Jo.z] at hK ⊢; go_simp; refine (qLimbs HA.out α2).mono ?_; rintro ee wk ⟨A2, rfl, p2, B⟩; exact hK.out _ _ ⟨A2, 2, 2, rfl, p2, Nat.le_refl _⟩ B
       refine Jo.jm rfl ?_ ?_; rotate_left
       refine Jo.jm rfl ?_ ?_
       · rintro wj hJ _ rfl K hK; simp only [Jo.z] at hK ⊢; have xX23 := (X2.below hJ).a 3 (.int .i64 E1) rfl; go_simp; exact hK.out _ _ rfl (br _ _)
       refine Jo.jm rfl ?_ ?_
       · rintro wj hJ _ ⟨A2, n2, c2, rfl, p2, k2⟩ _ rfl K hK; simp only [Jo.z] at hK ⊢; go_simp; refine (qRoot0 p2 (by omega) α1 α2 eb1 eb2 HPP.out HPT.out).mono ?_; rintro ee wk ⟨A7, n7, c7, t7, x7, rfl, p7, B⟩; exact hK.out _ _ ⟨A7, n7, c7, t7, x7, rfl, p7⟩ B
       refine Jo.jm rfl ?_ ?_; rotate_left
       refine Jo.jm rfl ?_ ?_
       · rintro wj hJ _ ⟨A7, n7, c7, t7, x7, rfl, p7⟩ _ rfl K hK; simp only [Jo.z] at hK ⊢; go_simp; refine (qRound (hT.below hJ) p7 HPR.out).mono ?_; rintro ee wk ⟨K9, s9, M9, E9, rfl, q9, B⟩; exact hK.out _ _ ⟨K9, s9, M9, E9, rfl, q9⟩ B
       exact Jo.Steps.nil
       all_goals (rintro wj hJ; (repeat rintro _ rfl); intro K hK; simp only [Jo.z] at hK ⊢; go_simp; exact hK.out _ _ rfl (br _ _))
     rintro w8 hJ _ _ _ rfl _ ⟨_, _, _, rfl, _⟩ _ _ _ rfl _ ⟨_, _, _, _, _, rfl, _⟩ _ rfl _ ⟨K9, s9, M9, E9, rfl, q9⟩ -; simp only [Jo.z]; replace X2 := X2.below hJ; replace XR := XR.below hJ; replace hT := hT.below hJ; replace HB := Hqb HB hJ; have xXR := XR.cell; have zXR0 := XR.frozen
     refine Jo.jnext (i := 8) (o := ⟨none, _, _, _, _, _⟩) (by kernel_rfl) rfl (fun K hK => ?_)
     go_simp; refine hK.out _ _ ?_; clear hK K xXR zXR0; generalize hS : (((w8.setCell _ _).setCell _ _).setCell _ _).setCell _ _ = w9 at *; have SX := StN.of4 XR hS; replace X2 := X2.stn SX (by omega); replace HB := Hqs HB SX (by omega); replace XR := SX.box; clear SX hS
     refine Jo.jnext (i := 9) (o := ⟨some 5, _, _, _, _, _⟩) (by kernel_rfl) rfl (fun K hK => ?_)
     go_simp; refine hK.out _ _ ?_; clear hK K; refine Jo.jdone (by kernel_rfl) ?_; go_wp2; exact bodyPost_ret (v := .tuple #[.agg #[.int .i64 K9, .bool s9, .int .u64 M9, .int .i64 E9], .bool true]) (by simp [results, Tryz.results78, go_sem, XR.cell]) rfl ⟨_, _, _, _, rfl, q9, HB.out⟩
theorem ci_zero : Ci false 0 false 0 0 0 false 0 0 (some (0, 0)) := ⟨rfl, Fq.nought, Fq.nought, by decide, by decide, by decide⟩
theorem sgn_pos {x : Int} (h : 0 < x) : cmpI x 0 = 1 := by rcases cmpI_tri x 0 with ⟨a, b⟩ | ⟨a, b⟩ | ⟨a, b⟩ <;> omega
theorem sgn_neg {x : Int} (h : x < 0) : cmpI x 0 = -1 := by rcases cmpI_tri x 0 with ⟨a, b⟩ | ⟨a, b⟩ | ⟨a, b⟩ <;> omega
theorem sgn_nil : cmpI 0 0 = 0 := by decide
def absI (x : Sp) : Sp := match x with
 | none => none
 | some (a, b) => if 0 ≤ a then some (a, b) else if b ≤ 0 then negI (some (a, b)) else mkI 0 (max b (-a))
def sqrI (x : Sp) : Sp := match absI x with
 | none => none
 | some (a, b) => mkI (mulp false a a) (mulp true b b)
def rootI (r : Bool → Int → Int) (x : Sp) : Sp := match meetI x (some (0, 19342822337206103650074625)) with
 | none => none
 | some (a, b) => mkI (r false a) (r true b)
def RF (r : Bool → Int → Int) : Prop := ∀ up x, 0 ≤ x → Ro up x (r up x) true
theorem rt_ex9 (up : Bool) {X : Int} (hX : 0 < X) : ∃ r, Rt up X r := by
 obtain ⟨n, hn⟩ : ∃ n : Nat, (n : Int) = 19342822337206103650074625 := ⟨19342822337206103650074625, rfl⟩
 obtain ⟨k, hk, a, b⟩ := last_yes (fun k => (k : Int) ≤ 19342822337206103650074624 ∧ vr (k : Int) * vr (k : Int) ≤ X) ⟨by decide, by rw [show vr ((0 : Nat) : Int) = 0 from rfl]; omega⟩ n (by omega)
 have b' : (k : Int) < 19342822337206103650074624 → X < vr ((k : Int) + 1) * vr ((k : Int) + 1) := fun c => by
   have d : ¬ vr ((k + 1 : Nat) : Int) * vr ((k + 1 : Nat) : Int) ≤ X := fun d => b ⟨by omega, d⟩
   rw [show ((k + 1 : Nat) : Int) = (k : Int) + 1 by omega] at d
   omega
 cases up
 · exact ⟨k, rt_f.2 ⟨by omega, a.1, a.2, b'⟩⟩
 · by_cases e : vr (k : Int) * vr (k : Int) = X
   · have k0 : 0 < (k : Int) := by
       rcases Int.lt_or_le 0 (k : Int) with q | q
       · exact q
       · exfalso
         rw [show (k : Int) = 0 by omega, show vr 0 = 0 from rfl] at e
         omega
     have s := sq_lt (vr_nn (x := (k : Int) - 1) (by omega)) (vr_lt (show (k : Int) - 1 < k by omega))
     exact ⟨k, rt_t.2 ⟨k0, by omega, fun _ => by omega, by omega⟩⟩
   · refine ⟨(k : Int) + 1, rt_t.2 ⟨by omega, by omega, fun c => Int.le_of_lt (b' (by omega)), ?_⟩⟩
     rw [show (k : Int) + 1 - 1 = k by omega]
     omega
theorem ro_ex9 (up : Bool) (x : Int) (h : 0 ≤ x) : ∃ r, Ro up x r true := by
 by_cases c2 : x = 0 ∨ infp x = true
 · exact ⟨x, (ro_it (by omega) c2).2 ⟨rfl, rfl⟩⟩
 · obtain ⟨r, hr⟩ := rt_ex9 up (Int.mul_pos (vr_pos (show 0 < x by omega)) (p2pos KK))
   exact ⟨r, (ro_fin (by omega) c2).2 ⟨hr, rfl⟩⟩
theorem rf_ex : ∃ r, RF r := by
 have h : ∀ p : Bool × Int, ∃ r, 0 ≤ p.2 → Ro p.1 p.2 r true := fun p => by
   by_cases c : 0 ≤ p.2
   · obtain ⟨r, hr⟩ := ro_ex9 p.1 p.2 c
     exact ⟨r, fun _ => hr⟩
   · exact ⟨0, fun e => absurd e c⟩
 exact ⟨fun up x => Classical.choose (h (up, x)), fun up x => Classical.choose_spec (h (up, x))⟩
theorem Rt.mono9 {up : Bool} {X Y r t : Int} (h : Rt up X r) (k : Rt up Y t) (hXY : X ≤ Y) : r ≤ t := by
 rcases Int.lt_or_le t r with c | c
 · exfalso
   cases up
   · obtain ⟨h1, h2, h3, h4⟩ := rt_f.1 h; obtain ⟨k1, k2, k3, k4⟩ := rt_f.1 k; have a := k4 (by omega); have b := vr_sq (r := t + 1) (t := r) (by omega) (by omega)
     omega
   · obtain ⟨h1, h2, h3, h4⟩ := rt_t.1 h; obtain ⟨k1, k2, k3, k4⟩ := rt_t.1 k; have a := k3 (by omega); have b := vr_sq (r := t) (t := r - 1) (by omega) (by omega)
     omega
 · exact c
theorem infp_top : infp 19342822337206103650074625 = true := by decide
section
variable {r : Bool → Int → Int}
theorem RF.zero (hr : RF r) (up : Bool) : r up 0 = 0 := ((ro_it (by decide) (.inl rfl)).1 (hr up 0 (by decide))).1
theorem RF.top (hr : RF r) (up : Bool) : r up 19342822337206103650074625 = 19342822337206103650074625 := ((ro_it (by decide) (.inr infp_top)).1 (hr up _ (by decide))).1
theorem RF.fin (hr : RF r) (up : Bool) {x : Int} (h0 : 0 < x) (h1 : x < 19342822337206103650074625) : Rt up (vr x * 2 ^ KK) (r up x) :=
 ((ro_fin (by omega) (by rw [infp_fin (by omega) h1]; simp; omega)).1 (hr up x (by omega))).1
theorem RF.in (hr : RF r) (up : Bool) {x : Int} (h0 : 0 ≤ x) (h1 : x ≤ 19342822337206103650074625) : 0 ≤ r up x ∧ r up x ≤ 19342822337206103650074625 := by
 by_cases c : x = 0
 · subst c; rw [hr.zero]
   decide
 · by_cases d : x = 19342822337206103650074625
   · subst d; rw [hr.top]
     decide
   · have := hr.fin up (x := x) (by omega) (by omega)
     cases up
     · have := rt_f.1 this
       omega
     · have := rt_t.1 this
       omega
theorem RF.mono (hr : RF r) (up : Bool) {x y : Int} (h0 : 0 ≤ x) (h : x ≤ y) (h1 : y ≤ 19342822337206103650074625) : r up x ≤ r up y := by
 have X := hr.in up h0 (by omega)
 have Y := hr.in up (show 0 ≤ y by omega) h1
 by_cases c : x = 0
 · subst c; rw [hr.zero]
   omega
 · by_cases d : y = 19342822337206103650074625
   · subst d; rw [hr.top]
     omega
   · exact (hr.fin up (by omega) (by omega)).mono9 (hr.fin up (by omega) (by omega)) (Int.mul_le_mul_of_nonneg_right (vr_le h) (Int.le_of_lt (p2pos KK)))
end
theorem abs_eq {a b : Int} (h : SpOk (some (a, b))) : absI (some (a, b)) = some (max 0 (max a (-b)), max b (-a)) ∧ SpOk (some (max 0 (max a (-b)), max b (-a))) := by
 obtain ⟨h1, h2, h3, h4, h5⟩ := h
 constructor
 · show (if _ then _ else _) = _
   by_cases c : 0 ≤ a
   · rw [if_pos c, show max 0 (max a (-b)) = a by omega, show max b (-a) = b by omega]
   · rw [if_neg c]
     by_cases d : b ≤ 0
     · rw [if_pos d, negI_some ⟨h1, h2, h3, h4, h5⟩, show max 0 (max a (-b)) = -b by omega, show max b (-a) = -a by omega]
     · rw [if_neg d, mkI_some (by omega) (by omega) (by omega), show max 0 (max a (-b)) = 0 by omega]
 · exact ⟨by omega, by omega, by omega, by omega, by omega⟩
theorem sqr_eq {a b : Int} (h : SpOk (some (a, b))) : sqrI (some (a, b)) = mkI (mulp false (max 0 (max a (-b))) (max 0 (max a (-b)))) (mulp true (max b (-a)) (max b (-a))) := by
 unfold sqrI
 rw [(abs_eq h).1]
theorem sqr_ok {x : Sp} (h : SpOk x) : SpOk (sqrI x) := by
 rcases x with _ | ⟨a, b⟩
 · exact trivial
 · rw [sqr_eq h]; exact mkI_in (mulp_bd _) (mulp_bd _)
theorem mulp_sq {x y : Int} (up : Bool) (h0 : 0 ≤ x) (h : x ≤ y) (h1 : y ≤ 19342822337206103650074625) : mulp up x x ≤ mulp up y y := by
 have a := mulp_up (x := x) (y := y) (z := x) up (by omega) (by omega) (by omega) h1 h0 (by omega) h; have b := mulp_up (x := x) (y := y) (z := y) up (by omega) (by omega) (by omega) h1 (by omega) h1 h; rw [mulp_comm (x := y) (y := x)] at a
 omega
section
variable {r : Bool → Int → Int}
theorem meet_root {a b : Int} (h : SpOk (some (a, b))) : (b < 0 ∧ meetI (some (a, b)) (some (0, 19342822337206103650074625)) = none) ∨ (0 ≤ b ∧ meetI (some (a, b)) (some (0, 19342822337206103650074625)) = some (max a 0, b)) := by
 obtain ⟨h1, h2, h3, h4, h5⟩ := h
 by_cases c : b < 0
 · exact .inl ⟨c, mkI_none (by omega)⟩
 · refine .inr ⟨by omega, ?_⟩
   show mkI _ _ = _
   rw [show min b 19342822337206103650074625 = b by omega]
   exact mkI_some (by omega) (by omega) (by omega)
theorem root_no {a b : Int} (h : SpOk (some (a, b))) (c : b < 0) : rootI r (some (a, b)) = none := by
 rcases meet_root h with ⟨_, e⟩ | ⟨d, _⟩
 · unfold rootI
   rw [e]
 · omega
theorem root_eq {a b : Int} (h : SpOk (some (a, b))) (c : 0 ≤ b) : rootI r (some (a, b)) = mkI (r false (max a 0)) (r true b) := by
 rcases meet_root h with ⟨d, _⟩ | ⟨_, e⟩
 · omega
 · unfold rootI
   rw [e]
theorem root_ok (hr : RF r) {x : Sp} (h : SpOk x) : SpOk (rootI r x) := by
 rcases x with _ | ⟨a, b⟩
 · exact trivial
 by_cases c : b < 0
 · rw [root_no h c]; exact trivial
 · rw [root_eq h (by omega)]; obtain ⟨h1, h2, h3, h4, h5⟩ := h; have A := hr.in false (x := max a 0) (by omega) (by omega); have B := hr.in true (x := b) (by omega) (by omega); exact mkI_in ⟨by omega, by omega⟩ ⟨by omega, by omega⟩
theorem root_wit (hr : RF r) {x z : Sp} (hx : SpOk x) (hz : SpOk z) (h : witI x z = true) : witI (rootI r x) (rootI r z) = true := by
 rcases x with _ | ⟨a, b⟩
 · rfl
 obtain ⟨c, d, rfl, h1, h2⟩ := wit_some h
 by_cases e : b < 0
 · rw [root_no hx e]
   rfl
 · rw [root_eq hx (by omega), root_eq hz (by omega)]; obtain ⟨x1, x2, x3, x4, x5⟩ := hx; obtain ⟨z1, z2, z3, z4, z5⟩ := hz; exact wit_mk (hr.mono false (by omega) (by omega) (by omega)) (hr.mono true (by omega) (by omega) (by omega))
theorem mulp_worth {x : Int} (h0 : 0 < x) (h1 : x < 19342822337206103650074625) : (0 ≤ mulp false x x ∧ mulp false x x < 19342822337206103650074625 ∧ vr (mulp false x x) * 2 ^ KK ≤ vr x * vr x) ∧ (0 < mulp true x x ∧ (mulp true x x < 19342822337206103650074625 → vr x * vr x ≤ vr (mulp true x x) * 2 ^ KK)) := by
 have hi := infp_fin (x := x) (by omega) h1
 have hn : ¬ (x = 0 ∨ x = 0) := by omega
 have hm : ¬ (infp x = true ∨ infp x = true) := by rw [hi]; simp
 obtain ⟨nf, v⟩ := pro_spec (x := x) (y := x) (by omega) h1 (by omega) h1; obtain ⟨⟨d1, d2, d3, d4⟩, u1, u2, u3, u4⟩ := rnd_spec nf; have a := mulp_nn (x := x) (z := x) false h0 h0 (by omega) (by omega); rw [mulp_fin true hn hm]; rw [mulp_fin false hn hm] at a ⊢
 have hv : 0 < vr x * vr x := Int.mul_pos (vr_pos h0) (vr_pos h0)
 refine ⟨⟨a, by omega, ?_⟩, ?_, fun c => ?_⟩
 · rw [← v]; exact Int.mul_le_mul_of_nonneg_right (d3 (by omega)) (Int.le_of_lt (p2pos KK))
 · rcases Int.lt_or_le 0 (rnd true (ml (ep x) (ep x)).1 (ml (ep x) (ep x)).2) with q | q
   · exact q
   · exfalso
     have c := u3 (by omega); rw [vr_neg] at c; have e := vr_le q
     rw [show vr 0 = 0 from rfl] at e
     have f : vl (ml (ep x) (ep x)) ≤ 0 := by omega
     have g := Int.mul_nonneg (show 0 ≤ -vl (ml (ep x) (ep x)) by omega) (Int.le_of_lt (p2pos KK))
     rw [Int.neg_mul] at g
     omega
 · rw [← v]; have e := u3 (by omega); rw [vr_neg] at e; exact Int.mul_le_mul_of_nonneg_right (by omega) (Int.le_of_lt (p2pos KK))
theorem sq_of {a b : Int} (ha : 0 ≤ a) (hb : 0 ≤ b) (h : vr a * vr a ≤ vr b * vr b) : a ≤ b := by
 rcases Int.lt_or_le b a with c | c
 · have := sq_lt (vr_nn hb) (vr_lt c)
   omega
 · exact c
theorem abs_root (hr : RF r) {x : Sp} (hx : SpOk x) : witI (absI x) (rootI r (sqrI x)) = true := by
 rcases x with _ | ⟨a, b⟩
 · rfl
 have he := abs_eq hx; rw [he.1, sqr_eq hx]; obtain ⟨y1, y2, y3, y4, y5⟩ := he.2
 have l0 : 0 ≤ max 0 (max a (-b)) := by omega
 generalize max 0 (max a (-b)) = l at *; generalize max b (-a) = h at *
 have S : (0 ≤ mulp false l l ∧ mulp false l l < 19342822337206103650074625 ∧ r false (mulp false l l) ≤ l) := by
   by_cases c : l = 0
   · subst c; rw [mulp_zero false (.inl rfl), hr.zero]
     decide
   · obtain ⟨⟨p1, p2, p3⟩, _⟩ := mulp_worth (x := l) (by omega) y4; refine ⟨p1, p2, ?_⟩
     by_cases z : mulp false l l = 0
     · rw [z, hr.zero]
       omega
     · have := rt_f.1 (hr.fin false (x := mulp false l l) (by omega) p2)
       exact sq_of this.1 (by omega) (by omega)
 have T : (0 ≤ mulp true h h ∧ h ≤ r true (mulp true h h)) := by
   by_cases c : h = 0
   · subst c; rw [mulp_zero true (.inl rfl), hr.zero]
     decide
   · by_cases d : h = 19342822337206103650074625
     · subst d
       have e : mulp true 19342822337206103650074625 19342822337206103650074625 = 19342822337206103650074625 := by decide
       rw [e, hr.top]
       decide
     · obtain ⟨_, p1, p2⟩ := mulp_worth (x := h) (by omega) (by omega); refine ⟨by omega, ?_⟩
       by_cases e : mulp true h h = 19342822337206103650074625
       · rw [e, hr.top]
         omega
       · have bd := mulp_bd (x := h) (y := h) true; obtain ⟨q1, q2, q3, q4⟩ := rt_t.1 (hr.fin true (x := mulp true h h) p1 (by omega))
         by_cases f : r true (mulp true h h) = 19342822337206103650074625
         · omega
         · have := q3 (by omega)
           have := p2 (by omega)
           exact sq_of (by omega) (by omega) (by omega)
 have le : mulp false l l ≤ mulp true h h := by
   have a := mulp_sq false l0 y2 y3
   have b : mulp false h h ≤ mulp true h h := by
     by_cases c : h = 0
     · subst c; rw [mulp_zero true (.inl rfl), mulp_zero false (.inl rfl)]
       decide
     · by_cases d : h = 19342822337206103650074625
       · subst d
         decide
       · have hi := infp_fin (x := h) (by omega) (by omega)
         have hm : ¬ (infp h = true ∨ infp h = true) := by rw [hi]; simp
         rw [mulp_fin true (by omega) hm, mulp_fin false (by omega) hm]; obtain ⟨nf, v⟩ := pro_spec (x := h) (y := h) (by omega) (by omega) (by omega) (by omega); exact dn_le_up (rnd_spec nf).1 (rnd_spec nf).2
   omega
 have bd := mulp_bd (x := h) (y := h) true
 have em := mkI_some le S.2.1 (show -19342822337206103650074625 < mulp true h h by omega)
 have so : SpOk (some (mulp false l l, mulp true h h)) := ⟨by omega, le, bd.2, S.2.1, by omega⟩
 rw [em, root_eq so T.1, show max (mulp false l l) 0 = mulp false l l by omega, mkI_some (by omega) (by omega) (by omega)]
 exact wit_iff.2 ⟨S.2.2, T.2⟩
end
theorem fkAdd {w : World} {A : Option Addr} {n c : Nat} {l : List Sp} {z : Sp} (hT : Tb w) (h : Il8 w A n c l) (hr : addL l = z) : Calls Tryz.prog 29 #[.slice A n c] w (PV w z) := by
 obtain ⟨p, hp⟩ : ∃ p, gone l = p := ⟨_, rfl⟩; have HP := Lib.hid hp; have HLn := Lib.hid h.1; have hcap := h.2.1; have hbig := h.2.2.1; clear hp
 go_enter Tryz.func29, Tryz.ntmps29
 go_upto_region 1 with (fail)
 generalize hW1 : w.alloc _ = w1 at *; obtain ⟨XR, HB⟩ := Bo.en1 hW1; replace hT := hT.below HB.out; replace h := h.below HB.out; clear hW1
 go_wp2_with fail
 refine (fkEmpty h HP.out).mono ?_; rintro ee w2 ⟨rfl, B⟩; replace XR := XR.below B; replace hT := hT.below B; replace h := h.below B; replace HB := Hqb HB B; clear B
 cases p
 · have hok := h.ok; have hae := (add_ends HP.out hok).trans hr; obtain ⟨u, hu⟩ : ∃ u, smA false (lowL l) = u := ⟨_, rfl⟩; obtain ⟨v, hv⟩ : ∃ v, smA true (highL l) = v := ⟨_, rfl⟩
   have hz : mkI u v = z := by rw [← hu, ← hv]; exact hae
   have HU := Lib.hid hu; have HV := Lib.hid hv; have HZ := Lib.hid hz; clear hok hae hu hv hz hr; go_wp2
   go_loopw [3, 4, 12] (fun va vb i wr => ∃ k A1 B1 c1 d1, k ≤ n ∧ va = .slice A1 k c1 ∧ vb = .slice B1 k d1 ∧ i = .int .i64 ((k : Nat) : Int) ∧ EInv w2 A1 B1 k c1 d1 (lowL (l.take k)) (highL (l.take k)) wr) (fun _ _ i _ => n - (intOf i).toNat)
   case atStart => exact ⟨0, _, _, _, _, Nat.zero_le _, rfl, rfl, rfl, Na.nil _ _, Na.nil _ _, (fun k h => by cases h), Below.refl _ _⟩
   case round =>
     obtain ⟨k, A1, B1, c1, d1, hk, rfl, rfl, rfl, N1, N2, hne, hB⟩ := hrel; have HB0 := HB; replace HB := Lib.hid hB; clear hB
     by_cases hlt : k < n
     · have tlt : decide ((k : Int) < (n : Int)) = true := by simp; omega
       have h' := h.below HB.out
       obtain ⟨a0, b0, hg⟩ := gone_get HP.out (k := k) (by rw [HLn.out]; exact hlt); have hsl := lowL_take (l := l) (k := k) (by rw [HLn.out]; exact hlt); have hsh := highL_take (l := l) (k := k) (by rw [HLn.out]; exact hlt); rw [hg] at hsl hsh; obtain ⟨b, o, rfl, hcell⟩ := h'.2.2.2 (by omega); obtain ⟨e, D, s, M, E, D', s', M', E', x0, x1, x2, x3, x4, x5, x6, x7, x8, hM, hM', hx⟩ := hcell k hlt; rw [hg] at hx
       obtain ⟨rfl, a1, b1, _, _, _⟩ := ci_some hM hM' hx; clear hcell h' h hx hM hM'
       have i1 : (k : Int) < n := by omega
       have i2 : (0 : Int) ≤ k := by omega
       generalize lowL (l.take k) = la at *; generalize highL (l.take k) = lb at *
       have HSL : Hid (lowL (l.take (k + 1)) = la ++ [a0]) := Lib.hid hsl
       have HSH : Hid (highL (l.take (k + 1)) = lb ++ [b0]) := Lib.hid hsh
       have HNE := Lib.hid hne; clear hsl hsh hne hg HU HV HZ HP XR hT HB0
       go_upto_region 7 with (fail)
       clear x0 x1 x2 x3 x4 x5 x6 x7 x8; have lX6 := Nat.le_refl (World.heap wr).size; generalize hWn : wr.alloc _ = w6 at *; obtain ⟨X6, BW⟩ := Bo.nw hWn; clear hWn; replace N1 := N1.below BW; replace N2 := N2.below BW; replace HB := Hqb HB BW; clear BW; clear lX6; have xX6 := X6.cell
       go_wp2_with (at_builtin; refine wpList_na rfl _ _ rfl rfl rfl (N1.below (bel1 _ _)) a1 (Bo.new _ _ _) (by omega) (Nat.le_trans HB.out.size (bel1 _ _).size) ?_)
       intro A2 d2 w7 N1' G1 at1
       clear xX6; have hB2 := bt HB.out (bel1 _ (.cells #[.int .i64 D, .bool s, .int .u64 M, .int .i64 E] 24)); have N1b := N1.below (bel1 _ (.cells #[.int .i64 D, .bool s, .int .u64 M, .int .i64 E] 24)); have N2b := N2.below (bel1 _ (.cells #[.int .i64 D, .bool s, .int .u64 M, .int .i64 E] 24)); replace X6 := (X6.below (bel1 _ (.cells #[.int .i64 D, .bool s, .int .u64 M, .int .i64 E] 24))).grownN N1b (by decide) G1
       replace HB := Lib.hid (hB2.grown G1 hB2.size (fun k hk => (N1b.own_lt k hk).1))
       have l1 : ∀ k, ownA B1 = some k → k < w6.heap.size + 1 := fun k hk => by
         have := (N2b.own_lt k hk).2
         simpa using this
       replace N2 := N2b.kept G1 (own_ne HNE.out); clear N1 N1b N2b G1 hB2; have xX6 := X6.cell
       go_wp2_with (at_builtin; refine wpList_na rfl _ _ rfl rfl rfl (N2.below (bel1 _ _)) b1 (Bo.new _ _ _) (by omega) (Nat.le_trans HB.out.size (bel1 _ _).size) ?_)
       intro B2 d3 w8 N2' G2 at2
       clear xX6; have hB2 := bt HB.out (bel1 _ (.cells #[.int .i64 D', .bool s', .int .u64 M', .int .i64 E'] 24)); have N2b := N2.below (bel1 _ (.cells #[.int .i64 D', .bool s', .int .u64 M', .int .i64 E'] 24)); have N1b := N1'.below (bel1 _ (.cells #[.int .i64 D', .bool s', .int .u64 M', .int .i64 E'] 24))
       have lA : ∀ k, ownA A2 = some k → k < w7.heap.size + 1 := fun k hk => by
         have := (N1b.own_lt k hk).2
         simpa using this
       have hne2 : ∀ k, ownA A2 = some k → ownA B2 ≠ some k := ne_row HNE.out at1 at2 l1 lA
       have hne1 : ∀ k, ownA A2 = some k → ownA B1 ≠ some k := ne_row HNE.out at1 (.inl rfl) l1 lA
       replace HB := Lib.hid (hB2.grown G2 hB2.size (fun k hk => (N2b.own_lt k hk).1))
       replace N1' := N1b.kept G2 (own_ne' hne1)
       have t1 := HSL.out; have t2 := HSH.out; clear N1b N2b G2 hB2 hne1 X6 N2 l1 lA at1 at2 HSL HSH HNE; go_wp2
       go_roundw
       case rel => exact ⟨k + 1, _, _, _, _, by omega, rfl, rfl, by go_num, by rw [t1]; exact N1', by rw [t2]; exact N2', hne2, HB.out⟩
       case measure => simp [intOf]; omega
     · obtain rfl : k = n := by omega
       have tlt : decide ((k : Int) < (k : Int)) = false := by simp
       have e1 : l.take k = l := List.take_of_length_le (by rw [HLn.out]; omega)
       rw [e1] at N1 N2; have L1 := N1.nl (by omega); have L2 := N2.nl (by omega); replace XR := XR.below HB.out; replace hT := hT.below HB.out; replace HB := Lib.hid (bt HB0.out HB.out); clear N1 N2 e1 hne HB0 h HP
       go_wp2_with fail
       refine (aSum hT L1 HU.out).mono ?_; rintro ee w9 ⟨K21, s21, M21, E21, rfl, q21, B⟩; replace XR := XR.below B; replace hT := hT.below B; replace L1 := L1.below B; replace L2 := L2.below B; replace HB := Hqb HB B; clear B
       go_wp2_with fail
       refine (aSum hT L2 HV.out).mono ?_; rintro ee wA ⟨K22, s22, M22, E22, rfl, q22, B⟩; replace XR := XR.below B; replace hT := hT.below B; replace L1 := L1.below B; replace L2 := L2.below B; replace HB := Hqb HB B; clear B
       go_wp2_with fail
       refine (kvMake q21.top q22.top q21.rk q22.rk HZ.out).mono ?_; rintro ee wB ⟨e23, K23, s23, M23, E23, K23b, s23b, M23b, E23b, rfl, v23, B⟩; replace XR := XR.below B; replace hT := hT.below B; replace L1 := L1.below B; replace L2 := L2.below B; replace HB := Hqb HB B; clear B; clear L1 L2 hT; have xXR := XR.cell; have zXR0 := XR.frozen
       go_wp2; clear xXR zXR0; have SX := StN.mk9 XR (.bool e23) (.int .i64 K23) (.bool s23) (.int .u64 M23) (.int .i64 E23) (.int .i64 K23b) (.bool s23b) (.int .u64 M23b) (.int .i64 E23b); exact bodyPost_ret (by simp [results, Tryz.results29, go_sem, SX.box.cell]) rfl ⟨_, _, _, _, _, _, _, _, _, rfl, v23, (SX.below HB.out (by omega))⟩
 · obtain rfl : none = z := (add_gone HP.out).symm.trans hr
   clear HP hT h hr
   go_wp2_with fail
   refine (kvNoneE).mono ?_; rintro ee w3 ⟨rfl, B⟩; replace XR := XR.below B; replace HB := Hqb HB B; clear B; have xXR := XR.cell; have zXR0 := XR.frozen; go_wp2; clear xXR zXR0; have SX := StN.mk9 XR (.bool true) (.int .i64 0) (.bool false) (.int .u64 0) (.int .i64 0) (.int .i64 0) (.bool false) (.int .u64 0) (.int .i64 0)
   exact bodyPost_ret (by simp [results, Tryz.results29, go_sem, SX.box.cell]) rfl ⟨_, _, _, _, _, _, _, _, _, rfl, Ci.none, (SX.below HB.out (by omega))⟩
theorem fkSub {w : World} {e : Bool} {D M E D' M' E' : Int} {s s' : Bool} {e2 : Bool} {G P Q G' P' Q' : Int} {g g' : Bool} {x y z : Sp} (hT : Tb w) (hM : LQ M) (hM' : LQ M') (hP : LQ P) (hP' : LQ P') (hx : rkI e D s M E D' s' M' E' = x) (hy : rkI e2 G g P Q G' g' P' Q' = y) (hr : subI x y = z) : Calls Tryz.prog 30 #[VI e D s M E D' s' M' E', VI e2 G g P Q G' g' P' Q'] w (PV w z) := by
 delta VI
 obtain ⟨m, hm⟩ : ∃ m, negI y = m := ⟨_, rfl⟩
 have hr2 : addL [x, m] = z := by rw [← hm]; exact hr
 have HX := Lib.hid hx; have HY := Lib.hid hy; have HM := Lib.hid hm; have HR := Lib.hid hr2; clear hx hy hm hr hr2
 go_enter Tryz.func30, Tryz.ntmps30
 go_upto_region 1 with (fail)
 generalize hW1 : ((w.alloc _).alloc _).alloc _ = w1 at *; obtain ⟨X2, X3, XR, HB⟩ := Bo.en3 hW1; replace hT := hT.below HB.out; clear hW1; refine Jo.rk [0, 1, 2, 3, 4] [some 5, some 6, some 7, some 8, some 9, none] [[], [], [1], [0, 2], [3], []] 6 1 [Jo.q9 e D s M E D' s' M' E', Jo.q9 e2 G g P Q G' g' P' Q', Jo.Fact.iv m, Jo.Fact.il8 2 [x, m], Jo.Fact.iv z, Jo.Fact.any] (by kernel_rfl) (by kernel_rfl) (by decide) rfl ?_ ?_
 · iterate 2 (refine Jo.jm rfl ?_ ?_; rotate_left)
   refine Jo.jm rfl ?_ ?_
   · rintro wj hJ _ rfl K hK; simp only [Jo.z] at hK ⊢; go_simp; refine (fkNeg hP hP' HY.out HM.out).mono ?_; rintro ee wk ⟨e1, K1, s1, M1, E1, K1b, s1b, M1b, E1b, rfl, v1, B⟩; exact hK.out _ _ ⟨e1, K1, s1, M1, E1, K1b, s1b, M1b, E1b, rfl, v1⟩ B
   refine Jo.jm rfl ?_ ?_
   · rintro wj hJ _ rfl _ ⟨e1, K1, s1, M1, E1, K1b, s1b, M1b, E1b, rfl, v1⟩ K hK; simp only [Jo.z] at hK ⊢; go_simp; exact hK.out _ _ ⟨_, 2, rfl, Il8.lit2 rfl ⟨hM, hM', HX.out⟩ v1.rw⟩ (bel1 _ _)
   refine Jo.jm rfl ?_ ?_
   · rintro wj hJ _ ⟨A3, c3, rfl, h3⟩ K hK; simp only [Jo.z] at hK ⊢; go_simp; refine (fkAdd (hT.below hJ) h3 HR.out).mono ?_; rintro ee wk ⟨e2, K2, s2, M2, E2, K2b, s2b, M2b, E2b, rfl, v2, B⟩; exact hK.out _ _ ⟨e2, K2, s2, M2, E2, K2b, s2b, M2b, E2b, rfl, v2⟩ B
   exact Jo.Steps.nil
   all_goals (rintro wj hJ; (repeat rintro _ rfl); intro K hK; simp only [Jo.z] at hK ⊢; have xX2 := (X2.below hJ).cell; have xX3 := (X3.below hJ).cell; go_simp; exact hK.out _ _ rfl (br _ _))
 rintro w8 hJ _ rfl _ rfl _ ⟨e1, K1, s1, M1, E1, K1b, s1b, M1b, E1b, rfl, v1⟩ _ ⟨_, _, rfl, _⟩ _ ⟨e2, K2, s2, M2, E2, K2b, s2b, M2b, E2b, rfl, v2⟩ -; simp only [Jo.z]; replace X2 := X2.below hJ; replace X3 := X3.below hJ; replace XR := XR.below hJ; replace hT := hT.below hJ; replace HB := Hqb HB hJ; have xXR := XR.cell; have zXR0 := XR.frozen
 refine Jo.jnext (i := 5) (o := ⟨none, _, _, _, _, _⟩) (by kernel_rfl) rfl (fun K hK => ?_)
 go_simp; refine hK.out _ _ ?_; clear hK K xXR zXR0; have SX := StN.mk9 XR (.bool e2) (.int .i64 K2) (.bool s2) (.int .u64 M2) (.int .i64 E2) (.int .i64 K2b) (.bool s2b) (.int .u64 M2b) (.int .i64 E2b); refine Jo.jdone (by kernel_rfl) ?_; go_wp2; exact bodyPost_ret (by simp [results, Tryz.results30, go_sem, SX.box.cell]) rfl ⟨_, _, _, _, _, _, _, _, _, rfl, v2, (SX.below HB.out (by omega))⟩
end Go.Proofs.YtnbliijpjcmbjaaGreatDoor
