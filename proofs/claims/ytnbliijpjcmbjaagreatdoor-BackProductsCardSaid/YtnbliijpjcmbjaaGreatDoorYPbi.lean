/-
 Contracts that the proof rests on.
-/
import Derived.Test.YtnbliijpjcmbjaaGreatDoorYPbh
namespace Go.Proofs.YtnbliijpjcmbjaaGreatDoor
set_option maxHeartbeats 8000000
open Go.RowKit
set_option linter.unusedVariables false
set_option linter.unusedSimpArgs false
set_option maxRecDepth 100000
theorem exb_one {s : Bool} {M : Int} (h1 : 9223372036854775808 ≤ M) : exb 1 s M 0 = true := by
 have : MayQ 1 s M 0 := Or.inr (Or.inl ⟨rfl, h1, by decide, by decide⟩)
 unfold exb
 rw [decide_eq_true this]
 rfl
theorem exq_one {s : Bool} {M : Int} (h1 : 9223372036854775808 ≤ M) (h2 : LQ M) : ∃ (α : Nat) (v : Nat), (exq 1 s M 0).1 = sgi s (α : Int) ∧ (exq 1 s M 0).2 = (v : Int) ∧ M = (α : Int) * 2 ^ v ∧ 0 < α ∧ α < 18446744073709551616 ∧ v < 64 := by
 obtain ⟨α, v, a, b, c, d, _, e, f⟩ := odd_part h1 h2
 have hx : exq 1 s M 0 = mk (sgi s M) 0 := by
   unfold exq
   rw [if_pos (exb_one h1)]
 refine ⟨α, v, ?_, ?_, c, d, e, f⟩
 · rw [hx]
   cases s
   · rw [wsg_f, wsg_f, a]
   · rw [wsg_t, wsg_t, mk_neg, a]
 · rw [hx]
   cases s
   · rw [wsg_f, b]
   · rw [wsg_t, mk_neg, b]
theorem wn_rd {w : World} {s t : Bool} {A : Option Addr} {n c α : Nat} (h : Wn w t A n c (sgi s (α : Int))) (h0 : 0 < α) : Rd w A n c α ∧ t = s := by
 have e : (sgi s (α : Int)).natAbs = α := by rw [sgi_abs s (by omega)]; omega
 have h1 := h.1.rd; rw [e] at h1; refine ⟨h1, ?_⟩; rw [h.2]
 cases s
 · rw [wsg_f]; exact decide_eq_false (by omega)
 · rw [wsg_t]; exact decide_eq_true (by omega)
theorem jDiv {w : World} {D D' M M' E E' : Int} {s s' : Bool} {up : Bool} {x y r : Int} (hM : LQ M) (hM' : LQ M') (hx : rk D s M E = x) (hy : rk D' s' M' E' = y) (hr : Qt up x y r) : Calls Tryz.prog 108 #[VQ D s M E, VQ D' s' M' E', .bool up] w (PN w r) := by
 delta VQ
 have HX := Lib.hid hx; have HY := Lib.hid hy; clear hx hy
 go_enter Tryz.func108, Tryz.ntmps108
 go_upto_region 1 with (fail)
 generalize hW1 : ((w.alloc _).alloc _).alloc _ = w1 at *; obtain ⟨X1, X2, XR, HB⟩ := Bo.en3 hW1; clear hW1; have xX1 := X1.cell
 go_wp2_with fail
 refine (gFair hM HX.out).mono ?_; rintro ee w2 ⟨K1, s1, M1, E1, rfl, q1, B⟩; clear xX1; replace X1 := X1.below B; replace X2 := X2.below B; replace XR := XR.below B; replace HB := Hqb HB B; clear B
 go_upto_region 2 with (fail)
 have lX7 := Nat.le_refl (World.heap w2).size; have nX7X1 := X1.lt; have nX7X2 := X2.lt; have nX7XR := XR.lt; generalize hWn : w2.alloc _ = w3 at *; obtain ⟨X7, BW⟩ := Bo.nw hWn; clear hWn; replace X1 := X1.below BW; replace X2 := X2.below BW; replace XR := XR.below BW; replace HB := Hqb HB BW; clear BW; have xX2 := X2.cell
 go_wp2_with fail
 refine (gFair hM' HY.out).mono ?_; rintro ee w4 ⟨K2, s2, M2, E2, rfl, q2, B⟩; clear xX2; replace X1 := X1.below B; replace X2 := X2.below B; replace XR := XR.below B; replace X7 := X7.below B; replace HB := Hqb HB B; clear B
 go_upto_region 3 with (fail)
 have lX8 := Nat.le_refl (World.heap w4).size; have nX8X1 := X1.lt; have nX8X2 := X2.lt; have nX8XR := XR.lt; have nX8X7 := X7.lt; generalize hWn : w4.alloc _ = w5 at *; obtain ⟨X8, BW⟩ := Bo.nw hWn; clear hWn; replace X1 := X1.below BW; replace X2 := X2.below BW; replace XR := XR.below BW; replace X7 := X7.below BW; replace HB := Hqb HB BW; clear BW; clear lX7 lX8 HX HY hM hM'; have i1 := fq_inf q1
 have i2 := fq_inf q2; have z1 := q1.zero_iff; have z2 := q2.zero_iff
 have kk1 : K1 = 2 ∨ K1 = 0 ∨ K1 = 1 := by rcases q1.cases with ⟨h, _⟩ | ⟨h, _⟩ | ⟨h, _⟩ <;> omega
 have kk2 : K2 = 2 ∨ K2 = 0 ∨ K2 = 1 := by rcases q2.cases with ⟨h, _⟩ | ⟨h, _⟩ | ⟨h, _⟩ <;> omega
 rcases kk1 with rfl | rfl | rfl
 · rcases kk2 with rfl | rfl | rfl
   · have hy0 : y ≠ 0 := fun c => absurd (z2.2 c) (by decide)
     have hr2 : r = 0 := (qt_zero hy0 (.inr i2)).1 hr
     subst hr2; clear i1 i2 z1 z2 q1 q2 hr hy0; have xXR := XR.cell; have zXR0 := XR.frozen; have xX7 := X7.cell; have xX8 := X8.cell; go_wp2; clear xXR zXR0 xX7 xX8; have SX := StN.mk4 XR (.int .i64 0) (.bool false) (.int .u64 0) (.int .i64 0); exact bodyPost_ret (by simp [results, Tryz.results108, go_sem, SX.box.cell]) rfl ⟨_, _, _, _, rfl, Fq.nought, (SX.below HB.out (by omega))⟩
   · have hr2 : sgi (!up) TP = r := by
       rw [z2.1 rfl] at hr; exact (qt_none'.1 hr).symm
     have HRR := Lib.hid hr2; clear i1 i2 z1 z2 q1 q2 hr hr2; have xX7 := X7.cell; have xX8 := X8.cell
     go_wp2_with fail
     refine (yInf (s := !up) HRR.out).mono ?_; rintro ee w6 ⟨K3, s3, M3, E3, rfl, q3, B⟩; clear xX7 xX8; replace XR := XR.below B; replace X7 := X7.below B; replace X8 := X8.below B; replace HB := Hqb HB B; clear B; have xXR := XR.cell; have zXR0 := XR.frozen; go_wp2; clear xXR zXR0; have SX := StN.mk4 XR (.int .i64 K3) (.bool s3) (.int .u64 M3) (.int .i64 E3)
     exact bodyPost_ret (by simp [results, Tryz.results108, go_sem, SX.box.cell]) rfl ⟨_, _, _, _, rfl, q3, (SX.below HB.out (by omega))⟩
   · have hy0 : y ≠ 0 := fun c => absurd (z2.2 c) (by decide)
     have hn : ¬ (x = 0 ∨ infp y = true) := by
       rw [i2]; rintro (c | c)
       · exact absurd (z1.2 c) (by decide)
       · exact absurd c (by decide)
     have sx : decide (x < 0) = s1 := by
       rcases q1.three with ⟨a, _⟩ | ⟨_, rfl, b⟩ | ⟨_, rfl, b⟩
       · exact absurd a (by decide)
       · exact decide_eq_false (by omega)
       · exact decide_eq_true b
     have sy : decide (y < 0) = s2 := by
       rcases q2.three with ⟨a, _⟩ | ⟨_, rfl, b⟩ | ⟨_, rfl, b⟩
       · exact absurd a (by decide)
       · exact decide_eq_false (by omega)
       · exact decide_eq_true b
     have hr2 : sgi (s1 != s2) TP = r := by
       have := (qt_inf hy0 hn i1).1 hr
       rw [sx, sy] at this; exact this.symm
     have HRR := Lib.hid hr2; clear i1 i2 z1 z2 q1 q2 hr hr2 sx sy hn hy0; have xX7 := X7.cell; have xX8 := X8.cell
     go_wp2_with fail
     refine (yInf (s := s1 != s2) HRR.out).mono ?_; rintro ee w6 ⟨K3, s3, M3, E3, rfl, q3, B⟩; clear xX7 xX8; replace XR := XR.below B; replace X7 := X7.below B; replace X8 := X8.below B; replace HB := Hqb HB B; clear B; have xXR := XR.cell; have zXR0 := XR.frozen; go_wp2; clear xXR zXR0; have SX := StN.mk4 XR (.int .i64 K3) (.bool s3) (.int .u64 M3) (.int .i64 E3)
     exact bodyPost_ret (by simp [results, Tryz.results108, go_sem, SX.box.cell]) rfl ⟨_, _, _, _, rfl, q3, (SX.below HB.out (by omega))⟩
 · rcases kk2 with rfl | rfl | rfl
   · have hy0 : y ≠ 0 := fun c => absurd (z2.2 c) (by decide)
     have hr2 : r = 0 := (qt_zero hy0 (.inl (z1.1 rfl))).1 hr
     subst hr2; clear i1 i2 z1 z2 q1 q2 hr hy0; have xXR := XR.cell; have zXR0 := XR.frozen; have xX7 := X7.cell; have xX8 := X8.cell; go_wp2; clear xXR zXR0 xX7 xX8; have SX := StN.mk4 XR (.int .i64 0) (.bool false) (.int .u64 0) (.int .i64 0); exact bodyPost_ret (by simp [results, Tryz.results108, go_sem, SX.box.cell]) rfl ⟨_, _, _, _, rfl, Fq.nought, (SX.below HB.out (by omega))⟩
   · have hr2 : sgi (!up) TP = r := by
       rw [z2.1 rfl] at hr; exact (qt_none'.1 hr).symm
     have HRR := Lib.hid hr2; clear i1 i2 z1 z2 q1 q2 hr hr2; have xX7 := X7.cell; have xX8 := X8.cell
     go_wp2_with fail
     refine (yInf (s := !up) HRR.out).mono ?_; rintro ee w6 ⟨K3, s3, M3, E3, rfl, q3, B⟩; clear xX7 xX8; replace XR := XR.below B; replace X7 := X7.below B; replace X8 := X8.below B; replace HB := Hqb HB B; clear B; have xXR := XR.cell; have zXR0 := XR.frozen; go_wp2; clear xXR zXR0; have SX := StN.mk4 XR (.int .i64 K3) (.bool s3) (.int .u64 M3) (.int .i64 E3)
     exact bodyPost_ret (by simp [results, Tryz.results108, go_sem, SX.box.cell]) rfl ⟨_, _, _, _, rfl, q3, (SX.below HB.out (by omega))⟩
   · have hy0 : y ≠ 0 := fun c => absurd (z2.2 c) (by decide)
     have hr2 : r = 0 := (qt_zero hy0 (.inl (z1.1 rfl))).1 hr
     subst hr2; clear i1 i2 z1 z2 q1 q2 hr hy0; have xXR := XR.cell; have zXR0 := XR.frozen; have xX7 := X7.cell; have xX8 := X8.cell; go_wp2; clear xXR zXR0 xX7 xX8; have SX := StN.mk4 XR (.int .i64 0) (.bool false) (.int .u64 0) (.int .i64 0); exact bodyPost_ret (by simp [results, Tryz.results108, go_sem, SX.box.cell]) rfl ⟨_, _, _, _, rfl, Fq.nought, (SX.below HB.out (by omega))⟩
 · rcases kk2 with rfl | rfl | rfl
   · have hy0 : y ≠ 0 := fun c => absurd (z2.2 c) (by decide)
     have hr2 : r = 0 := (qt_zero hy0 (.inr i2)).1 hr
     subst hr2; clear i1 i2 z1 z2 q1 q2 hr hy0; have xXR := XR.cell; have zXR0 := XR.frozen; have xX7 := X7.cell; have xX8 := X8.cell; go_wp2; clear xXR zXR0 xX7 xX8; have SX := StN.mk4 XR (.int .i64 0) (.bool false) (.int .u64 0) (.int .i64 0); exact bodyPost_ret (by simp [results, Tryz.results108, go_sem, SX.box.cell]) rfl ⟨_, _, _, _, rfl, Fq.nought, (SX.below HB.out (by omega))⟩
   · have hr2 : sgi (!up) TP = r := by
       rw [z2.1 rfl] at hr; exact (qt_none'.1 hr).symm
     have HRR := Lib.hid hr2; clear i1 i2 z1 z2 q1 q2 hr hr2; have xX7 := X7.cell; have xX8 := X8.cell
     go_wp2_with fail
     refine (yInf (s := !up) HRR.out).mono ?_; rintro ee w6 ⟨K3, s3, M3, E3, rfl, q3, B⟩; clear xX7 xX8; replace XR := XR.below B; replace X7 := X7.below B; replace X8 := X8.below B; replace HB := Hqb HB B; clear B; have xXR := XR.cell; have zXR0 := XR.frozen; go_wp2; clear xXR zXR0; have SX := StN.mk4 XR (.int .i64 K3) (.bool s3) (.int .u64 M3) (.int .i64 E3)
     exact bodyPost_ret (by simp [results, Tryz.results108, go_sem, SX.box.cell]) rfl ⟨_, _, _, _, rfl, q3, (SX.below HB.out (by omega))⟩
   · have hy0 : y ≠ 0 := fun c => absurd (z2.2 c) (by decide)
     have hn : ¬ (x = 0 ∨ infp y = true) := by
       rw [i2]; rintro (c | c)
       · exact absurd (z1.2 c) (by decide)
       · exact absurd c (by decide)
     obtain ⟨a1, a2, a3, a4, _⟩ := fq_vr q1; obtain ⟨b1, b2, b3, b4, _⟩ := fq_vr q2; obtain ⟨α, v, u1, u2, u3, u4, u5, u6⟩ := exq_one (s := s1) a1 a2; obtain ⟨β, v', t1, t2, t3, t4, t5, t6⟩ := exq_one (s := s2) b1 b2
     obtain ⟨r', hr'⟩ := sid_ex up (sgi (s1 != s2) ((α : Int) * 2 ^ (E1 - E2 + v - v' + (KK : Int)).toNat)) (show (0 : Int) < (β : Int) by omega)
     have hq := div_side q1 q2 u3 t3 t4 u6 t6 hr'; have hrr := hr.uniq hq; rw [← hrr] at hr'; obtain ⟨V, hV⟩ : ∃ V : Int, (v : Int) = V := ⟨_, rfl⟩; obtain ⟨V', hV'⟩ : ∃ V : Int, (v' : Int) = V := ⟨_, rfl⟩; rw [hV] at u2; rw [hV'] at t2; rw [hV, hV'] at hr'
     have w1_ : 0 ≤ V ∧ V < 64 ∧ 0 ≤ V' ∧ V' < 64 := by omega
     obtain ⟨e, he⟩ : ∃ e, E1 - E2 + V - V' = e := ⟨_, rfl⟩; rw [he] at hr'; have HXA := Lib.hid u1; have HXB := Lib.hid u2; have HYA := Lib.hid t1; have HYB := Lib.hid t2; have HEA := Lib.hid (exb_one (s := s1) a1); have HEB := Lib.hid (exb_one (s := s2) b1); have HRR := Lib.hid hr'
     have HW1 : Hid (IntKind.i64.wrap (E1 - E2) = E1 - E2) := Lib.hid (IntWalk.i64_in _ (by omega))
     have HW2 : Hid (IntKind.i64.wrap (E1 - E2 + V) = E1 - E2 + V) := Lib.hid (IntWalk.i64_in _ (by omega))
     have HW3 : Hid (IntKind.i64.wrap (E1 - E2 + V - V') = e) := Lib.hid (by rw [he]; exact IntWalk.i64_in _ (by omega))
     have hb1 : -2200000 ≤ e := by omega
     have hb2 : e ≤ 2200000 := by omega
     have m1 : 0 ≤ M1 := by omega
     have m2 : 0 ≤ M2 := by omega
     clear i1 i2 z1 z2 hr hn hy0 a1 a3 a4 b1 b3 b4 u1 u2 u3 u5 u6 t1 t2 t3 t5 t6 hq hrr hr' he hV hV' w1_ q1 q2; have xX7 := X7.cell; have xX8 := X8.cell
     go_wp2_with fail
     refine (yExact0 m1 a2 HEA.out HXA.out HXB.out).mono ?_; rintro ee w6 ⟨sa, Aa, na, ca, rfl, pa, ka, B⟩; clear xX7 xX8; replace XR := XR.below B; replace X7 := X7.below B; replace X8 := X8.below B; replace HB := Hqb HB B; clear B; obtain ⟨ra, hsa⟩ := wn_rd pa u4; subst hsa; clear pa
     go_upto_region 10 with (fail)
     have lX9 := Nat.le_refl (World.heap w6).size; have nX9XR := XR.lt; have nX9X7 := X7.lt; have nX9X8 := X8.lt; generalize hWn : w6.alloc _ = w7 at *; obtain ⟨X9, BW⟩ := Bo.nw hWn; clear hWn; replace XR := XR.below BW; replace X7 := X7.below BW; replace X8 := X8.below BW; replace ra := ra.below BW; replace HB := Hqb HB BW; clear BW; have xX7 := X7.cell; have xX8 := X8.cell
     go_wp2_with fail
     refine (yExact0 m2 b2 HEB.out HYA.out HYB.out).mono ?_; rintro ee w8 ⟨sb, Ab, nb, cb, rfl, pb, kb, B⟩; clear xX7 xX8; replace XR := XR.below B; replace X7 := X7.below B; replace X8 := X8.below B; replace X9 := X9.below B; replace ra := ra.below B; replace HB := Hqb HB B; clear B; obtain ⟨rb, hsb⟩ := wn_rd pb t4; subst hsb; clear pb
     go_upto_region 11 with (fail)
     have lX11 := Nat.le_refl (World.heap w8).size; have nX11XR := XR.lt; have nX11X7 := X7.lt; have nX11X8 := X8.lt; have nX11X9 := X9.lt; generalize hWn : w8.alloc _ = w9 at *; obtain ⟨X11, BW⟩ := Bo.nw hWn; clear hWn; replace XR := XR.below BW; replace X7 := X7.below BW; replace X8 := X8.below BW; replace X9 := X9.below BW; replace ra := ra.below BW; replace rb := rb.below BW; replace HB := Hqb HB BW
     clear BW; clear lX9 lX11; have xX7 := X7.cell; have xX8 := X8.cell; have xX9 := X9.cell; have xX11 := X11.cell; have hw1 := HW1.out; have hw2 := HW2.out; have hw3 := HW3.out
     go_wp2_with fail
     refine (jRatio0 ra rb (by omega) (by omega) hb1 hb2 t4 HRR.out).mono ?_; rintro ee wA ⟨K3, s3, M3, E3, rfl, q3, B⟩; clear xX7 xX8 xX9 xX11; replace XR := XR.below B; replace X7 := X7.below B; replace X8 := X8.below B; replace X9 := X9.below B; replace X11 := X11.below B; replace ra := ra.below B; replace rb := rb.below B; replace HB := Hqb HB B
     clear B; clear hw1 hw2 hw3; have xXR := XR.cell; have zXR0 := XR.frozen; go_wp2; clear xXR zXR0; have SX := StN.mk4 XR (.int .i64 K3) (.bool s3) (.int .u64 M3) (.int .i64 E3); exact bodyPost_ret (by simp [results, Tryz.results108, go_sem, SX.box.cell]) rfl ⟨_, _, _, _, rfl, q3, (SX.below HB.out (by omega))⟩
theorem Nl.of4 {w : World} {g : Nat} {K1 K2 K3 K4 M1 M2 M3 M4 E1 E2 E3 E4 r1 r2 r3 r4 : Int} {s1 s2 s3 s4 : Bool} (X : Bo w g #[.int .i64 K1, .bool s1, .int .u64 M1, .int .i64 E1, .int .i64 K2, .bool s2, .int .u64 M2, .int .i64 E2, .int .i64 K3, .bool s3, .int .u64 M3, .int .i64 E3, .int .i64 K4, .bool s4, .int .u64 M4, .int .i64 E4] 24)
   (q1 : Fq K1 s1 M1 E1 r1) (q2 : Fq K2 s2 M2 E2 r2) (q3 : Fq K3 s3 M3 E3 r3) (q4 : Fq K4 s4 M4 E4 r4) : Nl w (some ⟨g, 0, none⟩) 4 4 [r1, r2, r3, r4] := by
 refine ⟨rfl, Nat.le_refl _, by decide, fun _ => ⟨_, 0, rfl, fun k hk => ?_⟩⟩
 rcases (by omega : k = 0 ∨ k = 1 ∨ k = 2 ∨ k = 3) with rfl | rfl | rfl | rfl
 · exact ⟨K1, s1, M1, E1, X.at rfl, X.at rfl, X.at rfl, X.at rfl, q1.top, q1.rk⟩
 · exact ⟨K2, s2, M2, E2, X.at rfl, X.at rfl, X.at rfl, X.at rfl, q2.top, q2.rk⟩
 · exact ⟨K3, s3, M3, E3, X.at rfl, X.at rfl, X.at rfl, X.at rfl, q3.top, q3.rk⟩
 · exact ⟨K4, s4, M4, E4, X.at rfl, X.at rfl, X.at rfl, X.at rfl, q4.top, q4.rk⟩
theorem mnp_four {a b c d : Int} (ha : a ≤ 19342822337206103650074625) : mnp [a, b, c, d] = min (min a b) (min c d) := by
 have := TP_eq
 show min (min (min (min TP a) b) c) d = _
 omega
theorem mxp_four {a b c d : Int} (ha : -19342822337206103650074625 ≤ a) : mxp [a, b, c, d] = max (max a b) (max c d) := by
 have := TP_eq
 show max (max (max (max (-TP) a) b) c) d = _
 omega
def Jo.Fact.s1 (r : Int) : Jo.Fact := ⟨fun v w => ∃ g K s M E, v = .slice (some ⟨g, 0, none⟩) 1 1 ∧ Bo w g #[.int .i64 K, .bool s, .int .u64 M, .int .i64 E] 24 ∧ Fq K s M E r, fun v w w' h b => by
 obtain ⟨g, K, s, M, E, e, X, q⟩ := h; exact ⟨g, K, s, M, E, e, X.below b, q⟩⟩
theorem step_na {w : World} {base n c : Nat} {A : Option Addr} {l : List Int} {ops : Array Oper} {o : Oper} {a : Act} {K : Act → World → Prop} {Q : Exit → Act → World → Prop} (hgd : o.guard = none) (s x : Operand)
   (ho : o.op = .call { callee := .builtin .append, args := #[s, x], argTypes := #[54, 54] }) {g : Nat} {D M E p : Int} {b : Bool}
   (hs : a.eval s = .slice A n c) (hx : a.eval x = .slice (some ⟨g, 0, none⟩) 1 1) (h : Na w base A n c l) (q : Fq D b M E p) (X : Bo w g #[.int .i64 D, .bool b, .int .u64 M, .int .i64 E] 24) (hn : n + 1 ≤ 1099511627776) (hb : base ≤ w.heap.size)
   (hK : ∀ A2 c2 w', Na w' base A2 (n + 1) c2 (l ++ [p]) → w.grownBy w' (ownA A) → (ownA A2 = ownA A ∨ ownA A2 = some w.heap.size) → K (a.put o.dst (.slice A2 (n + 1) c2)) w') :
   if Region.wanted o (yielded ops a.tmps) = true then Oper.wp Tryz.prog o a w K Q else K (a.put o.dst undef) w := by
 have e : Region.wanted o (yielded ops a.tmps) = true := by
   unfold Region.wanted
   rw [hgd]
 rw [if_pos e]; obtain ⟨A2, c2, w', hr, h1, h2, h3⟩ := run_na (ty := o.type) h q X hn hb
 unfold Oper.wp execOp
 simp only [ho, resolve, invoke, builtin, Sem.run_bind, Sem.run_pure, Result.andThen_ok, List.map_toArray, List.map_cons, List.map_nil, hs, hx, hr]; exact hK A2 c2 w' h1 h2 h3
theorem take4 {l : List Int} {k : Nat} (h : k < l.length) : l.take (k + 1) = l.take k ++ [l.getD k 0] := by
 rw [List.take_succ_eq_append_getElem h]
 simp [List.getD_eq_getElem?_getD, h]
def four (f : Bool → Int → Int → Int) (up : Bool) (a b c d : Int) : List Int := [f up a c, f up a d, f up b c, f up b d]
theorem four_at {f : Bool → Int → Int → Int} {up : Bool} {a b c d x y : Int} {k : Nat} (hk : k < 4) (hx : [a, a, b, b].getD k 0 = x) (hy : [c, d, c, d].getD k 0 = y) : (four f up a b c d).getD k 0 = f up x y := by
 subst hx; subst hy
 rcases (by omega : k = 0 ∨ k = 1 ∨ k = 2 ∨ k = 3) with rfl | rfl | rfl | rfl <;> rfl
theorem four_cor {f : Bool → Int → Int → Int} {a b c d : Int} (h1 : f false a c ≤ 19342822337206103650074625) (h2 : -19342822337206103650074625 ≤ f true a c) : mkI (mnp (four f false a b c d)) (mxp (four f true a b c d)) = cor f a b c d := by
 unfold four cor
 rw [mnp_four h1, mxp_four h2]
theorem fwMul {w : World} {e : Bool} {D M E D' M' E' : Int} {s s' : Bool} {e2 : Bool} {G P Q G' P' Q' : Int} {g g' : Bool} {x y z : Sp} (hM : LQ M) (hM' : LQ M') (hP : LQ P) (hP' : LQ P') (hx : rkI e D s M E D' s' M' E' = x) (hy : rkI e2 G g P Q G' g' P' Q' = y) (hr : mulI x y = z) : Calls Tryz.prog 47 #[VI e D s M E D' s' M' E', VI e2 G g P Q G' g' P' Q'] w (PV w z) := by
 delta VI
 have HX := Lib.hid hx; have HY := Lib.hid hy; clear hx hy
 go_enter Tryz.func47, Tryz.ntmps47
 go_upto_region 1 with (fail)
 generalize hW1 : ((w.alloc _).alloc _).alloc _ = w1 at *; obtain ⟨X2, X3, XR, HB⟩ := Bo.en3 hW1; clear hW1; have xX2 := X2.cell
 go_wp2_with fail
 refine (jvFair hM hM' HX.out).mono ?_; rintro ee w2 ⟨e1, K1, s1, M1, E1, K1b, s1b, M1b, E1b, rfl, v1, B⟩; clear xX2; replace X2 := X2.below B; replace X3 := X3.below B; replace XR := XR.below B; replace HB := Hqb HB B; clear B
 go_upto_region 2 with (fail)
 have lX5 := Nat.le_refl (World.heap w2).size; have nX5X2 := X2.lt; have nX5X3 := X3.lt; have nX5XR := XR.lt; generalize hWn : w2.alloc _ = w3 at *; obtain ⟨X5, BW⟩ := Bo.nw hWn; clear hWn; replace X2 := X2.below BW; replace X3 := X3.below BW; replace XR := XR.below BW; replace HB := Hqb HB BW; clear BW; clear lX5; have xX3 := X3.cell
 go_wp2_with fail
 refine (jvFair hP hP' HY.out).mono ?_; rintro ee w4 ⟨e2, K2, s2, M2, E2, K2b, s2b, M2b, E2b, rfl, v2, B⟩; clear xX3; replace X2 := X2.below B; replace X3 := X3.below B; replace XR := XR.below B; replace X5 := X5.below B; replace HB := Hqb HB B; clear B
 go_upto_region 3 with (fail)
 have lX6 := Nat.le_refl (World.heap w4).size; have nX6X2 := X2.lt; have nX6X3 := X3.lt; have nX6XR := XR.lt; have nX6X5 := X5.lt; generalize hWn : w4.alloc _ = w5 at *; obtain ⟨X6, BW⟩ := Bo.nw hWn; clear hWn; replace X2 := X2.below BW; replace X3 := X3.below BW; replace XR := XR.below BW; replace X5 := X5.below BW; replace HB := Hqb HB BW; clear BW; clear lX6; clear HX HY hM hM' hP hP'
 rcases x with _ | ⟨xa, xb⟩
 · obtain ⟨rfl, y1, y1b⟩ := v1
   obtain rfl : none = z := hr
   have xX5 := X5.cell; have xX6 := X6.cell
   go_wp2_with fail
   refine (jvNoneE).mono ?_; rintro ee w7 ⟨rfl, B⟩; clear xX5 xX6; replace XR := XR.below B; replace X5 := X5.below B; replace X6 := X6.below B; replace HB := Hqb HB B; clear B; have xXR := XR.cell; have zXR0 := XR.frozen; go_wp2; clear xXR zXR0
   have SX := StN.mk9 XR (.bool true) (.int .i64 0) (.bool false) (.int .u64 0) (.int .i64 0) (.int .i64 0) (.bool false) (.int .u64 0) (.int .i64 0); exact bodyPost_ret (by simp [results, Tryz.results47, go_sem, SX.box.cell]) rfl ⟨_, _, _, _, _, _, _, _, _, rfl, Ci.none, (SX.below HB.out (by omega))⟩
 · obtain ⟨rfl, a1, b1, o1, o1l, o1h⟩ := v1
   rcases y with _ | ⟨ya, yb⟩
   · obtain ⟨rfl, y2, y2b⟩ := v2; clear o1 o1l o1h
     obtain rfl : none = z := hr
     have xX5 := X5.cell; have xX6 := X6.cell
     go_wp2_with fail
     refine (jvNoneE).mono ?_; rintro ee w7 ⟨rfl, B⟩; clear xX5 xX6; replace XR := XR.below B; replace X5 := X5.below B; replace X6 := X6.below B; replace HB := Hqb HB B; clear B; have xXR := XR.cell; have zXR0 := XR.frozen; go_wp2; clear xXR zXR0
     have SX := StN.mk9 XR (.bool true) (.int .i64 0) (.bool false) (.int .u64 0) (.int .i64 0) (.int .i64 0) (.bool false) (.int .u64 0) (.int .i64 0); exact bodyPost_ret (by simp [results, Tryz.results47, go_sem, SX.box.cell]) rfl ⟨_, _, _, _, _, _, _, _, _, rfl, Ci.none, (SX.below HB.out (by omega))⟩
   · obtain ⟨rfl, a2, b2, o2, o2l, o2h⟩ := v2
     have HF : mulp false xa ya ≤ 19342822337206103650074625 ∧ -19342822337206103650074625 ≤ mulp true xa ya := ⟨(mulp_bd false).2, (mulp_bd true).1⟩
     replace hr : cor mulp xa xb ya yb = z := hr
     clear o1 o1l o1h o2 o2l o2h; have xX5 := X5.cell; have xX6 := X6.cell
     go_upto_region 5 with (fail)
     clear xX5 xX6; have xX5 := X5.cell
     go_upto_region 6 with (fail)
     clear xX5; have lX7 := Nat.le_refl (World.heap w5).size; have nX7XR := XR.lt; have nX7X5 := X5.lt; have nX7X6 := X6.lt; generalize hWn : w5.alloc _ = w6 at *; obtain ⟨X7, BW⟩ := Bo.nw hWn; clear hWn; replace XR := XR.below BW; replace X5 := X5.below BW; replace X6 := X6.below BW; replace HB := Hqb HB BW; clear BW; clear lX7; have xX6 := X6.cell
     go_upto_region 7 with (fail)
     clear xX6; have lX8 := Nat.le_refl (World.heap w6).size; have nX8XR := XR.lt; have nX8X5 := X5.lt; have nX8X6 := X6.lt; have nX8X7 := X7.lt; generalize hWn : w6.alloc _ = w7 at *; obtain ⟨X8, BW⟩ := Bo.nw hWn; clear hWn; replace XR := XR.below BW; replace X5 := X5.below BW; replace X6 := X6.below BW; replace X7 := X7.below BW; replace HB := Hqb HB BW
     clear BW; clear lX8; have P := Nl.of4 X7 a1 a1 b1 b1; have R := Nl.of4 X8 a2 b2 a2 b2; generalize w5.heap.size = g7 at *; generalize w6.heap.size = g8 at *; clear X7 X8 nX7XR nX8XR nX8X7; go_wp2
     go_loopw [9, 10, 11] (fun va vb i wr => ∃ k A1 B1 c1 d1, k ≤ 4 ∧ va = .slice A1 k c1 ∧ vb = .slice B1 k d1 ∧ i = .int .i64 ((k : Nat) : Int) ∧ EInv w7 A1 B1 k c1 d1 ((four mulp false xa xb ya yb).take k) ((four mulp true xa xb ya yb).take k) wr) (fun _ _ i _ => 4 - (intOf i).toNat)
     case atStart => exact ⟨0, _, _, _, _, Nat.zero_le _, rfl, rfl, rfl, Na.nil _ _, Na.nil _ _, (fun k h => by cases h), Below.refl _ _⟩
     case round =>
       obtain ⟨k, A1, B1, c1, d1, hk, rfl, rfl, rfl, N1, N2, hne, hB⟩ := hrel; have HB0 := HB; replace HB := Lib.hid hB; clear hB
       by_cases hlt : k < 4
       · have tlt : decide ((k : Int) < (4 : Int)) = true := by simp; omega
         obtain ⟨b, o, hp, hcell⟩ := P.2.2.2 (by omega); obtain ⟨D, s, M, E, x0, x1, x2, x3, hM, hx⟩ := hcell k hlt; obtain ⟨b', o', hp', hcell'⟩ := R.2.2.2 (by omega); obtain ⟨D', s', M', E', y0, y1, y2, y3, hM', hy⟩ := hcell' k hlt
         obtain ⟨rfl, rfl⟩ : b = g7 ∧ o = 0 := by injection hp with h; injection h with h1 h2; exact ⟨h1.symm, h2.symm⟩
         obtain ⟨rfl, rfl⟩ : b' = g8 ∧ o' = 0 := by injection hp' with h; injection h with h1 h2; exact ⟨h1.symm, h2.symm⟩
         clear hcell hcell' hp hp'; simp only [Nat.zero_add] at x0 x1 x2 x3 y0 y1 y2 y3
         have i1 : (k : Int) < 4 := by omega
         have i2 : (0 : Int) ≤ k := by omega
         obtain ⟨x, hX⟩ : ∃ x, rk D s M E = x := ⟨_, rfl⟩; obtain ⟨y, hY⟩ : ∃ y, rk D' s' M' E' = y := ⟨_, rfl⟩; rw [hX] at hx; rw [hY] at hy; obtain ⟨u, hu⟩ : ∃ u, mulp false x y = u := ⟨_, rfl⟩; obtain ⟨v, hv⟩ : ∃ v, mulp true x y = v := ⟨_, rfl⟩
         have t1 : (four mulp false xa xb ya yb).take (k + 1) = (four mulp false xa xb ya yb).take k ++ [u] := by rw [take4 hlt, four_at hlt hx.symm hy.symm, hu]
         have t2 : (four mulp true xa xb ya yb).take (k + 1) = (four mulp true xa xb ya yb).take k ++ [v] := by rw [take4 hlt, four_at hlt hx.symm hy.symm, hv]
         generalize (four mulp false xa xb ya yb).take k = la at *; generalize (four mulp true xa xb ya yb).take k = lb at *; have HXX := Lib.hid hX; have HYY := Lib.hid hY; have HU := Lib.hid hu; have HV := Lib.hid hv; have HT1 := Lib.hid t1; have HT2 := Lib.hid t2; have HNE := Lib.hid hne; clear hX hY hu hv t1 t2 hne hx hy P R
         go_upto_region 12 with (fail)
         refine Jo.rk [0, 1, 2, 3, 4, 5, 6, 7, 8, 9, 10] [some 45, some 46, some 47, some 48, some 49, some 50, some 51, some 52, some 53, some 54, some 55, some 56, some 9] [[], [], [], [1, 2], [3], [], [], [5, 6], [7], [4, 8], [9], [], []] 13 2 [Jo.Fact.eq (.slice A1 k c1), Jo.Fact.eq (.slice (some ⟨b, 0, none⟩) 4 4), Jo.qi k, Jo.Fact.eq (.pointer (some ⟨b, k * 4, none⟩)), Jo.q4 D s M E, Jo.Fact.eq (.slice (some ⟨b', 0, none⟩) 4 4), Jo.qi k, Jo.Fact.eq (.pointer (some ⟨b', k * 4, none⟩)), Jo.q4 D' s' M' E', Jo.Fact.num u, Jo.Fact.s1 u, Jo.Fact.any, Jo.Fact.any] (by kernel_rfl) (by kernel_rfl) (by decide) rfl ?_ ?_
         · iterate 3 (refine Jo.jm rfl ?_ ?_; rotate_left)
           refine Jo.jm rfl ?_ ?_
           · rintro wj hJ _ rfl _ rfl K hK; simp only [Jo.z] at hK ⊢; go_simp
             exact hK.out _ _ (show Value.pointer _ = Value.pointer _ by simp) (br _ _)
           refine Jo.jm rfl ?_ ?_
           · rintro wj hJ _ rfl K hK; simp only [Jo.z] at hK ⊢
             have x0' := ((bt HB.out hJ).cell (p := ⟨b, _, none⟩) (block_lt_of_cell x0)).trans x0
             have x1' := ((bt HB.out hJ).cell (p := ⟨b, _, none⟩) (block_lt_of_cell x1)).trans x1
             have x2' := ((bt HB.out hJ).cell (p := ⟨b, _, none⟩) (block_lt_of_cell x2)).trans x2
             have x3' := ((bt HB.out hJ).cell (p := ⟨b, _, none⟩) (block_lt_of_cell x3)).trans x3
             go_simp; exact hK.out _ _ rfl (br _ _)
           iterate 2 (refine Jo.jm rfl ?_ ?_; rotate_left)
           refine Jo.jm rfl ?_ ?_
           · rintro wj hJ _ rfl _ rfl K hK; simp only [Jo.z] at hK ⊢; go_simp
             exact hK.out _ _ (show Value.pointer _ = Value.pointer _ by simp) (br _ _)
           refine Jo.jm rfl ?_ ?_
           · rintro wj hJ _ rfl K hK; simp only [Jo.z] at hK ⊢
             have y0' := ((bt HB.out hJ).cell (p := ⟨b', _, none⟩) (block_lt_of_cell y0)).trans y0
             have y1' := ((bt HB.out hJ).cell (p := ⟨b', _, none⟩) (block_lt_of_cell y1)).trans y1
             have y2' := ((bt HB.out hJ).cell (p := ⟨b', _, none⟩) (block_lt_of_cell y2)).trans y2
             have y3' := ((bt HB.out hJ).cell (p := ⟨b', _, none⟩) (block_lt_of_cell y3)).trans y3
             go_simp; exact hK.out _ _ rfl (br _ _)
           refine Jo.jm rfl ?_ ?_
           · rintro wj hJ _ rfl _ rfl K hK; simp only [Jo.z] at hK ⊢; go_simp; refine (gMul hM hM' HXX.out HYY.out HU.out).mono ?_; rintro ee wk ⟨K20, s20, M20, E20, rfl, q20, B⟩; exact hK.out _ _ ⟨K20, s20, M20, E20, rfl, q20⟩ B
           refine Jo.jm rfl ?_ ?_
           · rintro wj hJ _ ⟨K20, s20, M20, E20, rfl, q20⟩ K hK; simp only [Jo.z] at hK ⊢; go_simp; exact hK.out _ _ ⟨_, K20, s20, M20, E20, rfl, Bo.new _ _ _, q20⟩ (bel1 _ _)
           exact Jo.Steps.nil
           all_goals (rintro wj hJ; (repeat rintro _ rfl); intro K hK; simp only [Jo.z] at hK ⊢; go_simp; exact hK.out _ _ rfl (br _ _))
         rintro w8 hJ _ rfl _ rfl _ rfl _ _ _ rfl _ rfl _ rfl _ _ _ rfl _ ⟨K20, s20, M20, E20, rfl, q20⟩ _ ⟨g21, K21, s21, M21, E21, rfl, X21, q21⟩ -; simp only [Jo.z]; replace N1 := N1.below hJ; replace N2 := N2.below hJ; replace HB := Hqb HB hJ
         refine Jo.jnext (i := 11) (o := ⟨some 56, _, _, _, _, _⟩) (by kernel_rfl) rfl (fun K hK => ?_)
         refine step_na rfl _ _ rfl rfl rfl N1 q21 X21 (by omega) HB.out.size ?_
         intro A2 e2 w9 N21 G21 at1
         refine hK.out _ _ ?_; clear hK K; simp only [Act.put, List.setIfInBounds_toArray, List.set_cons_zero, List.set_cons_succ]
         refine Jo.jnext (i := 12) (o := ⟨some 9, _, _, _, _, _⟩) (by kernel_rfl) rfl (fun K hK => ?_)
         go_simp; refine hK.out _ _ ?_; clear hK K; refine Jo.jdone (by kernel_rfl) ?_
         have l1 : ∀ k, ownA B1 = some k → k < w8.heap.size := fun k hk => (N2.own_lt k hk).2
         replace HB := Lib.hid (HB.out.grown G21 HB.out.size (fun k hk => (N1.own_lt k hk).1))
         replace N2 := N2.kept G21 (own_ne HNE.out); clear N1 G21 X21 q21
         go_upto_region 13 with (fail)
         refine Jo.rk [0, 1, 2, 3, 4, 5, 6, 7, 8, 9, 10] [some 57, some 58, some 59, some 60, some 61, some 62, some 63, some 64, some 65, some 66, some 67, some 68, some 10] [[], [], [], [1, 2], [3], [], [], [5, 6], [7], [4, 8], [9], [], []] 13 2 [Jo.Fact.eq (.slice B1 k d1), Jo.Fact.eq (.slice (some ⟨b, 0, none⟩) 4 4), Jo.qi k, Jo.Fact.eq (.pointer (some ⟨b, k * 4, none⟩)), Jo.q4 D s M E, Jo.Fact.eq (.slice (some ⟨b', 0, none⟩) 4 4), Jo.qi k, Jo.Fact.eq (.pointer (some ⟨b', k * 4, none⟩)), Jo.q4 D' s' M' E', Jo.Fact.num v, Jo.Fact.s1 v, Jo.Fact.any, Jo.Fact.any] (by kernel_rfl) (by kernel_rfl) (by decide) rfl ?_ ?_
         · iterate 3 (refine Jo.jm rfl ?_ ?_; rotate_left)
           refine Jo.jm rfl ?_ ?_
           · rintro wj hJ _ rfl _ rfl K hK; simp only [Jo.z] at hK ⊢; go_simp
             exact hK.out _ _ (show Value.pointer _ = Value.pointer _ by simp) (br _ _)
           refine Jo.jm rfl ?_ ?_
           · rintro wj hJ _ rfl K hK; simp only [Jo.z] at hK ⊢
             have x0' := ((bt HB.out hJ).cell (p := ⟨b, _, none⟩) (block_lt_of_cell x0)).trans x0
             have x1' := ((bt HB.out hJ).cell (p := ⟨b, _, none⟩) (block_lt_of_cell x1)).trans x1
             have x2' := ((bt HB.out hJ).cell (p := ⟨b, _, none⟩) (block_lt_of_cell x2)).trans x2
             have x3' := ((bt HB.out hJ).cell (p := ⟨b, _, none⟩) (block_lt_of_cell x3)).trans x3
             go_simp; exact hK.out _ _ rfl (br _ _)
           iterate 2 (refine Jo.jm rfl ?_ ?_; rotate_left)
           refine Jo.jm rfl ?_ ?_
           · rintro wj hJ _ rfl _ rfl K hK; simp only [Jo.z] at hK ⊢; go_simp
             exact hK.out _ _ (show Value.pointer _ = Value.pointer _ by simp) (br _ _)
           refine Jo.jm rfl ?_ ?_
           · rintro wj hJ _ rfl K hK; simp only [Jo.z] at hK ⊢
             have y0' := ((bt HB.out hJ).cell (p := ⟨b', _, none⟩) (block_lt_of_cell y0)).trans y0
             have y1' := ((bt HB.out hJ).cell (p := ⟨b', _, none⟩) (block_lt_of_cell y1)).trans y1
             have y2' := ((bt HB.out hJ).cell (p := ⟨b', _, none⟩) (block_lt_of_cell y2)).trans y2
             have y3' := ((bt HB.out hJ).cell (p := ⟨b', _, none⟩) (block_lt_of_cell y3)).trans y3
             go_simp; exact hK.out _ _ rfl (br _ _)
           refine Jo.jm rfl ?_ ?_
           · rintro wj hJ _ rfl _ rfl K hK; simp only [Jo.z] at hK ⊢; go_simp; refine (gMul hM hM' HXX.out HYY.out HV.out).mono ?_; rintro ee wk ⟨K20, s20, M20, E20, rfl, q20, B⟩; exact hK.out _ _ ⟨K20, s20, M20, E20, rfl, q20⟩ B
           refine Jo.jm rfl ?_ ?_
           · rintro wj hJ _ ⟨K20, s20, M20, E20, rfl, q20⟩ K hK; simp only [Jo.z] at hK ⊢; go_simp; exact hK.out _ _ ⟨_, K20, s20, M20, E20, rfl, Bo.new _ _ _, q20⟩ (bel1 _ _)
           exact Jo.Steps.nil
           all_goals (rintro wj hJ; (repeat rintro _ rfl); intro K hK; simp only [Jo.z] at hK ⊢; go_simp; exact hK.out _ _ rfl (br _ _))
         rintro wA hJ _ rfl _ rfl _ rfl _ _ _ rfl _ rfl _ rfl _ _ _ rfl _ ⟨K20, s20, M20, E20, rfl, q20⟩ _ ⟨g22, K22, s22, M22, E22, rfl, X22, q22⟩ -; simp only [Jo.z]; replace N21 := N21.below hJ; replace N2 := N2.below hJ; replace HB := Hqb HB hJ
         refine Jo.jnext (i := 11) (o := ⟨some 68, _, _, _, _, _⟩) (by kernel_rfl) rfl (fun K hK => ?_)
         refine step_na rfl _ _ rfl rfl rfl N2 q22 X22 (by omega) HB.out.size ?_
         intro B2 e3 wB N22 G22 at2
         refine hK.out _ _ ?_; clear hK K; simp only [Act.put, List.setIfInBounds_toArray, List.set_cons_zero, List.set_cons_succ]
         refine Jo.jnext (i := 12) (o := ⟨some 10, _, _, _, _, _⟩) (by kernel_rfl) rfl (fun K hK => ?_)
         go_simp; refine hK.out _ _ ?_; clear hK K; refine Jo.jdone (by kernel_rfl) ?_
         have lA : ∀ k, ownA A2 = some k → k < wA.heap.size := fun k hk => (N21.own_lt k hk).2
         have hne2 : ∀ k, ownA A2 = some k → ownA B2 ≠ some k := ne_row HNE.out at1 at2 l1 lA
         have hne1 : ∀ k, ownA A2 = some k → ownA B1 ≠ some k := ne_row HNE.out at1 (.inl rfl) l1 lA
         replace HB := Lib.hid (HB.out.grown G22 HB.out.size (fun k hk => (N2.own_lt k hk).1))
         replace N21 := N21.kept G22 (own_ne' hne1); have t1 := HT1.out; have t2 := HT2.out; clear G22 X22 q22 N2 l1 lA at1 at2 hne1 HT1 HT2 HU HV HXX HYY HNE x0 x1 x2 x3 y0 y1 y2 y3; go_wp2
         go_roundw
         case rel => exact ⟨k + 1, _, _, _, _, by omega, rfl, rfl, by go_num, by rw [t1]; exact N21, by rw [t2]; exact N22, hne2, HB.out⟩
         case measure => simp [intOf]; omega
       · obtain rfl : k = 4 := by omega
         have tlt : decide (((4 : Nat) : Int) < (4 : Int)) = false := by simp
         have e1 : (four mulp false xa xb ya yb).take 4 = four mulp false xa xb ya yb := rfl
         have e2 : (four mulp true xa xb ya yb).take 4 = four mulp true xa xb ya yb := rfl
         rw [e1] at N1; rw [e2] at N2; have L1 := N1.nl (by omega); have L2 := N2.nl (by omega); have hc := hr; rw [← four_cor HF.1 HF.2] at hc; obtain ⟨u, hu⟩ : ∃ u, mnp (four mulp false xa xb ya yb) = u := ⟨_, rfl⟩; obtain ⟨v, hv⟩ : ∃ v, mxp (four mulp true xa xb ya yb) = v := ⟨_, rfl⟩; rw [hu, hv] at hc; have HU := Lib.hid hu; have HV := Lib.hid hv; have HR := Lib.hid hc; replace XR := XR.below HB.out
         replace HB := Lib.hid (bt HB0.out HB.out); clear hu hv hc hr N1 N2 e1 e2 hne HB0 P R HF
         go_wp2_with fail
         refine (yLeast L1 HU.out).mono ?_; rintro ee wC ⟨K23, s23, M23, E23, rfl, q23, B⟩; replace XR := XR.below B; replace L1 := L1.below B; replace L2 := L2.below B; replace HB := Hqb HB B; clear B
         go_wp2_with fail
         refine (yMost L2 HV.out).mono ?_; rintro ee wD ⟨K24, s24, M24, E24, rfl, q24, B⟩; replace XR := XR.below B; replace L1 := L1.below B; replace L2 := L2.below B; replace HB := Hqb HB B; clear B
         go_wp2_with fail
         refine (jvMake q23.top q24.top q23.rk q24.rk HR.out).mono ?_; rintro ee wE ⟨e25, K25, s25, M25, E25, K25b, s25b, M25b, E25b, rfl, v25, B⟩; replace XR := XR.below B; replace L1 := L1.below B; replace L2 := L2.below B; replace HB := Hqb HB B; clear B; clear L1 L2; have xXR := XR.cell; have zXR0 := XR.frozen; go_wp2; clear xXR zXR0
         have SX := StN.mk9 XR (.bool e25) (.int .i64 K25) (.bool s25) (.int .u64 M25) (.int .i64 E25) (.int .i64 K25b) (.bool s25b) (.int .u64 M25b) (.int .i64 E25b); exact bodyPost_ret (by simp [results, Tryz.results47, go_sem, SX.box.cell]) rfl ⟨_, _, _, _, _, _, _, _, _, rfl, v25, (SX.below HB.out (by omega))⟩
theorem fwWhole {w : World} {K1 M1 E1 K1b M1b E1b K2 M2 E2 K2b M2b E2b : Int} {s1 s1b s2 s2b : Bool} {xa xb ya yb : Int} {z : Sp} {q : Bool → Int → Int → Int} (hq : QF q) (v1 : Ci false K1 s1 M1 E1 K1b s1b M1b E1b (some (xa, xb))) (v2 : Ci false K2 s2 M2 E2 K2b s2b M2b E2b (some (ya, yb))) (hc : ¬ (ya ≤ 0 ∧ 0 ≤ yb)) (hr : cor q xa xb ya yb = z) : Calls Tryz.prog 105 #[VI false K1 s1 M1 E1 K1b s1b M1b E1b, VI false K2 s2 M2 E2 K2b s2b M2b E2b] w (PV w z) := by
 delta VI
 obtain ⟨_, a1, b1, o1, o1l, o1h⟩ := v1; obtain ⟨_, a2, b2, o2, o2l, o2h⟩ := v2
 have HF : q false xa ya ≤ 19342822337206103650074625 ∧ -19342822337206103650074625 ≤ q true xa ya := ⟨(hq.in _ _ _).2, (hq.in _ _ _).1⟩
 have HQ : ∀ up x y, Hid (Qt up x y (q up x y)) := fun up x y => Lib.hid (hq up x y)
 clear o1 o1l o1h o2 o2l o2h hc hq
 go_enter Tryz.func105, Tryz.ntmps105
 go_upto_region 1 with (fail)
 generalize hW1 : ((w.alloc _).alloc _).alloc _ = w1 at *; obtain ⟨X5, X6, XR, HB⟩ := Bo.en3 hW1; clear hW1; have xX5 := X5.cell
 go_upto_region 2 with (fail)
 clear xX5; have lX7 := Nat.le_refl (World.heap w1).size; have nX7X5 := X5.lt; have nX7X6 := X6.lt; have nX7XR := XR.lt; generalize hWn : w1.alloc _ = w6 at *; obtain ⟨X7, BW⟩ := Bo.nw hWn; clear hWn; replace X5 := X5.below BW; replace X6 := X6.below BW; replace XR := XR.below BW; replace HB := Hqb HB BW; clear BW; clear lX7; have xX6 := X6.cell
 go_upto_region 3 with (fail)
 clear xX6; have lX8 := Nat.le_refl (World.heap w6).size; have nX8X5 := X5.lt; have nX8X6 := X6.lt; have nX8XR := XR.lt; have nX8X7 := X7.lt; generalize hWn : w6.alloc _ = w7 at *; obtain ⟨X8, BW⟩ := Bo.nw hWn; clear hWn; replace X5 := X5.below BW; replace X6 := X6.below BW; replace XR := XR.below BW; replace X7 := X7.below BW; replace HB := Hqb HB BW
 clear BW; clear lX8; have P := Nl.of4 X7 a1 a1 b1 b1; have R := Nl.of4 X8 a2 b2 a2 b2; generalize w1.heap.size = g7 at *; generalize w6.heap.size = g8 at *; clear X7 X8 nX7XR nX8XR nX8X7; go_wp2
 go_loopw [7, 8, 9] (fun va vb i wr => ∃ k A1 B1 c1 d1, k ≤ 4 ∧ va = .slice A1 k c1 ∧ vb = .slice B1 k d1 ∧ i = .int .i64 ((k : Nat) : Int) ∧ EInv w7 A1 B1 k c1 d1 ((four q false xa xb ya yb).take k) ((four q true xa xb ya yb).take k) wr) (fun _ _ i _ => 4 - (intOf i).toNat)
 case atStart => exact ⟨0, _, _, _, _, Nat.zero_le _, rfl, rfl, rfl, Na.nil _ _, Na.nil _ _, (fun k h => by cases h), Below.refl _ _⟩
 case round =>
   obtain ⟨k, A1, B1, c1, d1, hk, rfl, rfl, rfl, N1, N2, hne, hB⟩ := hrel; have HB0 := HB; replace HB := Lib.hid hB; clear hB
   by_cases hlt : k < 4
   · have tlt : decide ((k : Int) < (4 : Int)) = true := by simp; omega
     obtain ⟨b, o, hp, hcell⟩ := P.2.2.2 (by omega); obtain ⟨D, s, M, E, x0, x1, x2, x3, hM, hx⟩ := hcell k hlt; obtain ⟨b', o', hp', hcell'⟩ := R.2.2.2 (by omega); obtain ⟨D', s', M', E', y0, y1, y2, y3, hM', hy⟩ := hcell' k hlt
     obtain ⟨rfl, rfl⟩ : b = g7 ∧ o = 0 := by injection hp with h; injection h with h1 h2; exact ⟨h1.symm, h2.symm⟩
     obtain ⟨rfl, rfl⟩ : b' = g8 ∧ o' = 0 := by injection hp' with h; injection h with h1 h2; exact ⟨h1.symm, h2.symm⟩
     clear hcell hcell' hp hp'; simp only [Nat.zero_add] at x0 x1 x2 x3 y0 y1 y2 y3
     have i1 : (k : Int) < 4 := by omega
     have i2 : (0 : Int) ≤ k := by omega
     obtain ⟨x, hX⟩ : ∃ x, rk D s M E = x := ⟨_, rfl⟩; obtain ⟨y, hY⟩ : ∃ y, rk D' s' M' E' = y := ⟨_, rfl⟩; rw [hX] at hx; rw [hY] at hy; obtain ⟨u, hu⟩ : ∃ u, q false x y = u := ⟨_, rfl⟩; obtain ⟨v, hv⟩ : ∃ v, q true x y = v := ⟨_, rfl⟩
     have t1 : (four q false xa xb ya yb).take (k + 1) = (four q false xa xb ya yb).take k ++ [u] := by rw [take4 hlt, four_at hlt hx.symm hy.symm, hu]
     have t2 : (four q true xa xb ya yb).take (k + 1) = (four q true xa xb ya yb).take k ++ [v] := by rw [take4 hlt, four_at hlt hx.symm hy.symm, hv]
     generalize (four q false xa xb ya yb).take k = la at *; generalize (four q true xa xb ya yb).take k = lb at *; have HXX := Lib.hid hX; have HYY := Lib.hid hY; have HU := Lib.hid hu; have HV := Lib.hid hv; have HT1 := Lib.hid t1; have HT2 := Lib.hid t2; have HNE := Lib.hid hne; clear hX hY hu hv t1 t2 hne hx hy P R
     go_upto_region 8 with (fail)
     refine Jo.rk [0, 1, 2, 3, 4, 5, 6, 7, 8, 9, 10] [some 32, some 33, some 34, some 35, some 36, some 37, some 38, some 39, some 40, some 41, some 42, some 43, some 7] [[], [], [], [1, 2], [3], [], [], [5, 6], [7], [4, 8], [9], [], []] 13 2 [Jo.Fact.eq (.slice A1 k c1), Jo.Fact.eq (.slice (some ⟨b, 0, none⟩) 4 4), Jo.qi k, Jo.Fact.eq (.pointer (some ⟨b, k * 4, none⟩)), Jo.q4 D s M E, Jo.Fact.eq (.slice (some ⟨b', 0, none⟩) 4 4), Jo.qi k, Jo.Fact.eq (.pointer (some ⟨b', k * 4, none⟩)), Jo.q4 D' s' M' E', Jo.Fact.num u, Jo.Fact.s1 u, Jo.Fact.any, Jo.Fact.any] (by kernel_rfl) (by kernel_rfl) (by decide) rfl ?_ ?_
     · iterate 3 (refine Jo.jm rfl ?_ ?_; rotate_left)
       refine Jo.jm rfl ?_ ?_
       · rintro wj hJ _ rfl _ rfl K hK; simp only [Jo.z] at hK ⊢; go_simp
         exact hK.out _ _ (show Value.pointer _ = Value.pointer _ by simp) (br _ _)
       refine Jo.jm rfl ?_ ?_
       · rintro wj hJ _ rfl K hK; simp only [Jo.z] at hK ⊢
         have x0' := ((bt HB.out hJ).cell (p := ⟨b, _, none⟩) (block_lt_of_cell x0)).trans x0
         have x1' := ((bt HB.out hJ).cell (p := ⟨b, _, none⟩) (block_lt_of_cell x1)).trans x1
         have x2' := ((bt HB.out hJ).cell (p := ⟨b, _, none⟩) (block_lt_of_cell x2)).trans x2
         have x3' := ((bt HB.out hJ).cell (p := ⟨b, _, none⟩) (block_lt_of_cell x3)).trans x3
         go_simp; exact hK.out _ _ rfl (br _ _)
       iterate 2 (refine Jo.jm rfl ?_ ?_; rotate_left)
       refine Jo.jm rfl ?_ ?_
       · rintro wj hJ _ rfl _ rfl K hK; simp only [Jo.z] at hK ⊢; go_simp
         exact hK.out _ _ (show Value.pointer _ = Value.pointer _ by simp) (br _ _)
       refine Jo.jm rfl ?_ ?_
       · rintro wj hJ _ rfl K hK; simp only [Jo.z] at hK ⊢
         have y0' := ((bt HB.out hJ).cell (p := ⟨b', _, none⟩) (block_lt_of_cell y0)).trans y0
         have y1' := ((bt HB.out hJ).cell (p := ⟨b', _, none⟩) (block_lt_of_cell y1)).trans y1
         have y2' := ((bt HB.out hJ).cell (p := ⟨b', _, none⟩) (block_lt_of_cell y2)).trans y2
         have y3' := ((bt HB.out hJ).cell (p := ⟨b', _, none⟩) (block_lt_of_cell y3)).trans y3
         go_simp; exact hK.out _ _ rfl (br _ _)
       refine Jo.jm rfl ?_ ?_
       · rintro wj hJ _ rfl _ rfl K hK; simp only [Jo.z] at hK ⊢; go_simp; refine (jDiv hM hM' HXX.out HYY.out (by have hqq := (HQ false x y).out; rw [HU.out] at hqq; exact hqq)).mono ?_; rintro ee wk ⟨K20, s20, M20, E20, rfl, q20, B⟩; exact hK.out _ _ ⟨K20, s20, M20, E20, rfl, q20⟩ B
       refine Jo.jm rfl ?_ ?_
       · rintro wj hJ _ ⟨K20, s20, M20, E20, rfl, q20⟩ K hK; simp only [Jo.z] at hK ⊢; go_simp; exact hK.out _ _ ⟨_, K20, s20, M20, E20, rfl, Bo.new _ _ _, q20⟩ (bel1 _ _)
       exact Jo.Steps.nil
       all_goals (rintro wj hJ; (repeat rintro _ rfl); intro K hK; simp only [Jo.z] at hK ⊢; go_simp; exact hK.out _ _ rfl (br _ _))
     rintro w8 hJ _ rfl _ rfl _ rfl _ _ _ rfl _ rfl _ rfl _ _ _ rfl _ ⟨K20, s20, M20, E20, rfl, q20⟩ _ ⟨g21, K21, s21, M21, E21, rfl, X21, q21⟩ -; simp only [Jo.z]; replace N1 := N1.below hJ; replace N2 := N2.below hJ; replace HB := Hqb HB hJ
     refine Jo.jnext (i := 11) (o := ⟨some 43, _, _, _, _, _⟩) (by kernel_rfl) rfl (fun K hK => ?_)
     refine step_na rfl _ _ rfl rfl rfl N1 q21 X21 (by omega) HB.out.size ?_
     intro A2 e2 w9 N21 G21 at1
     refine hK.out _ _ ?_; clear hK K; simp only [Act.put, List.setIfInBounds_toArray, List.set_cons_zero, List.set_cons_succ]
     refine Jo.jnext (i := 12) (o := ⟨some 7, _, _, _, _, _⟩) (by kernel_rfl) rfl (fun K hK => ?_)
     go_simp; refine hK.out _ _ ?_; clear hK K; refine Jo.jdone (by kernel_rfl) ?_
     have l1 : ∀ k, ownA B1 = some k → k < w8.heap.size := fun k hk => (N2.own_lt k hk).2
     replace HB := Lib.hid (HB.out.grown G21 HB.out.size (fun k hk => (N1.own_lt k hk).1))
     replace N2 := N2.kept G21 (own_ne HNE.out); clear N1 G21 X21 q21
     go_upto_region 9 with (fail)
     refine Jo.rk [0, 1, 2, 3, 4, 5, 6, 7, 8, 9, 10] [some 44, some 45, some 46, some 47, some 48, some 49, some 50, some 51, some 52, some 53, some 54, some 55, some 8] [[], [], [], [1, 2], [3], [], [], [5, 6], [7], [4, 8], [9], [], []] 13 2 [Jo.Fact.eq (.slice B1 k d1), Jo.Fact.eq (.slice (some ⟨b, 0, none⟩) 4 4), Jo.qi k, Jo.Fact.eq (.pointer (some ⟨b, k * 4, none⟩)), Jo.q4 D s M E, Jo.Fact.eq (.slice (some ⟨b', 0, none⟩) 4 4), Jo.qi k, Jo.Fact.eq (.pointer (some ⟨b', k * 4, none⟩)), Jo.q4 D' s' M' E', Jo.Fact.num v, Jo.Fact.s1 v, Jo.Fact.any, Jo.Fact.any] (by kernel_rfl) (by kernel_rfl) (by decide) rfl ?_ ?_
     · iterate 3 (refine Jo.jm rfl ?_ ?_; rotate_left)
       refine Jo.jm rfl ?_ ?_
       · rintro wj hJ _ rfl _ rfl K hK; simp only [Jo.z] at hK ⊢; go_simp
         exact hK.out _ _ (show Value.pointer _ = Value.pointer _ by simp) (br _ _)
       refine Jo.jm rfl ?_ ?_
       · rintro wj hJ _ rfl K hK; simp only [Jo.z] at hK ⊢
         have x0' := ((bt HB.out hJ).cell (p := ⟨b, _, none⟩) (block_lt_of_cell x0)).trans x0
         have x1' := ((bt HB.out hJ).cell (p := ⟨b, _, none⟩) (block_lt_of_cell x1)).trans x1
         have x2' := ((bt HB.out hJ).cell (p := ⟨b, _, none⟩) (block_lt_of_cell x2)).trans x2
         have x3' := ((bt HB.out hJ).cell (p := ⟨b, _, none⟩) (block_lt_of_cell x3)).trans x3
         go_simp; exact hK.out _ _ rfl (br _ _)
       iterate 2 (refine Jo.jm rfl ?_ ?_; rotate_left)
       refine Jo.jm rfl ?_ ?_
       · rintro wj hJ _ rfl _ rfl K hK; simp only [Jo.z] at hK ⊢; go_simp
         exact hK.out _ _ (show Value.pointer _ = Value.pointer _ by simp) (br _ _)
       refine Jo.jm rfl ?_ ?_
       · rintro wj hJ _ rfl K hK; simp only [Jo.z] at hK ⊢
         have y0' := ((bt HB.out hJ).cell (p := ⟨b', _, none⟩) (block_lt_of_cell y0)).trans y0
         have y1' := ((bt HB.out hJ).cell (p := ⟨b', _, none⟩) (block_lt_of_cell y1)).trans y1
         have y2' := ((bt HB.out hJ).cell (p := ⟨b', _, none⟩) (block_lt_of_cell y2)).trans y2
         have y3' := ((bt HB.out hJ).cell (p := ⟨b', _, none⟩) (block_lt_of_cell y3)).trans y3
         go_simp; exact hK.out _ _ rfl (br _ _)
       refine Jo.jm rfl ?_ ?_
       · rintro wj hJ _ rfl _ rfl K hK; simp only [Jo.z] at hK ⊢; go_simp; refine (jDiv hM hM' HXX.out HYY.out (by have hqq := (HQ true x y).out; rw [HV.out] at hqq; exact hqq)).mono ?_; rintro ee wk ⟨K20, s20, M20, E20, rfl, q20, B⟩; exact hK.out _ _ ⟨K20, s20, M20, E20, rfl, q20⟩ B
       refine Jo.jm rfl ?_ ?_
       · rintro wj hJ _ ⟨K20, s20, M20, E20, rfl, q20⟩ K hK; simp only [Jo.z] at hK ⊢; go_simp; exact hK.out _ _ ⟨_, K20, s20, M20, E20, rfl, Bo.new _ _ _, q20⟩ (bel1 _ _)
       exact Jo.Steps.nil
       all_goals (rintro wj hJ; (repeat rintro _ rfl); intro K hK; simp only [Jo.z] at hK ⊢; go_simp; exact hK.out _ _ rfl (br _ _))
     rintro wA hJ _ rfl _ rfl _ rfl _ _ _ rfl _ rfl _ rfl _ _ _ rfl _ ⟨K20, s20, M20, E20, rfl, q20⟩ _ ⟨g22, K22, s22, M22, E22, rfl, X22, q22⟩ -; simp only [Jo.z]; replace N21 := N21.below hJ; replace N2 := N2.below hJ; replace HB := Hqb HB hJ
     refine Jo.jnext (i := 11) (o := ⟨some 55, _, _, _, _, _⟩) (by kernel_rfl) rfl (fun K hK => ?_)
     refine step_na rfl _ _ rfl rfl rfl N2 q22 X22 (by omega) HB.out.size ?_
     intro B2 e3 wB N22 G22 at2
     refine hK.out _ _ ?_; clear hK K; simp only [Act.put, List.setIfInBounds_toArray, List.set_cons_zero, List.set_cons_succ]
     refine Jo.jnext (i := 12) (o := ⟨some 8, _, _, _, _, _⟩) (by kernel_rfl) rfl (fun K hK => ?_)
     go_simp; refine hK.out _ _ ?_; clear hK K; refine Jo.jdone (by kernel_rfl) ?_
     have lA : ∀ k, ownA A2 = some k → k < wA.heap.size := fun k hk => (N21.own_lt k hk).2
     have hne2 : ∀ k, ownA A2 = some k → ownA B2 ≠ some k := ne_row HNE.out at1 at2 l1 lA
     have hne1 : ∀ k, ownA A2 = some k → ownA B1 ≠ some k := ne_row HNE.out at1 (.inl rfl) l1 lA
     replace HB := Lib.hid (HB.out.grown G22 HB.out.size (fun k hk => (N2.own_lt k hk).1))
     replace N21 := N21.kept G22 (own_ne' hne1); have t1 := HT1.out; have t2 := HT2.out; clear G22 X22 q22 N2 l1 lA at1 at2 hne1 HT1 HT2 HU HV HXX HYY HNE x0 x1 x2 x3 y0 y1 y2 y3; go_wp2
     go_roundw
     case rel => exact ⟨k + 1, _, _, _, _, by omega, rfl, rfl, by go_num, by rw [t1]; exact N21, by rw [t2]; exact N22, hne2, HB.out⟩
     case measure => simp [intOf]; omega
   · obtain rfl : k = 4 := by omega
     have tlt : decide (((4 : Nat) : Int) < (4 : Int)) = false := by simp
     have e1 : (four q false xa xb ya yb).take 4 = four q false xa xb ya yb := rfl
     have e2 : (four q true xa xb ya yb).take 4 = four q true xa xb ya yb := rfl
     rw [e1] at N1; rw [e2] at N2; have L1 := N1.nl (by omega); have L2 := N2.nl (by omega); have hc := hr; rw [← four_cor HF.1 HF.2] at hc; obtain ⟨u, hu⟩ : ∃ u, mnp (four q false xa xb ya yb) = u := ⟨_, rfl⟩; obtain ⟨v, hv⟩ : ∃ v, mxp (four q true xa xb ya yb) = v := ⟨_, rfl⟩; rw [hu, hv] at hc; have HU := Lib.hid hu; have HV := Lib.hid hv; have HR := Lib.hid hc; replace XR := XR.below HB.out; replace HB := Lib.hid (bt HB0.out HB.out)
     clear hu hv hc hr N1 N2 e1 e2 hne HB0 P R HF
     go_wp2_with fail
     refine (yLeast L1 HU.out).mono ?_; rintro ee wC ⟨K23, s23, M23, E23, rfl, q23, B⟩; replace XR := XR.below B; replace L1 := L1.below B; replace L2 := L2.below B; replace HB := Hqb HB B; clear B
     go_wp2_with fail
     refine (yMost L2 HV.out).mono ?_; rintro ee wD ⟨K24, s24, M24, E24, rfl, q24, B⟩; replace XR := XR.below B; replace L1 := L1.below B; replace L2 := L2.below B; replace HB := Hqb HB B; clear B
     go_wp2_with fail
     refine (jvMake q23.top q24.top q23.rk q24.rk HR.out).mono ?_; rintro ee wE ⟨e25, K25, s25, M25, E25, K25b, s25b, M25b, E25b, rfl, v25, B⟩; replace XR := XR.below B; replace L1 := L1.below B; replace L2 := L2.below B; replace HB := Hqb HB B; clear B; clear L1 L2; have xXR := XR.cell; have zXR0 := XR.frozen; go_wp2; clear xXR zXR0
     have SX := StN.mk9 XR (.bool e25) (.int .i64 K25) (.bool s25) (.int .u64 M25) (.int .i64 E25) (.int .i64 K25b) (.bool s25b) (.int .u64 M25b) (.int .i64 E25b); exact bodyPost_ret (by simp [results, Tryz.results105, go_sem, SX.box.cell]) rfl ⟨_, _, _, _, _, _, _, _, _, rfl, v25, (SX.below HB.out (by omega))⟩
end Go.Proofs.YtnbliijpjcmbjaaGreatDoor
