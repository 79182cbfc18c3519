/-
 Contracts that the proof rests on.
-/
import Derived.Test.YtnbliijpjcmbjaaGreatDoorYPaw
namespace Go.Proofs.YtnbliijpjcmbjaaGreatDoor
set_option maxHeartbeats 8000000
open Go.RowKit
set_option linter.unusedVariables false
theorem raise_top {h l : Nat} (h0 : h ≠ 0) (hh : h < 18446744073709551616) :
   blen (h * 18446744073709551616 + l) = 64 + blen h ∨ 18446744073709551616 ≤ l := by
 rcases Nat.lt_or_ge l 18446744073709551616 with hl | hl
 · left
   have := blen_shift (h * 18446744073709551616 + l) 64 (by omega)
   rw [this]
   congr 2
   omega
 · exact .inr hl
def Ra (S : Nat) (F T K X : Int) : Prop := 0 ≤ T ∧ T < 18446744073709551616 ∧ 0 ≤ K ∧ K < 18446744073709551616 ∧ T = (tp S : Nat) ∧ (S ≠ 0 → X = xp S F ∧ (K = 0 ↔ tp S * 2 ^ blen S = S * 2 ^ 64))
theorem ra_low {l : Nat} {e : Int} (hl : l < 18446744073709551616) : Ra l (e - 64) ((l * 2 ^ (64 - blen l) : Nat) : Int) 0 (e - 64 - (64 - (blen l : Int))) := by
 have hb := blen_mono_le (n := l) (k := 64) hl; have ht := tp_small hb; have h2 := tp_lt l; rw [ht] at h2
 refine ⟨by omega, by omega, by omega, by omega, by rw [ht], fun h0 => ⟨by unfold xp; omega, fun _ => ?_, fun _ => rfl⟩⟩
 rw [ht, Nat.mul_assoc, ← Nat.pow_add]
 congr 2
 omega
theorem ra_high {h l : Nat} {e : Int} (h0 : h ≠ 0) (hh : h < 18446744073709551616) (hl : l < 18446744073709551616) :
   Ra (h * 18446744073709551616 + l) (e - 64) ((h * 2 ^ (64 - blen h) + l / 2 ^ blen h : Nat) : Int) ((l * 2 ^ (64 - blen h) % 18446744073709551616 : Nat) : Int) (e - (64 - (blen h : Int))) := by
 have hb := blen_mono_le (n := h) (k := 64) hh
 have hbs : blen (h * 18446744073709551616 + l) = 64 + blen h := by
   rcases raise_top (l := l) h0 hh with q | q
   · exact q
   · omega
 have hp : 0 < 2 ^ blen h := Nat.pow_pos (by decide)
 have hn : 2 ^ 64 = 2 ^ (64 - blen h) * 2 ^ blen h := by rw [← Nat.pow_add]; congr 1; omega
 have hn' : (18446744073709551616 : Nat) = 2 ^ blen h * 2 ^ (64 - blen h) := by rw [Nat.mul_comm, ← hn]
 have ht : tp (h * 18446744073709551616 + l) = h * 2 ^ (64 - blen h) + l / 2 ^ blen h := by
   unfold tp
   rw [hbs, Nat.pow_add, Nat.mul_comm (2 ^ 64) (2 ^ blen h), Nat.mul_div_mul_right _ _ (Nat.pow_pos (by decide)), hn', show h * (2 ^ blen h * 2 ^ (64 - blen h)) = 2 ^ blen h * (h * 2 ^ (64 - blen h)) by rw [← Nat.mul_assoc, Nat.mul_comm h, Nat.mul_assoc], Nat.mul_add_div hp]
 have hm : l * 2 ^ (64 - blen h) % 18446744073709551616 = l % 2 ^ blen h * 2 ^ (64 - blen h) := by
   rw [hn', Nat.mul_mod_mul_right]
 have ht2 := tp_lt (h * 18446744073709551616 + l)
 have hml := Nat.mod_lt (l * 2 ^ (64 - blen h)) (show 0 < 18446744073709551616 by decide)
 refine ⟨by omega, by omega, by omega, by omega, by rw [ht], fun _ => ⟨?_, ?_⟩⟩
 · unfold xp
   rw [hbs]
   omega
 · rw [hm, hbs, ht, Nat.pow_add, Nat.mul_comm (2 ^ 64) (2 ^ blen h), ← Nat.mul_assoc]; have hd := Nat.div_add_mod l (2 ^ blen h)
   have hS : h * 18446744073709551616 + l = (h * 2 ^ (64 - blen h) + l / 2 ^ blen h) * 2 ^ blen h + l % 2 ^ blen h := by
     rw [Nat.add_mul, Nat.mul_assoc h, ← hn, Nat.mul_comm (l / 2 ^ blen h), Nat.add_assoc, hd]
   rw [hS]
   have hp2 : 0 < 2 ^ (64 - blen h) := Nat.pow_pos (by decide)
   revert hS
   generalize (h * 2 ^ (64 - blen h) + l / 2 ^ blen h) * 2 ^ blen h = Z; generalize l % 2 ^ blen h = m
   intro _
   constructor
   · intro q
     have q1 : m * 2 ^ (64 - blen h) = 0 := by exact_mod_cast q
     have q2 : m = 0 := by
       rcases Nat.mul_eq_zero.1 q1 with c | c
       · exact c
       · omega
     rw [q2, Nat.add_zero]
   · intro q
     have q1 : Z = Z + m := Nat.eq_of_mul_eq_mul_right (show 0 < 2 ^ 64 by decide) q
     have q2 : m = 0 := by omega
     rw [q2, Nat.zero_mul]
     rfl
def exw (S : Nat) (F : Int) : Bool := S == 0 || (decide (xp S F ≤ 1048576) && (decide (-1048576 ≤ xp S F) && decide (tp S * 2 ^ blen S = S * 2 ^ 64)))
theorem exw_odd {m : Nat} (ho : m % 2 = 1) (t : Nat) (F : Int) : exw (m * 2 ^ t) F = ext m (F + t) := by
 have h0 : m ≠ 0 := by omega
 have h2 : m * 2 ^ t ≠ 0 := Nat.mul_ne_zero h0 (Nat.ne_of_gt (Nat.pow_pos (by decide)))
 have ex : xp (m * 2 ^ t) F = xp m (F + t) := by
   unfold xp
   rw [blen_mul h0]
   omega
 have e1 : (m * 2 ^ t == 0) = false := by simpa using h2
 have e2 : (m == 0) = false := by simpa using h0
 have e3 : (tp (m * 2 ^ t) * 2 ^ blen (m * 2 ^ t) = m * 2 ^ t * 2 ^ 64) ↔ blen m ≤ 64 := by
   rw [tp_mul h0, blen_mul h0, Nat.pow_add, ← Nat.mul_assoc, Nat.mul_right_comm m]
   constructor
   · intro q
     have q1 := Nat.eq_of_mul_eq_mul_right (Nat.pow_pos (n := t) (show 0 < 2 by decide)) q
     rcases Nat.lt_or_ge 64 (blen m) with c | c
     · exfalso
       rw [show 2 ^ blen m = 2 ^ (blen m - 65) * 2 * 2 ^ 64 by rw [← Nat.pow_succ, ← Nat.pow_add]; congr 1; omega, ← Nat.mul_assoc] at q1
       have q2 := Nat.eq_of_mul_eq_mul_right (show 0 < 2 ^ 64 by decide) q1
       rw [← Nat.mul_assoc] at q2
       omega
     · exact c
   · intro c
     rw [tp_small c, Nat.mul_assoc m, ← Nat.pow_add, show 64 - blen m + blen m = 64 by omega]
 unfold exw ext
 rw [ex, e1, e2, decide_eq_decide.2 e3]
theorem wide_rnd {S : Nat} {F N E : Int} {neg : Bool} (hS : S < 340282366920938463463374607431768211456) (h1 : -3000000 ≤ F) (h2 : F ≤ 3000000) (hN : (mk (sgi neg (S : Int)) F).1 = N) (hE : (mk (sgi neg (S : Int)) F).2 = E) :
   (exw S F = true → ∀ up, rnd up N E = sgi neg (lo S F)) ∧ rnd neg N E = sgi neg (lo S F) ∧ (exw S F = false → rnd (!neg) N E = nx (!neg) (sgi neg (lo S F))) := by
 by_cases h0 : S = 0
 · subst h0
   have e0 : sgi neg ((0 : Nat) : Int) = 0 := by cases neg <;> rfl
   rw [e0, mk_zero] at hN hE; subst hN; subst hE
   have e1 : sgi neg (lo 0 F) = 0 := by
     have : lo 0 F = 0 := by
       unfold lo
       rw [if_pos rfl]
     rw [this]
     cases neg <;> rfl
   have e2 : exw 0 F = true := by
     unfold exw
     rfl
   rw [e1, e2]
   exact ⟨fun _ up => rnd_nought up, rnd_nought neg, fun c => absurd c (by decide)⟩
 · have hab : (sgi neg (S : Int)).natAbs = S := by rw [sgi_abs neg (by omega)]; omega
   obtain ⟨s1, s2⟩ := v2_spec S h0
   have hv : v2 S < 128 := by
     have h3 := v2_pow_le h0
     have h4 : 2 ^ v2 S < 2 ^ 128 := by omega
     exact (Nat.pow_lt_pow_iff_right (by decide)).1 h4
   have hz : sgi neg (S : Int) ≠ 0 := by
     intro c
     rw [c] at hab; exact h0 hab.symm
   obtain ⟨m1, m2, m3, m4, m5⟩ := mk_in (z := sgi neg (S : Int)) (e := F) hz (by omega) (by rw [hab]; omega); rw [hab] at m1 m2; rw [hE] at m1; rw [hN] at m2 m3
   have hsn : neg = decide (N < 0) := by
     cases neg
     · rw [wsg_f] at m3; exact (decide_eq_false (by omega)).symm
     · rw [wsg_t] at m3; exact (decide_eq_true (by omega)).symm
   have hx : exw S F = ext N.natAbs E := by
     rw [m2, m1]
     conv => lhs; rw [s1]
     exact exw_odd s2 _ F
   have hl : lo S F = lo N.natAbs E := by
     rw [m2, m1]
     conv => lhs; rw [s1]
     exact lo_mul (by omega) _ F
   rw [hx, hl]
   refine ⟨fun c up => ?_, ?_, fun c => ?_⟩
   · rw [rnd_ext c, ← hsn]
   · exact rnd_same hsn rfl
   · rw [rnd_diff hsn, nx_lo neg c]
set_option linter.unusedSimpArgs false
set_option maxRecDepth 100000
theorem gFair {w : World} {D M E : Int} {s : Bool} {r : Int} (hM : LQ M) (hr : rk D s M E = r) : Calls Tryz.prog 95 #[VQ D s M E] w (PN w r) := by
 delta VQ
 by_cases hm : MayQ D s M E
 · have HQ := rk_fq hM hm; rw [hr] at HQ
   have HC := Lib.hid (show decide (MayQ D s M E) = true from decide_eq_true hm)
   clear hm hr hM
   go_enter Tryz.func95, Tryz.ntmps95
   go_upto_region 1 with (fail)
   generalize hW1 : (w.alloc _).alloc _ = w1 at *; obtain ⟨X1, XR, HB⟩ := Bo.en2 hW1; clear hW1; have xX1 := X1.cell
   go_wp2_with fail
   refine (yMay HC.out).mono ?_; rintro ee w2 ⟨rfl, B⟩; clear xX1; replace X1 := X1.below B; replace XR := XR.below B; replace HB := Hqb HB B; clear B; have xXR := XR.cell; have zXR0 := XR.frozen; have xX1 := X1.cell; go_wp2; clear xXR zXR0 xX1; have SX := StN.mk4 XR (.int .i64 D) (.bool s) (.int .u64 M) (.int .i64 E)
   exact bodyPost_ret (by simp [results, Tryz.results95, go_sem, SX.box.cell]) rfl ⟨D, s, M, E, rfl, HQ, (SX.below HB.out (by omega))⟩
 · rw [rk_not hm] at hr; subst hr
   have HC := Lib.hid (show decide (MayQ D s M E) = false from decide_eq_false hm)
   clear hm hM
   go_enter Tryz.func95, Tryz.ntmps95
   go_upto_region 1 with (fail)
   generalize hW1 : (w.alloc _).alloc _ = w1 at *; obtain ⟨X1, XR, HB⟩ := Bo.en2 hW1; clear hW1; have xX1 := X1.cell
   go_wp2_with fail
   refine (yMay HC.out).mono ?_; rintro ee w2 ⟨rfl, B⟩; clear xX1; replace X1 := X1.below B; replace XR := XR.below B; replace HB := Hqb HB B; clear B; have xXR := XR.cell; have zXR0 := XR.frozen; have xX1 := X1.cell; go_wp2; clear xXR zXR0 xX1; have SX := StN.mk4 XR (.int .i64 0) (.bool false) (.int .u64 0) (.int .i64 0)
   exact bodyPost_ret (by simp [results, Tryz.results95, go_sem, SX.box.cell]) rfl ⟨_, _, _, _, rfl, Fq.nought, (SX.below HB.out (by omega))⟩
theorem fq_inf {D : Int} {s : Bool} {M E x : Int} (q : Fq D s M E x) : infp x = (D == 2) := by
 have htp := TP_eq
 rcases q.cases with ⟨rfl, rfl, rfl, rfl, h0⟩ | ⟨rfl, h1, h2, h3, h4, ⟨rfl, h5⟩ | ⟨rfl, h5⟩⟩ | ⟨rfl, rfl, rfl, ⟨rfl, h5⟩ | ⟨rfl, h5⟩⟩ <;> unfold infp <;> rw [Bool.eq_iff_iff] <;> simp <;> omega
theorem fq_fin {D : Int} {s : Bool} {M E x : Int} (q : Fq D s M E x) (h : D ≠ 2) : 0 ≤ M ∧ exb D s M E = true ∧ exq D s M E = ep x := by
 have hb : exb D s M E = true := by
   unfold exb
   rw [decide_eq_true q.1, Bool.true_and]
   simpa using h
 exact ⟨by rcases q.cases with ⟨_, _, h, _⟩ | ⟨_, h, _⟩ | ⟨_, h, _⟩ <;> omega, hb, exq_ep q hb⟩
theorem fq_same {s s' : Bool} {M M' E E' x y : Int} (q : Fq 2 s M E x) (q' : Fq 2 s' M' E' y) : x = y ↔ s = s' := by
 have htp := TP_eq
 rcases q.cases with ⟨h, _⟩ | ⟨h, _⟩ | ⟨_, rfl, rfl, ⟨rfl, h5⟩ | ⟨rfl, h5⟩⟩
 · omega
 · omega
 all_goals
   rcases q'.cases with ⟨h, _⟩ | ⟨h, _⟩ | ⟨_, rfl, rfl, ⟨rfl, k5⟩ | ⟨rfl, k5⟩⟩
   · omega
   · omega
   · constructor <;> intro e <;> first | rfl | omega | exact absurd e (by decide)
   · constructor <;> intro e <;> first | rfl | omega | exact absurd e (by decide)
theorem gMul {w : World} {D D' M M' E E' : Int} {s s' : Bool} {up : Bool} {x y r : Int} (hM : LQ M) (hM' : LQ M') (hx : rk D s M E = x) (hy : rk D' s' M' E' = y) (hr : mulp up x y = r) : Calls Tryz.prog 77 #[VQ D s M E, VQ D' s' M' E', .bool up] w (PN w r) := by
 delta VQ
 have HX := Lib.hid hx; have HY := Lib.hid hy; clear hx hy
 go_enter Tryz.func77, Tryz.ntmps77
 go_upto_region 1 with (fail)
 generalize hW1 : ((w.alloc _).alloc _).alloc _ = w1 at *; obtain ⟨X1, X2, XR, HB⟩ := Bo.en3 hW1; clear hW1; have xX1 := X1.cell
 go_wp2_with fail
 refine (gFair hM HX.out).mono ?_; rintro ee w2 ⟨K1, s1, M1, E1, rfl, q1, B⟩; clear xX1; replace X1 := X1.below B; replace X2 := X2.below B; replace XR := XR.below B; replace HB := Hqb HB B; clear B
 go_upto_region 2 with (fail)
 have lX7 := Nat.le_refl (World.heap w2).size; have nX7X1 := X1.lt; have nX7X2 := X2.lt; have nX7XR := XR.lt; generalize hWn : w2.alloc _ = w3 at *; obtain ⟨X7, BW⟩ := Bo.nw hWn; clear hWn; replace X1 := X1.below BW; replace X2 := X2.below BW; replace XR := XR.below BW; replace HB := Hqb HB BW; clear BW; have xX2 := X2.cell
 go_wp2_with fail
 refine (gFair hM' HY.out).mono ?_; rintro ee w4 ⟨K2, s2, M2, E2, rfl, q2, B⟩; clear xX2; replace X1 := X1.below B; replace X2 := X2.below B; replace XR := XR.below B; replace X7 := X7.below B; replace HB := Hqb HB B; clear B
 go_upto_region 3 with (fail)
 have lX8 := Nat.le_refl (World.heap w4).size; have nX8X1 := X1.lt; have nX8X2 := X2.lt; have nX8XR := XR.lt; have nX8X7 := X7.lt; generalize hWn : w4.alloc _ = w5 at *; obtain ⟨X8, BW⟩ := Bo.nw hWn; clear hWn; replace X1 := X1.below BW; replace X2 := X2.below BW; replace XR := XR.below BW; replace X7 := X7.below BW; replace HB := Hqb HB BW; clear BW; clear lX7 lX8; have i1 := fq_inf q1
 have i2 := fq_inf q2; have z1 := q1.zero_iff; have z2 := q2.zero_iff
 by_cases k0 : K1 = 0
 · subst k0; rw [mulp_zero up (.inl (z1.1 rfl))] at hr; subst hr; clear i1 i2 z1 z2 q1 q2; have xXR := XR.cell; have zXR0 := XR.frozen; have xX7 := X7.cell; have xX8 := X8.cell; go_wp2; clear xXR zXR0 xX7 xX8; have SX := StN.mk4 XR (.int .i64 0) (.bool false) (.int .u64 0) (.int .i64 0); exact bodyPost_ret (by simp [results, Tryz.results77, go_sem, SX.box.cell]) rfl ⟨_, _, _, _, rfl, Fq.nought, (SX.below HB.out (by omega))⟩
 · have e0 : (K1 == 0) = false := by simpa using k0
   by_cases l0 : K2 = 0
   · subst l0; rw [mulp_zero up (.inr (z2.1 rfl))] at hr; subst hr; clear i1 i2 z1 z2 q1 q2; have xXR := XR.cell; have zXR0 := XR.frozen; have xX7 := X7.cell; have xX8 := X8.cell; go_wp2; clear xXR zXR0 xX7 xX8; have SX := StN.mk4 XR (.int .i64 0) (.bool false) (.int .u64 0) (.int .i64 0)
     exact bodyPost_ret (by simp [results, Tryz.results77, go_sem, SX.box.cell]) rfl ⟨_, _, _, _, rfl, Fq.nought, (SX.below HB.out (by omega))⟩
   · have f0 : (K2 == 0) = false := by simpa using l0
     have hnz : ¬ (x = 0 ∨ y = 0) := fun c => c.elim (fun c => k0 (z1.2 c)) (fun c => l0 (z2.2 c))
     have sx : decide (x < 0) = s1 := by
       rcases q1.three with ⟨a, _⟩ | ⟨_, rfl, b⟩ | ⟨_, rfl, b⟩
       · exact absurd a k0
       · exact decide_eq_false (by omega)
       · exact decide_eq_true b
     have sy : decide (y < 0) = s2 := by
       rcases q2.three with ⟨a, _⟩ | ⟨_, rfl, b⟩ | ⟨_, rfl, b⟩
       · exact absurd a l0
       · exact decide_eq_false (by omega)
       · exact decide_eq_true b
     clear z1 z2
     by_cases k1 : K1 = 2
     · subst k1
       have j1 : infp x = true := i1
       rw [mulp_inf up hnz (.inl j1), sx, sy] at hr; have HRR := Lib.hid hr; clear i1 i2 j1 q1 q2 hr k0 l0 sx sy hnz; have xX7 := X7.cell; have xX8 := X8.cell
       go_wp2_with fail
       refine (yInf (s := s1 != s2) HRR.out).mono ?_; rintro ee w6 ⟨K3, s3, M3, E3, rfl, q3, B⟩; clear xX7 xX8; replace XR := XR.below B; replace X7 := X7.below B; replace X8 := X8.below B; replace HB := Hqb HB B; clear B; have xXR := XR.cell; have zXR0 := XR.frozen; go_wp2; clear xXR zXR0; have SX := StN.mk4 XR (.int .i64 K3) (.bool s3) (.int .u64 M3) (.int .i64 E3)
       exact bodyPost_ret (by simp [results, Tryz.results77, go_sem, SX.box.cell]) rfl ⟨_, _, _, _, rfl, q3, (SX.below HB.out (by omega))⟩
     · by_cases k2 : K2 = 2
       · subst k2
         have e1 : (K1 == 2) = false := by simpa using k1
         have j2 : infp y = true := i2
         rw [mulp_inf up hnz (.inr j2), sx, sy] at hr; have HRR := Lib.hid hr; clear i1 i2 j2 q1 q2 hr k0 l0 k1 sx sy hnz; have xX7 := X7.cell; have xX8 := X8.cell
         go_wp2_with fail
         refine (yInf (s := s1 != s2) HRR.out).mono ?_; rintro ee w6 ⟨K3, s3, M3, E3, rfl, q3, B⟩; clear xX7 xX8; replace XR := XR.below B; replace X7 := X7.below B; replace X8 := X8.below B; replace HB := Hqb HB B; clear B; have xXR := XR.cell; have zXR0 := XR.frozen; go_wp2; clear xXR zXR0; have SX := StN.mk4 XR (.int .i64 K3) (.bool s3) (.int .u64 M3) (.int .i64 E3)
         exact bodyPost_ret (by simp [results, Tryz.results77, go_sem, SX.box.cell]) rfl ⟨_, _, _, _, rfl, q3, (SX.below HB.out (by omega))⟩
       · have e1 : (K1 == 2) = false := by simpa using k1
         have e2 : (K2 == 2) = false := by simpa using k2
         rw [e1] at i1; rw [e2] at i2; rw [mulp_fin up hnz (by rw [i1, i2]; simp)] at hr; clear i1 i2 sx sy hnz; obtain ⟨m1, b1, x1⟩ := fq_fin q1 k1; obtain ⟨m2, b2, x2⟩ := fq_fin q2 k2; obtain ⟨N1, hN1⟩ : ∃ N, (ep x).1 = N := ⟨_, rfl⟩; obtain ⟨F1, hF1⟩ : ∃ N, (ep x).2 = N := ⟨_, rfl⟩; obtain ⟨N2, hN2⟩ : ∃ N, (ep y).1 = N := ⟨_, rfl⟩; obtain ⟨F2, hF2⟩ : ∃ N, (ep y).2 = N := ⟨_, rfl⟩
         have g1 : mk N1 F1 = ep x := by rw [← hN1, ← hF1]; exact ep_nf x
         have g2 : mk N2 F2 = ep y := by rw [← hN2, ← hF2]; exact ep_nf y
         have HB1 := Lib.hid b1; have HB2 := Lib.hid b2
         have HN1 := Lib.hid (show (exq K1 s1 M1 E1).1 = N1 by rw [x1, hN1])
         have HF1 := Lib.hid (show (exq K1 s1 M1 E1).2 = F1 by rw [x1, hF1])
         have HN2 := Lib.hid (show (exq K2 s2 M2 E2).1 = N2 by rw [x2, hN2])
         have HF2 := Lib.hid (show (exq K2 s2 M2 E2).2 = F2 by rw [x2, hF2])
         obtain ⟨P, hP⟩ : ∃ P, ml (ep x) (ep y) = P := ⟨_, rfl⟩
         have hPn : mk P.1 P.2 = P := by rw [← hP]; exact mk_nf _ _
         have HP1 := Lib.hid (show (ml (mk N1 F1) (mk N2 F2)).1 = P.1 by rw [g1, g2, hP])
         have HP2 := Lib.hid (show (ml (mk N1 F1) (mk N2 F2)).2 = P.2 by rw [g1, g2, hP])
         rw [hP] at hr
         have HRR := Lib.hid (show rnd up (mk P.1 P.2).1 (mk P.1 P.2).2 = r by rw [hPn]; exact hr)
         clear b1 b2 x1 x2 hN1 hF1 hN2 hF2 hP hPn hr g1 g2; have xX7 := X7.cell; have xX8 := X8.cell
         go_wp2_with fail
         refine (yExact0 m1 q1.top HB1.out HN1.out HF1.out).mono ?_; rintro ee w6 ⟨sa, Aa, na, ca, rfl, pa, ka, B⟩; clear xX7 xX8; replace XR := XR.below B; replace X7 := X7.below B; replace X8 := X8.below B; replace HB := Hqb HB B; clear B
         go_upto_region 8 with (fail)
         have lX9 := Nat.le_refl (World.heap w6).size; have nX9XR := XR.lt; have nX9X7 := X7.lt; have nX9X8 := X8.lt; generalize hWn : w6.alloc _ = w7 at *; obtain ⟨X9, BW⟩ := Bo.nw hWn; clear hWn; replace XR := XR.below BW; replace X7 := X7.below BW; replace X8 := X8.below BW; replace pa := pa.below BW; replace HB := Hqb HB BW; clear BW; have xX8 := X8.cell
         go_wp2_with fail
         refine (yExact0 m2 q2.top HB2.out HN2.out HF2.out).mono ?_; rintro ee w8 ⟨sb, Ab, nb, cb, rfl, pb, kb, B⟩; clear xX8; replace XR := XR.below B; replace X7 := X7.below B; replace X8 := X8.below B; replace X9 := X9.below B; replace pa := pa.below B; replace HB := Hqb HB B; clear B
         go_upto_region 9 with (fail)
         have lX11 := Nat.le_refl (World.heap w8).size; have nX11XR := XR.lt; have nX11X7 := X7.lt; have nX11X8 := X8.lt; have nX11X9 := X9.lt; generalize hWn : w8.alloc _ = w9 at *; obtain ⟨X11, BW⟩ := Bo.nw hWn; clear hWn; replace XR := XR.below BW; replace X7 := X7.below BW; replace X8 := X8.below BW; replace X9 := X9.below BW; replace pa := pa.below BW; replace pb := pb.below BW; replace HB := Hqb HB BW
         clear BW; clear lX9 lX11; have xX9 := X9.cell; have xX11 := X11.cell
         go_wp2_with fail
         refine (q3Mul pa.wr pb.wr (by omega) (by omega) HP1.out HP2.out).mono ?_; rintro ee w10 ⟨sc, Ac, nc, cc, rfl, pc, kc, B⟩; clear xX9 xX11; replace XR := XR.below B; replace X7 := X7.below B; replace X8 := X8.below B; replace X9 := X9.below B; replace X11 := X11.below B; replace pa := pa.below B; replace pb := pb.below B; replace HB := Hqb HB B; clear B
         go_wp2_with fail
         refine (yRound pc.wr (by omega) rfl rfl HRR.out).mono ?_; rintro ee w11 ⟨K3, s3, M3, E3, rfl, q3, B⟩; replace XR := XR.below B; replace X7 := X7.below B; replace X8 := X8.below B; replace X9 := X9.below B; replace X11 := X11.below B; replace pc := pc.below B; replace HB := Hqb HB B; clear B; have xXR := XR.cell; have zXR0 := XR.frozen; go_wp2; clear xXR zXR0
         have SX := StN.mk4 XR (.int .i64 K3) (.bool s3) (.int .u64 M3) (.int .i64 E3); exact bodyPost_ret (by simp [results, Tryz.results77, go_sem, SX.box.cell]) rfl ⟨_, _, _, _, rfl, q3, (SX.below HB.out (by omega))⟩
def PR2 (w : World) (v : Nat) (e : Ending) (w' : World) : Prop := ∃ A, e = .returned (.slice A 2 2) ∧ Rd w' A 2 2 v ∧ Below w.heap.size w w'
theorem qLimbs {w : World} {M : Int} {N : Nat} (hM : (N : Int) = M) (h : N < 18446744073709551616) : Calls Tryz.prog 112 #[.int .u64 M] w (PR2 w N) := by
 subst hM
 go_enter Tryz.func112, Tryz.ntmps112
 go_wp2
 go_ret
 exact ⟨_, rfl, two_rd _ (by simp) (k := N) (by omega) (by omega) h, bel1 _ _⟩
theorem qmoved_up {w : World} {A : Option Addr} {n c α k r : Nat} (h : Rd w A n c α) (hn : n ≤ 8000) (hk : k ≤ 200000) (hr : α * 2 ^ k = r) : Calls Tryz.prog 160 #[.slice A n c, .int .i64 (k : Int)] w (P1B w 15000 r true) := by
 have HR := Lib.hid hr; clear hr
 have hd : decide ((0 : Int) ≤ (k : Int)) = true := decide_eq_true (Int.natCast_nonneg k)
 go_enter Tryz.func160, Tryz.ntmps160
 go_wp2_with fail
 refine (vShlE h (by omega) (by omega) HR.out).mono ?_; rintro ee w2 ⟨A2, n2, c2, rfl, p2, k2, B2⟩; go_wp2; exact bodyPost_ret (v := .tuple #[.slice A2 n2 c2, .bool true]) (by simp [results, Tryz.results160, go_sem]) rfl ⟨A2, n2, c2, rfl, p2, by omega, B2⟩
theorem qmoved_dn {w : World} {A : Option Addr} {n c α k d r : Nat} {z y : Int} {t : Bool} (h : Rd w A n c α) (hn : n ≤ 8000) (hk : k ≤ 200000) (h0 : 0 < k) (hz : -z = (k : Int)) (hr : α / 2 ^ k = r) (hd : r * 2 ^ k = d) (hy : cmpI (d : Int) (α : Int) = y) (ht : (y == 0) = t) : Calls Tryz.prog 160 #[.slice A n c, .int .i64 z] w (P1B w 15000 r t) := by
 have HR : Hid (α / 2 ^ (k : Int).toNat = r) := Lib.hid (by rw [Int.toNat_natCast]; exact hr)
 have HD := Lib.hid hd; have HY := Lib.hid hy
 have hlt : decide (0 ≤ z) = false := decide_eq_false (by omega)
 have hlt2 : ¬ (0 ≤ z) := by omega
 have hw : IntKind.i64.wrap (-z) = (k : Int) := by rw [hz]; exact IntWalk.i64_in _ (by omega)
 clear hr hd hy
 go_enter Tryz.func160, Tryz.ntmps160
 go_wp2_with fail
 refine (vShrE (z := (k : Int)) h (by omega) HR.out).mono ?_; rintro ee w2 ⟨A2, n2, c2, rfl, p2, k2, B2⟩
 go_wp2_with fail
 refine (vShlE p2.rd (by omega) (by omega) HD.out).mono ?_; rintro ee w3 ⟨A3, n3, c3, rfl, p3, k3, B3⟩
 go_wp2_with fail
 refine (vCmpE p3.rd ((h.below B2).below B3) HY.out).mono ?_; rintro ee w4 ⟨rfl, B4⟩; go_wp2; exact bodyPost_ret (v := .tuple #[.slice A2 n2 c2, .bool t]) (by simp [results, Tryz.results160, go_sem]) rfl ⟨A2, n2, c2, rfl, (p2.below B3).below B4, by omega, bt B2 (bt B3 B4)⟩
theorem qAway {w : World} {up : Bool} {r : Int} (hr : sgi (!up) TP = r) : Calls Tryz.prog 133 #[.bool up] w (PN w r) := by
 have HR := Lib.hid hr; clear hr
 go_enter Tryz.func133, Tryz.ntmps133
 go_upto_region 1 with (fail)
 generalize hW1 : w.alloc _ = w1 at *; obtain ⟨XR, HB⟩ := Bo.en1 hW1; clear hW1
 go_wp2_with fail
 refine (nInf (s := !up) HR.out).mono ?_; rintro ee w2 ⟨K1, s1, M1, E1, rfl, q1, B⟩; replace XR := XR.below B; replace HB := Hqb HB B; clear B; have xXR := XR.cell; have zXR0 := XR.frozen; go_wp2; clear xXR zXR0; have SX := StN.mk4 XR (.int .i64 K1) (.bool s1) (.int .u64 M1) (.int .i64 E1); exact bodyPost_ret (by simp [results, Tryz.results133, go_sem, SX.box.cell]) rfl ⟨_, _, _, _, rfl, q1, (SX.below HB.out (by omega))⟩
theorem fq_tk7 {D : Int} {s : Bool} {M E : Int} (hM : LQ M) : ∃ K1 s1 M1 E1, Fq K1 s1 M1 E1 (rk D s M E) := by
 by_cases hm : MayQ D s M E
 · exact ⟨_, _, _, _, rk_fq hM hm⟩
 · rw [rk_not hm]; exact ⟨_, _, _, _, Fq.nought⟩
theorem qTaken {w : World} {D M E : Int} {s : Bool} {K1 M1 E1 x : Int} {s1 : Bool} (hM : LQ M) (q : Fq K1 s1 M1 E1 x) (hx : rk D s M E = x) : Calls Tryz.prog 110 #[VQ D s M E] w (fun e w' => e = .returned (.agg #[.int .i64 K1, .bool s1, .int .u64 M1, .int .i64 E1]) ∧ Below w.heap.size w w') := by
 delta VQ
 by_cases hm : MayQ D s M E
 · obtain ⟨rfl, rfl, rfl, rfl⟩ := q.uniq (hx ▸ rk_fq hM hm)
   have HC := Lib.hid (show decide (MayQ K1 s1 M1 E1) = true from decide_eq_true hm)
   clear hm hx hM q
   go_enter Tryz.func110, Tryz.ntmps110
   go_upto_region 1 with (fail)
   generalize hW1 : (w.alloc _).alloc _ = w1 at *; obtain ⟨X1, XR, HB⟩ := Bo.en2 hW1; clear hW1; have xX1 := X1.cell
   go_wp2_with fail
   refine (nMay HC.out).mono ?_; rintro ee w2 ⟨rfl, B⟩; clear xX1; replace X1 := X1.below B; replace XR := XR.below B; replace HB := Hqb HB B; clear B; have xXR := XR.cell; have zXR0 := XR.frozen; have xX1 := X1.cell; go_wp2; clear xXR zXR0 xX1; have SX := StN.mk4 XR (.int .i64 K1) (.bool s1) (.int .u64 M1) (.int .i64 E1)
   exact bodyPost_ret (v := .agg #[.int .i64 K1, .bool s1, .int .u64 M1, .int .i64 E1]) (by simp [results, Tryz.results110, go_sem, SX.box.cell]) rfl ⟨rfl, (SX.below HB.out (by omega))⟩
 · rw [rk_not hm] at hx; subst hx; obtain ⟨rfl, rfl, rfl, rfl⟩ := q.uniq Fq.nought
   have HC := Lib.hid (show decide (MayQ D s M E) = false from decide_eq_false hm)
   clear hm hM q
   go_enter Tryz.func110, Tryz.ntmps110
   go_upto_region 1 with (fail)
   generalize hW1 : (w.alloc _).alloc _ = w1 at *; obtain ⟨X1, XR, HB⟩ := Bo.en2 hW1; clear hW1; have xX1 := X1.cell
   go_wp2_with fail
   refine (nMay HC.out).mono ?_; rintro ee w2 ⟨rfl, B⟩; clear xX1; replace X1 := X1.below B; replace XR := XR.below B; replace HB := Hqb HB B; clear B; have xXR := XR.cell; have zXR0 := XR.frozen; have xX1 := X1.cell; go_wp2; clear xXR zXR0 xX1; have SX := StN.mk4 XR (.int .i64 0) (.bool false) (.int .u64 0) (.int .i64 0)
   exact bodyPost_ret (v := .agg #[.int .i64 0, .bool false, .int .u64 0, .int .i64 0]) (by simp [results, Tryz.results110, go_sem, SX.box.cell]) rfl ⟨rfl, (SX.below HB.out (by omega))⟩
end Go.Proofs.YtnbliijpjcmbjaaGreatDoor
namespace Go.Proofs.YtnbliijpjcmbjaaGreatDoor.Jo
open Go Go.RowKit
set_option linter.unusedVariables false
def upd (vs : Nat → Value) (i : Nat) (v : Value) : Nat → Value := fun x => if x = i then v else vs x
theorem upd_same (vs : Nat → Value) (i : Nat) (v : Value) : upd vs i v i = v := if_pos rfl
theorem upd_ne {vs : Nat → Value} {i j : Nat} {v : Value} (h : j ≠ i) : upd vs i v j = vs j := if_neg h
section
variable {P : Program} {md : Region.Mode} {ops : Array Oper} {Q : Exit → Act → World → Prop} {a0 : Act} {T : List Nat} {dst : Nat → Option Tmp} {D : Nat → List Nat} {k : Nat} {I : List Nat → (Nat → Value) → World → Prop}
def StepsI (P : Program) (ops : Array Oper) (Q : Exit → Act → World → Prop) (a0 : Act) (dst : Nat → Option Tmp) (D : Nat → List Nat) (I : List Nat → (Nat → Value) → World → Prop) (T : List Nat) : Prop :=
 ∀ i ∈ T, ∀ l vs w, I l vs w → i ∉ l → (∀ j ∈ D i, j ∈ l) → wpOp P ops Q i (fun a' w' => ∃ v, a' = (base dst vs (D i) a0).put (dst i) v ∧ I (l ++ [i]) (upd vs i v) w') (base dst vs (D i) a0) w
theorem StepsI.nil : StepsI P ops Q a0 dst D I [] := fun _ h => by cases h
theorem StepsI.cons {i : Nat} {o : Oper} {r : List Nat} (ho : ops[i]? = some o)
   (h : ∀ l vs w, I l vs w → i ∉ l → (∀ j ∈ D i, j ∈ l) → ∀ K : Act → World → Prop, Shut (∀ v w', I (l ++ [i]) (upd vs i v) w' → K ((base dst vs (D i) a0).put (dst i) v) w') →
     if Region.wanted o (yielded ops (base dst vs (D i) a0).tmps) = true then Oper.wp P o (base dst vs (D i) a0) w K Q else K ((base dst vs (D i) a0).put o.dst undef) w)
   (hs : StepsI P ops Q a0 dst D I r) : StepsI P ops Q a0 dst D I (i :: r) := fun j hj => by
 rcases List.mem_cons.1 hj with rfl | hj
 · exact fun l vs w hI hn hd => wpOp_step ho (fun K hK => h l vs w hI hn hd K (fun v w' h1 => hK _ _ ⟨v, rfl, h1⟩))
 · exact hs j hj
theorem wpAny_inv (w0 : World) (hok : ok md ops T dst D k a0.tmps.size = true) (hnd : T.Nodup) (hQ : ∀ c a b w, Q (.panic c) b w → Q (.panic c) a w)
   (h0 : I [] (fun _ => undef) w0) (step : StepsI P ops Q a0 dst D I T)
   (fin : ∀ l vs w, (∀ j, j ∈ l ↔ j ∈ T) → I l vs w → wpAny P md ops Q (ops.size - T.length) (mark T ops.size) (base dst vs T a0) w) :
   wpAny P md ops Q ops.size (Array.replicate ops.size false) a0 w0 := by
 unfold ok at hok
 simp only [Bool.and_eq_true, List.all_eq_true, List.mem_range, Bool.or_eq_true, decide_eq_true_eq, List.contains_iff_mem] at hok; obtain ⟨⟨hsel, hT⟩, hx⟩ := hok
 have hinj : ∀ i ∈ T, ∀ j ∈ T, ∀ d, dst i = some d → dst j = some d → i = j := fun i hi j hj d => (okAt_spec (hT i hi)).2.2.2.1 j hj d
 have go : ∀ (fuel : Nat) (l : List Nat) (vs : Nat → Value) (w : World) (L : Array Bool), fuel + l.length = ops.size → l.Nodup → (∀ j ∈ l, j ∈ T) → (∀ j ∈ l, ∀ x ∈ dep md ops j, x ∈ l) → Good ops.size l L → I l vs w → wpAny P md ops Q fuel L (base dst vs l a0) w := by
   intro fuel
   induction fuel with
   | zero =>
     intro l vs w L hf hn hl hcl hg hI
     by_cases hall : ∀ j ∈ T, j ∈ l
     · have hs : ∀ j, j ∈ l ↔ j ∈ T := fun j => ⟨hl j, hall j⟩
       have h1 := nodup_le hn hl; have h2 := nodup_le hnd hall
       have := fin l vs w hs hI
       rw [← hg.eq (good_mark T ops.size) hs, ← base_same hinj hl (fun _ h => h) hs, show ops.size - T.length = 0 by omega] at this
       exact this
     · exfalso
       obtain ⟨j, hj⟩ := Classical.not_forall.1 hall; obtain ⟨hj, hjl⟩ := Classical.not_imp.1 hj
       have := nodup_le (l := j :: l) (m := List.range ops.size) (List.nodup_cons.2 ⟨hjl, hn⟩) (fun x hx => List.mem_range.2 (by
         rcases List.mem_cons.1 hx with rfl | hx
         · exact (okAt_spec (hT x hj)).1
         · exact (okAt_spec (hT x (hl x hx))).1))
       simp at this
       omega
   | succ fuel ih =>
     intro l vs w L hf hn hl hcl hg hI
     by_cases hall : ∀ j ∈ T, j ∈ l
     · have hs : ∀ j, j ∈ l ↔ j ∈ T := fun j => ⟨hl j, hall j⟩
       have h1 := nodup_le hn hl; have h2 := nodup_le hnd hall
       have := fin l vs w hs hI
       rw [← hg.eq (good_mark T ops.size) hs, ← base_same hinj hl (fun _ h => h) hs, show ops.size - T.length = fuel + 1 by omega] at this
       exact this
     · obtain ⟨j0, hj0⟩ := Classical.not_forall.1 hall; obtain ⟨hj0, hj0l⟩ := Classical.not_imp.1 hj0
       have rdy : ∀ m, m < ops.size → m ∉ l → ∃ r, r ∈ Region.ready md ops L := by
         intro m
         induction m using Nat.strongRecOn with
         | ind m ihm =>
           intro hm hml
           by_cases hd : ∀ x ∈ dep md ops m, x ∈ l
           · refine ⟨m, mem_ready.2 ⟨by rw [Array.getD_eq_getD_getElem?, hg.2 m hm]; simp [hml], ops[m], by simp [hm], fun e he hb => ?_⟩⟩
             have : e.on ∈ dep md ops m := by
               simp only [dep, hm, Array.getElem?_eq_getElem, Option.map_some, Option.getD_some]; exact List.mem_map.2 ⟨e, List.mem_filter.2 ⟨by simpa using he, hb⟩, rfl⟩
             have hlt := (okAt_spec (hT _ (hl _ (hd _ this)))).1; rw [Array.getD_eq_getD_getElem?, hg.2 _ hlt]
             simp [hd _ this]
           · obtain ⟨x, hx1⟩ := Classical.not_forall.1 hd; obtain ⟨hx1, hx2⟩ := Classical.not_imp.1 hx1; have hlt := (hx m hm).1 x hx1; exact ihm x hlt (by omega) hx2
       refine ⟨fun hr => ?_, fun i hi => ?_⟩
       · obtain ⟨r, hr2⟩ := rdy j0 (okAt_spec (hT j0 hj0)).1 hj0l; rw [hr] at hr2
         cases hr2
       · obtain ⟨h0, o, ho, haf⟩ := mem_ready.1 hi
         have hlt : i < ops.size := (Array.getElem?_eq_some_iff.1 ho).1
         have hil : i ∉ l := by
           rw [Array.getD_eq_getD_getElem?, hg.2 i hlt] at h0
           simpa using h0
         have hdep : ∀ x ∈ dep md ops i, x ∈ l := by
           intro x hx1
           simp only [dep, ho, Option.map_some, Option.getD_some] at hx1; obtain ⟨e, he, rfl⟩ := List.mem_map.1 hx1; obtain ⟨he1, he2⟩ := List.mem_filter.1 he; have h1 := haf e (by simpa using he1) he2; have h2 := (hx i hlt).1 e.on (by simp only [dep, ho, Option.map_some, Option.getD_some]; exact List.mem_map.2 ⟨e, he, rfl⟩); rw [Array.getD_eq_getD_getElem?, hg.2 _ (by omega)] at h1
           simpa using h1
         have hiT : i ∈ T := by
           rcases (hx i hlt).2 with h | h
           · exact h
           · exact absurd (anc_sub hcl k _ hdep j0 (h j0 hj0)) hj0l
         obtain ⟨_, hds, hsz, hin, hD, hlk⟩ := okAt_spec (hT i hiT)
         have hds' : o.dst = dst i := by rw [← hds, ho]; rfl
         have hDl : ∀ j ∈ D i, j ∈ l := fun j hj => anc_sub hcl k _ hdep j (hD j hj).2
         have hstep := step i hiT l vs w hI hil hDl; rw [← hds'] at hstep
         have hag : ∀ t ∈ o.looksAt ops, (base dst vs l a0).tmps[t]? = (base dst vs (D i) a0).tmps[t]? := by
           intro t ht
           by_cases h : ∃ j ∈ l, dst j = some t
           · obtain ⟨j, hj, hd⟩ := h
             have htz : t < a0.tmps.size := (okAt_spec (hT j (hl j hj))).2.2.1 t hd
             have hjD := hlk o ho t ht j (hl j hj) hd
             rw [base_hit hd l a0 hj htz (fun x hx hx2 => hinj x (hl x hx) j (hl j hj) t hx2 hd), base_hit hd (D i) a0 hjD htz (fun x hx hx2 => hinj x (hl x (hDl x hx)) j (hl j hj) t hx2 hd)]
           · rw [base_miss l a0 (fun j hj hd => h ⟨j, hj, hd⟩), base_miss (D i) a0 (fun j hj hd => h ⟨j, hDl j hj, hd⟩)]
         have := wpOp_frame ho (Region.noSelect_spec hsel i o · · ho) hag hQ (fun d hd => by rw [base_size]; exact hsz d (hds' ▸ hd)) hstep
         refine wpOp_mono ?_ this; rintro a' w' ⟨v, rfl, h1⟩
         have e : (base dst vs l a0).put o.dst v = base dst (upd vs i v) (l ++ [i]) a0 := by
           rw [base_snoc, upd_same, hds']
           congr 1
           exact base_vs l a0 (fun j hj => by
             have hne : j ≠ i := fun e => hil (e ▸ hj)
             rw [upd_ne hne])
         rw [e]; refine ih (l ++ [i]) _ w' _ (by simp; omega) ?_ ?_ ?_ (hg.set i) h1
         · rw [List.nodup_append]
           refine ⟨hn, by simp, fun x hx y hy => ?_⟩
           simp at hy
           subst hy
           exact fun e => hil (e ▸ hx)
         · intro j hj
           rcases List.mem_append.1 hj with h | h
           · exact hl j h
           · simp at h; subst h; exact hiT
         · intro j hj x hx1
           rcases List.mem_append.1 hj with h | h
           · exact List.mem_append_left _ (hcl j h x hx1)
           · simp at h; subst h; exact List.mem_append_left _ (hdep x hx1)
 exact go ops.size [] (fun _ => undef) w0 _ (by simp) (by simp) (fun _ h => by cases h) (fun _ h => by cases h) (good_nil _) h0
end
section
variable {P : Program} {ops : Array Oper} {Q : Exit → Act → World → Prop} {a0 : Act} {T : List Nat} {ds : List (Option Tmp)} {ls : List (List Nat)} {k : Nat} {I : List Nat → (Nat → Value) → World → Prop}
theorem icons {i : Nat} {o : Oper} {r : List Nat} {di : Option Tmp} {L : List (Option Tmp × Nat)} (ho : ops[i]? = some o) (hdi : ds.getD i none = di) (hL : ((ls.getD i []).map fun j => (ds.getD j none, j)) = L)
   (h : ∀ l vs w, I l vs w → i ∉ l → (∀ j ∈ ls.getD i [], j ∈ l) → ∀ K : Act → World → Prop, Shut (∀ v w', I (l ++ [i]) (upd vs i v) w' → K ((putl vs L a0).put di v) w') →
     if Region.wanted o (yielded ops (putl vs L a0).tmps) = true then Oper.wp P o (putl vs L a0) w K Q else K ((putl vs L a0).put o.dst undef) w)
   (hs : StepsI P ops Q a0 (dstOf ds) (depOf ls) I r) : StepsI P ops Q a0 (dstOf ds) (depOf ls) I (i :: r) := by
 refine StepsI.cons ho (fun l vs w hI hn hd K hK => ?_) hs
 have e : base (dstOf ds) vs (depOf ls i) a0 = putl vs L a0 := by
   rw [base_putl, ← hL]
   rfl
 rw [e] at hK ⊢; refine h l vs w hI hn hd K ?_
 intro v w' h1
 have := hK.out v w' h1
 rwa [show dstOf ds i = di from hdi] at this
theorem region_inv {id fuel : Nat} {w : World} {L : List (Option Tmp × Nat)} (hm : P.follows .mixedOrders = true) (hok : ok .any ops T (dstOf ds) (depOf ls) k a0.tmps.size = true) (hnd : T.Nodup)
   (hL : (T.map fun j => (ds.getD j none, j)) = L) (hfu : ops.size - T.length = fuel) (h0 : I [] (fun _ => undef) w.drew)
   (step : StepsI P ops (NoPanic Q) a0 (dstOf ds) (depOf ls) I T)
   (fin : ∀ l vs wj, (∀ j, j ∈ l ↔ j ∈ T) → I l vs wj → wpAny P .any ops (NoPanic Q) fuel (mark T ops.size) (putl vs L a0) wj) :
   (Code.region id ops true).wp P Q a0 w := by
 refine wp_region_noPanic ?_
 refine wp_region_any hm (wpAny_inv (T := T) (dst := dstOf ds) (D := depOf ls) (k := k) (I := I) _ hok hnd (fun _ _ _ _ h => h) h0 step ?_)
 intro l vs w hl hI
 have e : base (dstOf ds) vs T a0 = putl vs L a0 := by
   rw [base_putl, ← hL]
   rfl
 rw [e, hfu]; exact fin l vs w hl hI
end
def Two2 (w1 : World) (p0 n0 p2 n2 : Value) (old new : Array Value) (R : TypeId) (l : List Nat) (vs : Nat → Value) (w : World) : Prop :=
 Below w1.heap.size w1 w ∧ (6 ∈ l → 4 ∈ l ∧ 5 ∈ l) ∧ (0 ∈ l → vs 0 = p0) ∧ (1 ∈ l → vs 1 = n0) ∧ (2 ∈ l → vs 2 = p2) ∧ (3 ∈ l → vs 3 = n2) ∧
   (4 ∈ l → ∃ g, vs 4 = .pointer (some ⟨g, 0, none⟩) ∧ w1.heap.size ≤ g ∧ (6 ∈ l → Bo w g new R) ∧ (6 ∉ l → Bo w g old R)) ∧
   (5 ∈ l → ∃ g, vs 5 = .pointer (some ⟨g, 0, none⟩) ∧ w1.heap.size ≤ g ∧ Bo w g old R) ∧ (4 ∈ l → 5 ∈ l → vs 4 ≠ vs 5)
section
variable {w1 w w' : World} {p0 n0 p2 n2 v : Value} {old new : Array Value} {R : TypeId} {l : List Nat} {vs : Nat → Value} {i : Nat}
theorem Two2.nil : Two2 w1 p0 n0 p2 n2 old new R [] (fun _ => undef) w1.drew := ⟨(br _ _).drew, by simp, by simp, by simp, by simp, by simp, by simp, by simp, by simp⟩
theorem Two2.pure (h : Two2 w1 p0 n0 p2 n2 old new R l vs w) (hn : i ∉ l) (hv : i = 0 ∧ v = p0 ∨ i = 1 ∧ v = n0 ∨ i = 2 ∧ v = p2 ∨ i = 3 ∧ v = n2) : Two2 w1 p0 n0 p2 n2 old new R (l ++ [i]) (upd vs i v) w := by
 obtain ⟨h1, h2, h3, h4, h5, h6, h7, h8, h9⟩ := h
 have key : ∀ j u, (j = 0 ∧ u = p0 ∨ j = 1 ∧ u = n0 ∨ j = 2 ∧ u = p2 ∨ j = 3 ∧ u = n2) → (j ∈ l → vs j = u) → j ∈ l ++ [i] → upd vs i v j = u := by
   intro j u hj hl hm
   by_cases e : j = i
   · subst e; rw [upd_same]
     rcases hv with ⟨a, b⟩ | ⟨a, b⟩ | ⟨a, b⟩ | ⟨a, b⟩ <;> rcases hj with ⟨c, d⟩ | ⟨c, d⟩ | ⟨c, d⟩ | ⟨c, d⟩ <;> first | (exfalso; omega) | (rw [b, d])
   · rw [upd_ne e]
     rcases List.mem_append.1 hm with h | h
     · exact hl h
     · simp at h; exact absurd h e
 have i4 : i < 4 := by omega
 have e4 : upd vs i v 4 = vs 4 := upd_ne (by omega)
 have e5 : upd vs i v 5 = vs 5 := upd_ne (by omega)
 have m : ∀ j, 4 ≤ j → (j ∈ l ++ [i] ↔ j ∈ l) := fun j hj => by
   rw [List.mem_append]
   constructor
   · rintro (h | h)
     · exact h
     · simp at h; omega
   · exact .inl
 unfold Two2
 rw [m 4 (by omega), m 5 (by omega), m 6 (by omega), e4, e5]; exact ⟨h1, h2, key 0 p0 (.inl ⟨rfl, rfl⟩) h3, key 1 n0 (.inr (.inl ⟨rfl, rfl⟩)) h4, key 2 p2 (.inr (.inr (.inl ⟨rfl, rfl⟩))) h5, key 3 n2 (.inr (.inr (.inr ⟨rfl, rfl⟩))) h6, h7, h8, h9⟩
theorem Two2.low (h3 : 0 ∈ l → vs 0 = p0) (h4 : 1 ∈ l → vs 1 = n0) (h5 : 2 ∈ l → vs 2 = p2) (h6 : 3 ∈ l → vs 3 = n2) (hi : 4 ≤ i) :
   (0 ∈ l ++ [i] → upd vs i v 0 = p0) ∧ (1 ∈ l ++ [i] → upd vs i v 1 = n0) ∧ (2 ∈ l ++ [i] → upd vs i v 2 = p2) ∧ (3 ∈ l ++ [i] → upd vs i v 3 = n2) := by
 have m : ∀ j, j < 4 → j ∈ l ++ [i] → j ∈ l := fun j hj h => by
   rcases List.mem_append.1 h with h | h
   · exact h
   · simp at h; omega
 exact ⟨fun h => by rw [upd_ne (by omega)]; exact h3 (m 0 (by omega) h), fun h => by rw [upd_ne (by omega)]; exact h4 (m 1 (by omega) h), fun h => by rw [upd_ne (by omega)]; exact h5 (m 2 (by omega) h), fun h => by rw [upd_ne (by omega)]; exact h6 (m 3 (by omega) h)⟩
theorem mem_snoc {j : Nat} (h : j ≠ i) : j ∈ l ++ [i] ↔ j ∈ l := by
 rw [List.mem_append]
 constructor
 · rintro (e | e)
   · exact e
   · simp at e; exact absurd e h
 · exact .inl
theorem Two2.new4 (h : Two2 w1 p0 n0 p2 n2 old new R l vs w) (hn : 4 ∉ l) : Two2 w1 p0 n0 p2 n2 old new R (l ++ [4]) (upd vs 4 (.pointer (some ⟨w.heap.size, 0, none⟩))) (w.alloc (.cells old R)) := by
 obtain ⟨h1, h2, h3, h4, h5, h6, h7, h8, h9⟩ := h; obtain ⟨k3, k4, k5, k6⟩ := Two2.low (i := 4) (v := .pointer (some ⟨w.heap.size, 0, none⟩)) h3 h4 h5 h6 (Nat.le_refl _)
 have n6 : 6 ∉ l := fun c => hn (h2 c).1
 have b := bel1 w (.cells old R)
 unfold Two2
 rw [mem_snoc (j := 6) (by decide), mem_snoc (j := 5) (by decide), upd_same, upd_ne (j := 5) (by decide)]
 refine ⟨bt h1 b, fun c => absurd c n6, k3, k4, k5, k6, fun _ => ⟨_, rfl, h1.size, fun c => absurd c n6, fun _ => Bo.new _ _ _⟩, fun c => ?_, fun _ c => ?_⟩
 · obtain ⟨g, e, hg, X⟩ := h8 c; exact ⟨g, e, hg, X.below b⟩
 · obtain ⟨g, e, hg, X⟩ := h8 c; rw [e]
   intro c
   injection c with c
   injection c with c
   injection c with c
   have := X.lt
   omega
theorem Two2.new5 (h : Two2 w1 p0 n0 p2 n2 old new R l vs w) (hn : 5 ∉ l) : Two2 w1 p0 n0 p2 n2 old new R (l ++ [5]) (upd vs 5 (.pointer (some ⟨w.heap.size, 0, none⟩))) (w.alloc (.cells old R)) := by
 obtain ⟨h1, h2, h3, h4, h5, h6, h7, h8, h9⟩ := h; obtain ⟨k3, k4, k5, k6⟩ := Two2.low (i := 5) (v := .pointer (some ⟨w.heap.size, 0, none⟩)) h3 h4 h5 h6 (by decide)
 have n6 : 6 ∉ l := fun c => hn (h2 c).2
 have b := bel1 w (.cells old R)
 unfold Two2
 rw [mem_snoc (j := 6) (by decide), mem_snoc (j := 4) (by decide), upd_same, upd_ne (j := 4) (by decide)]
 refine ⟨bt h1 b, fun c => absurd c n6, k3, k4, k5, k6, fun c => ?_, fun _ => ⟨_, rfl, h1.size, Bo.new _ _ _⟩, fun c _ => ?_⟩
 · obtain ⟨g, e, hg, _, X⟩ := h7 c
   exact ⟨g, e, hg, fun c => absurd c n6, fun _ => (X n6).below b⟩
 · obtain ⟨g, e, hg, _, X⟩ := h7 c; rw [e]
   intro c
   injection c with c
   injection c with c
   injection c with c
   have := (X n6).lt
   omega
theorem Two2.sto {g : Nat} (h : Two2 w1 p0 n0 p2 n2 old new R l vs w) (hn : 6 ∉ l) (m4 : 4 ∈ l) (m5 : 5 ∈ l) (hg : vs 4 = .pointer (some ⟨g, 0, none⟩)) (S : StN w w' g old new R) : Two2 w1 p0 n0 p2 n2 old new R (l ++ [6]) (upd vs 6 v) w' := by
 obtain ⟨h1, h2, h3, h4, h5, h6, h7, h8, h9⟩ := h; obtain ⟨k3, k4, k5, k6⟩ := Two2.low (i := 6) (v := v) h3 h4 h5 h6 (by decide)
 have m6 : 6 ∈ l ++ [6] := by simp
 unfold Two2
 rw [mem_snoc (j := 4) (by decide), mem_snoc (j := 5) (by decide), upd_ne (j := 4) (by decide), upd_ne (j := 5) (by decide)]; obtain ⟨g1, e1, hb1, _, _⟩ := h7 m4
 obtain rfl : g1 = g := by
   rw [e1] at hg
   injection hg with c
   injection c with c
   injection c
 obtain ⟨g2, e2, hb2, X2⟩ := h8 m5
 have hne : g2 ≠ g1 := fun c => h9 m4 m5 (by rw [e1, e2, c])
 exact ⟨S.below h1 hb1, fun _ => ⟨m4, m5⟩, k3, k4, k5, k6, fun _ => ⟨g1, e1, hb1, fun _ => S.box, fun c => absurd m6 c⟩, fun _ => ⟨g2, e2, hb2, X2.stn S hne⟩, h9⟩
theorem Two2.box4 (h : Two2 w1 p0 n0 p2 n2 old new R l vs w) (m4 : 4 ∈ l) (hn : 6 ∉ l) : ∃ g, vs 4 = .pointer (some ⟨g, 0, none⟩) ∧ Bo w g old R := by
 obtain ⟨_, _, _, _, _, _, h7, _⟩ := h; obtain ⟨g, e, _, _, X⟩ := h7 m4; exact ⟨g, e, X hn⟩
theorem Two2.all (h : Two2 w1 p0 n0 p2 n2 old new R l vs w) (hl : ∀ j, j ∈ l ↔ j ∈ [0, 1, 2, 3, 4, 5, 6]) : Below w1.heap.size w1 w ∧ vs 0 = p0 ∧ vs 1 = n0 ∧ vs 2 = p2 ∧ vs 3 = n2 ∧ ∃ g g', vs 4 = .pointer (some ⟨g, 0, none⟩) ∧ vs 5 = .pointer (some ⟨g', 0, none⟩) ∧ w1.heap.size ≤ g ∧ w1.heap.size ≤ g' ∧ g ≠ g' ∧ Bo w g new R ∧ Bo w g' old R := by
 obtain ⟨h1, h2, h3, h4, h5, h6, h7, h8, h9⟩ := h; have m4 := (hl 4).2 (by decide); have m5 := (hl 5).2 (by decide); have m6 := (hl 6).2 (by decide); obtain ⟨g, e, hb, X0, _⟩ := h7 m4; obtain ⟨g', e', hb', X'⟩ := h8 m5; have X := X0 m6
 exact ⟨h1, h3 ((hl 0).2 (by decide)), h4 ((hl 1).2 (by decide)), h5 ((hl 2).2 (by decide)), h6 ((hl 3).2 (by decide)), g, g', e, e', hb, hb', fun c => h9 m4 m5 (by rw [e, e', c]), X, X'⟩
end
end Go.Proofs.YtnbliijpjcmbjaaGreatDoor.Jo
