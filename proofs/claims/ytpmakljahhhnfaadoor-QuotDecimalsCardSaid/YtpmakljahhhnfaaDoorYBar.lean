/-
  Contracts and words that the statement's proof rests on, several texts in one: Hb, Ga, Kk, Mq.
-/
import Derived.Below
import Derived.BigQuiet
import Derived.Carry
import Derived.Deep.DeepCutAuto
import Derived.Deep.Draws
import Derived.Deep.MidRow
import Derived.Deep.QuietTactic
import Derived.Deep.RegionHeld3
import Derived.Deep.RegionWith
import Derived.IntWalk
import Derived.Laws.CopyOwn
import Derived.Laws.MakeOwn
import Derived.Laws.OwnMore
import Derived.Laws.Rows
import Derived.Lib.BitFns
import Derived.Lib.Hide
import Derived.Maps.AppendAt
import Derived.StillTailTactics
import Derived.Test.YtpmakljahhhnfaaDoorRows
import Derived.WalkKit
import Derived.WalkLawsBesides
import Derived.WalkSpells
import Derived.Test.YtpmakljahhhnfaaDoorYBaf
import Derived.Test.YtpmakljahhhnfaaDoorYBag
import Derived.Test.YtpmakljahhhnfaaDoorYBah
import Derived.Test.YtpmakljahhhnfaaDoorYBaj
import Derived.Test.YtpmakljahhhnfaaDoorYBal
import Derived.Test.YtpmakljahhhnfaaDoorYBam
import Derived.Test.YtpmakljahhhnfaaDoorYBao
import Derived.Test.YtpmakljahhhnfaaDoorYBaq
/-
  A number of 128 bits, raised to its highest bit; the place next to it, and what it is rounded to. Plain arithmetic; no Go text.
-/
namespace Go.Proofs.YtpmakljahhhnfaaDoor
open Go.RowKit
set_option linter.unusedVariables false

theorem raise_top {h l : Nat} (h0 : h ≠ 0) (hh : h < 18446744073709551616) :
    blen (h * 18446744073709551616 + l) = 64 + blen h ∨ 18446744073709551616 ≤ l := by
  rcases Nat.lt_or_ge l 18446744073709551616 with hl | hl
  · left
    have := blen_shift (h * 18446744073709551616 + l) 64 (by omega)
    rw [this]
    congr 2
    omega
  · exact .inr hl
/-- Raised: the 64 highest bits, whether there is something behind them, and how far. -/
def Ra (S : Nat) (F T K X : Int) : Prop := 0 ≤ T ∧ T < 18446744073709551616 ∧ 0 ≤ K ∧ K < 18446744073709551616 ∧ T = (tp S : Nat) ∧ (S ≠ 0 → X = xp S F ∧ (K = 0 ↔ tp S * 2 ^ blen S = S * 2 ^ 64))
theorem ra_low {l : Nat} {e : Int} (hl : l < 18446744073709551616) : Ra l (e - 64) ((l * 2 ^ (64 - blen l) : Nat) : Int) 0 (e - 64 - (64 - (blen l : Int))) := by
  have hb := blen_mono_le (n := l) (k := 64) hl
  have ht := tp_small hb
  have h2 := tp_lt l
  rw [ht] at h2
  refine ⟨by omega, by omega, by omega, by omega, by rw [ht], fun h0 => ⟨by unfold xp; omega, fun _ => ?_, fun _ => rfl⟩⟩
  rw [ht, Nat.mul_assoc, ← Nat.pow_add]
  congr 2
  omega
theorem ra_high {h l : Nat} {e : Int} (h0 : h ≠ 0) (hh : h < 18446744073709551616) (hl : l < 18446744073709551616) :
    Ra (h * 18446744073709551616 + l) (e - 64) ((h * 2 ^ (64 - blen h) + l / 2 ^ blen h : Nat) : Int) ((l * 2 ^ (64 - blen h) % 18446744073709551616 : Nat) : Int) (e - (64 - (blen h : Int))) := by
  have hb := blen_mono_le (n := h) (k := 64) hh
  have hbs : blen (h * 18446744073709551616 + l) = 64 + blen h := by
    rcases raise_top (l := l) h0 hh with q | q
    · exact q
    · omega
  have hp : 0 < 2 ^ blen h := Nat.pow_pos (by decide)
  have hn : 2 ^ 64 = 2 ^ (64 - blen h) * 2 ^ blen h := by rw [← Nat.pow_add]; congr 1; omega
  have hn' : (18446744073709551616 : Nat) = 2 ^ blen h * 2 ^ (64 - blen h) := by rw [Nat.mul_comm, ← hn]
  have ht : tp (h * 18446744073709551616 + l) = h * 2 ^ (64 - blen h) + l / 2 ^ blen h := by
    unfold tp
    rw [hbs, Nat.pow_add, Nat.mul_comm (2 ^ 64) (2 ^ blen h), Nat.mul_div_mul_right _ _ (Nat.pow_pos (by decide)), hn', show h * (2 ^ blen h * 2 ^ (64 - blen h)) = 2 ^ blen h * (h * 2 ^ (64 - blen h)) by rw [← Nat.mul_assoc, Nat.mul_comm h, Nat.mul_assoc], Nat.mul_add_div hp]
  have hm : l * 2 ^ (64 - blen h) % 18446744073709551616 = l % 2 ^ blen h * 2 ^ (64 - blen h) := by
    rw [hn', Nat.mul_mod_mul_right]
  have ht2 := tp_lt (h * 18446744073709551616 + l)
  have hml := Nat.mod_lt (l * 2 ^ (64 - blen h)) (show 0 < 18446744073709551616 by decide)
  refine ⟨by omega, by omega, by omega, by omega, by rw [ht], fun _ => ⟨?_, ?_⟩⟩
  · unfold xp
    rw [hbs]
    omega
  · rw [hm, hbs, ht, Nat.pow_add, Nat.mul_comm (2 ^ 64) (2 ^ blen h), ← Nat.mul_assoc]
    have hd := Nat.div_add_mod l (2 ^ blen h)
    have hS : h * 18446744073709551616 + l = (h * 2 ^ (64 - blen h) + l / 2 ^ blen h) * 2 ^ blen h + l % 2 ^ blen h := by
      rw [Nat.add_mul, Nat.mul_assoc h, ← hn, Nat.mul_comm (l / 2 ^ blen h), Nat.add_assoc, hd]
    rw [hS]
    have hp2 : 0 < 2 ^ (64 - blen h) := Nat.pow_pos (by decide)
    revert hS
    generalize (h * 2 ^ (64 - blen h) + l / 2 ^ blen h) * 2 ^ blen h = Z
    generalize l % 2 ^ blen h = m
    intro _
    constructor
    · intro q
      have q1 : m * 2 ^ (64 - blen h) = 0 := by exact_mod_cast q
      have q2 : m = 0 := by
        rcases Nat.mul_eq_zero.1 q1 with c | c
        · exact c
        · omega
      rw [q2, Nat.add_zero]
    · intro q
      have q1 : Z = Z + m := Nat.eq_of_mul_eq_mul_right (show 0 < 2 ^ 64 by decide) q
      have q2 : m = 0 := by omega
      rw [q2, Nat.zero_mul]
      rfl
/-- Is the place next to it that number itself? -/
def exw (S : Nat) (F : Int) : Bool := S == 0 || (decide (xp S F ≤ 1048576) && (decide (-1048576 ≤ xp S F) && decide (tp S * 2 ^ blen S = S * 2 ^ 64)))
theorem exw_odd {m : Nat} (ho : m % 2 = 1) (t : Nat) (F : Int) : exw (m * 2 ^ t) F = ext m (F + t) := by
  have h0 : m ≠ 0 := by omega
  have h2 : m * 2 ^ t ≠ 0 := Nat.mul_ne_zero h0 (Nat.ne_of_gt (Nat.pow_pos (by decide)))
  have ex : xp (m * 2 ^ t) F = xp m (F + t) := by
    unfold xp
    rw [blen_mul h0]
    omega
  have e1 : (m * 2 ^ t == 0) = false := by simpa using h2
  have e2 : (m == 0) = false := by simpa using h0
  have e3 : (tp (m * 2 ^ t) * 2 ^ blen (m * 2 ^ t) = m * 2 ^ t * 2 ^ 64) ↔ blen m ≤ 64 := by
    rw [tp_mul h0, blen_mul h0, Nat.pow_add, ← Nat.mul_assoc, Nat.mul_right_comm m]
    constructor
    · intro q
      have q1 := Nat.eq_of_mul_eq_mul_right (Nat.pow_pos (n := t) (show 0 < 2 by decide)) q
      rcases Nat.lt_or_ge 64 (blen m) with c | c
      · exfalso
        rw [show 2 ^ blen m = 2 ^ (blen m - 65) * 2 * 2 ^ 64 by rw [← Nat.pow_succ, ← Nat.pow_add]; congr 1; omega, ← Nat.mul_assoc] at q1
        have q2 := Nat.eq_of_mul_eq_mul_right (show 0 < 2 ^ 64 by decide) q1
        rw [← Nat.mul_assoc] at q2
        omega
      · exact c
    · intro c
      rw [tp_small c, Nat.mul_assoc m, ← Nat.pow_add, show 64 - blen m + blen m = 64 by omega]
  unfold exw ext
  rw [ex, e1, e2, decide_eq_decide.2 e3]
theorem wide_rnd {S : Nat} {F N E : Int} {neg : Bool} (hS : S < 340282366920938463463374607431768211456) (h1 : -3000000 ≤ F) (h2 : F ≤ 3000000) (hN : (mk (sgi neg (S : Int)) F).1 = N) (hE : (mk (sgi neg (S : Int)) F).2 = E) :
    (exw S F = true → ∀ up, rnd up N E = sgi neg (lo S F)) ∧ rnd neg N E = sgi neg (lo S F) ∧ (exw S F = false → rnd (!neg) N E = nx (!neg) (sgi neg (lo S F))) := by
  by_cases h0 : S = 0
  · subst h0
    have e0 : sgi neg ((0 : Nat) : Int) = 0 := by cases neg <;> rfl
    rw [e0, mk_zero] at hN hE
    subst hN
    subst hE
    have e1 : sgi neg (lo 0 F) = 0 := by
      have : lo 0 F = 0 := by
        unfold lo
        rw [if_pos rfl]
      rw [this]
      cases neg <;> rfl
    have e2 : exw 0 F = true := by
      unfold exw
      rfl
    rw [e1, e2]
    exact ⟨fun _ up => rnd_nought up, rnd_nought neg, fun c => absurd c (by decide)⟩
  · have hab : (sgi neg (S : Int)).natAbs = S := by rw [sgi_abs neg (by omega)]; omega
    obtain ⟨s1, s2⟩ := v2_spec S h0
    have hv : v2 S < 128 := by
      have h3 := v2_pow_le h0
      have h4 : 2 ^ v2 S < 2 ^ 128 := by omega
      exact (Nat.pow_lt_pow_iff_right (by decide)).1 h4
    have hz : sgi neg (S : Int) ≠ 0 := by
      intro c
      rw [c] at hab
      exact h0 hab.symm
    obtain ⟨m1, m2, m3, m4, m5⟩ := mk_in (z := sgi neg (S : Int)) (e := F) hz (by omega) (by rw [hab]; omega)
    rw [hab] at m1 m2
    rw [hE] at m1
    rw [hN] at m2 m3
    have hsn : neg = decide (N < 0) := by
      cases neg
      · rw [wsg_f] at m3
        exact (decide_eq_false (by omega)).symm
      · rw [wsg_t] at m3
        exact (decide_eq_true (by omega)).symm
    have hx : exw S F = ext N.natAbs E := by
      rw [m2, m1]
      conv => lhs; rw [s1]
      exact exw_odd s2 _ F
    have hl : lo S F = lo N.natAbs E := by
      rw [m2, m1]
      conv => lhs; rw [s1]
      exact lo_mul (by omega) _ F
    rw [hx, hl]
    refine ⟨fun c up => ?_, ?_, fun c => ?_⟩
    · rw [rnd_ext c, ← hsn]
    · exact rnd_same hsn rfl
    · rw [rnd_diff hsn, nx_lo neg c]
end Go.Proofs.YtpmakljahhhnfaaDoor

/-
  What the document's Fair, Add, Mul, Sub, Half, Twice of layer 6 do.
-/
namespace Go.Proofs.YtpmakljahhhnfaaDoor
open Go.RowKit
set_option linter.unusedVariables false
set_option linter.unusedSimpArgs false
set_option maxRecDepth 100000

theorem fq_inf {D : Int} {s : Bool} {M E x : Int} (q : Fq D s M E x) : infp x = (D == 2) := by
  have htp := TP_eq
  rcases q.cases with ⟨rfl, rfl, rfl, rfl, h0⟩ | ⟨rfl, h1, h2, h3, h4, ⟨rfl, h5⟩ | ⟨rfl, h5⟩⟩ | ⟨rfl, rfl, rfl, ⟨rfl, h5⟩ | ⟨rfl, h5⟩⟩ <;> unfold infp <;> rw [Bool.eq_iff_iff] <;> simp <;> omega
theorem fq_fin {D : Int} {s : Bool} {M E x : Int} (q : Fq D s M E x) (h : D ≠ 2) : 0 ≤ M ∧ exb D s M E = true ∧ exq D s M E = ep x := by
  have hb : exb D s M E = true := by
    unfold exb
    rw [decide_eq_true q.1, Bool.true_and]
    simpa using h
  exact ⟨by rcases q.cases with ⟨_, _, h, _⟩ | ⟨_, h, _⟩ | ⟨_, h, _⟩ <;> omega, hb, exq_ep q hb⟩
end Go.Proofs.YtpmakljahhhnfaaDoor

/-
  What every statement of layer 5 begins with: the chapter's examples.
-/
namespace Go.Proofs.YtpmakljahhhnfaaDoor
open Go.RowKit
set_option linter.unusedVariables false
set_option linter.unusedSimpArgs false
set_option maxRecDepth 100000

theorem blen_one : blen 1 = 1 := blen_uniq (k := 0) (by decide) (by decide) (by decide)
theorem tp_one1 : tp 1 = 9223372036854775808 := by
  rw [tp_small (by rw [blen_one]; decide), blen_one]
theorem fq_one : Fq 1 false 9223372036854775808 (-63) (sgi (decide ((1 : Int) < 0)) (lo (1 : Int).natAbs 0)) := by
  have := of_fq (n := 1) (by decide) (by decide) (by decide)
  rw [show (1 : Int).natAbs = 1 from rfl, tp_one1, blen_one] at this
  exact this
end Go.Proofs.YtpmakljahhhnfaaDoor

/-
  What the helpers of quotients do: limbs, moved, away, taken, power.
-/
namespace Go.Proofs.YtpmakljahhhnfaaDoor
open Go.RowKit
set_option linter.unusedVariables false
set_option linter.unusedSimpArgs false
set_option maxRecDepth 100000

/-- Two limbs are answered. -/
def PR2 (w : World) (v : Nat) (e : Ending) (w' : World) : Prop := ∃ A, e = .returned (.slice A 2 2) ∧ Rd w' A 2 2 v ∧ Below w.heap.size w w'
theorem qLimbs {w : World} {M : Int} {N : Nat} (hM : (N : Int) = M) (h : N < 18446744073709551616) : Calls Tryd.prog 31 #[.int .u64 M] w (PR2 w N) := by
  subst hM
  go_enter Tryd.func31, Tryd.ntmps31
  go_wp2
  go_ret
  exact ⟨_, rfl, two_rd _ (by simp) (k := N) (by omega) (by omega) h, bel1 _ _⟩
theorem qmoved_up {w : World} {A : Option Addr} {n c α k r : Nat} (h : Rd w A n c α) (hn : n ≤ 8000) (hk : k ≤ 200000) (hr : α * 2 ^ k = r) : Calls Tryd.prog 61 #[.slice A n c, .int .i64 (k : Int)] w (P1B w 15000 r true) := by
  have HR := Lib.hid hr
  clear hr
  have hd : decide ((0 : Int) ≤ (k : Int)) = true := decide_eq_true (Int.natCast_nonneg k)
  go_enter Tryd.func61, Tryd.ntmps61
  go_wp2_with fail
  refine (vShlE h (by omega) (by omega) HR.out).mono ?_
  rintro ee w2 ⟨A2, n2, c2, rfl, p2, k2, B2⟩
  go_wp2
  exact bodyPost_ret (v := .tuple #[.slice A2 n2 c2, .bool true]) (by simp [results, Tryd.results61, go_sem]) rfl ⟨A2, n2, c2, rfl, p2, by omega, B2⟩
theorem qmoved_dn {w : World} {A : Option Addr} {n c α k d r : Nat} {z y : Int} {t : Bool} (h : Rd w A n c α) (hn : n ≤ 8000) (hk : k ≤ 200000) (h0 : 0 < k) (hz : -z = (k : Int)) (hr : α / 2 ^ k = r) (hd : r * 2 ^ k = d) (hy : cmpI (d : Int) (α : Int) = y) (ht : (y == 0) = t) : Calls Tryd.prog 61 #[.slice A n c, .int .i64 z] w (P1B w 15000 r t) := by
  have HR : Hid (α / 2 ^ (k : Int).toNat = r) := Lib.hid (by rw [Int.toNat_natCast]; exact hr)
  have HD := Lib.hid hd
  have HY := Lib.hid hy
  have hlt : decide (0 ≤ z) = false := decide_eq_false (by omega)
  have hlt2 : ¬ (0 ≤ z) := by omega
  have hw : IntKind.i64.wrap (-z) = (k : Int) := by rw [hz]; exact IntWalk.i64_in _ (by omega)
  clear hr hd hy
  go_enter Tryd.func61, Tryd.ntmps61
  go_wp2_with fail
  refine (vShrE (z := (k : Int)) h (by omega) HR.out).mono ?_
  rintro ee w2 ⟨A2, n2, c2, rfl, p2, k2, B2⟩
  go_wp2_with fail
  refine (vShlE p2.rd (by omega) (by omega) HD.out).mono ?_
  rintro ee w3 ⟨A3, n3, c3, rfl, p3, k3, B3⟩
  go_wp2_with fail
  refine (vCmpE p3.rd ((h.below B2).below B3) HY.out).mono ?_
  rintro ee w4 ⟨rfl, B4⟩
  go_wp2
  exact bodyPost_ret (v := .tuple #[.slice A2 n2 c2, .bool t]) (by simp [results, Tryd.results61, go_sem]) rfl ⟨A2, n2, c2, rfl, (p2.below B3).below B4, by omega, bt B2 (bt B3 B4)⟩
set_option maxHeartbeats 2000000 in
theorem qAway {w : World} {up : Bool} {r : Int} (hr : sgi (!up) TP = r) : Calls Tryd.prog 28 #[.bool up] w (PN w r) := by
  have HR := Lib.hid hr
  clear hr
  go_enter Tryd.func28, Tryd.ntmps28
  go_upto_region 1 with (fail)
  have XR := (Bo.newAt w (g := w.heap.size) (by simp) #[.int .i64 0, .bool false, .int .u64 0, .int .i64 0] 24)
  have HB := Lib.hid (bel1 w (.cells #[.int .i64 0, .bool false, .int .u64 0, .int .i64 0] 24))
  generalize hW1 : (w.alloc (.cells #[.int .i64 0, .bool false, .int .u64 0, .int .i64 0] 24)) = w1 at *
  clear hW1
  go_wp2_with fail
  refine (nInf (s := !up) HR.out).mono ?_
  rintro ee w2 ⟨K1, s1, M1, E1, rfl, q1, B⟩
  replace XR := XR.below B
  replace HB := Lib.hid (bt HB.out B)
  clear B
  have xXR0 := XR.a 0 (.int .i64 0) rfl
  have zXR0 := XR.frozen 0
  have xXR1 := XR.a 1 (.bool false) rfl
  have zXR1 := XR.frozen 1
  have xXR2 := XR.a 2 (.int .u64 0) rfl
  have zXR2 := XR.frozen 2
  have xXR3 := XR.a 3 (.int .i64 0) rfl
  have zXR3 := XR.frozen 3
  go_wp2
  clear xXR0 zXR0 xXR1 zXR1 xXR2 zXR2 xXR3 zXR3
  have SX := StN.mk4 XR (.int .i64 K1) (.bool s1) (.int .u64 M1) (.int .i64 E1)
  replace HB := Lib.hid (SX.below HB.out (by omega))
  replace XR := SX.box
  clear SX
  generalize (World.setCell (World.setCell (World.setCell (World.setCell w2 ⟨w.heap.size, 0, none⟩ (.int .i64 K1)) ⟨w.heap.size, 1, none⟩ (.bool s1)) ⟨w.heap.size, 2, none⟩ (.int .u64 M1)) ⟨w.heap.size, 3, none⟩ (.int .i64 E1)) = w3 at *
  have r0 := XR.cell 0
  have r1 := XR.cell 1
  have r2 := XR.cell 2
  have r3 := XR.cell 3
  exact bodyPost_ret (v := .agg #[.int .i64 K1, .bool s1, .int .u64 M1, .int .i64 E1]) (by simp [results, Tryd.results28, go_sem, r0, r1, r2, r3]) rfl ⟨_, _, _, _, rfl, q1, HB.out⟩
theorem fq_tk7 {D : Int} {s : Bool} {M E : Int} (hM : M < 18446744073709551616) : ∃ K1 s1 M1 E1, Fq K1 s1 M1 E1 (rk D s M E) := by
  by_cases hm : MayQ D s M E
  · exact ⟨_, _, _, _, rk_fq hM hm⟩
  · rw [rk_not hm]
    exact ⟨_, _, _, _, Fq.nought⟩
set_option maxHeartbeats 2000000 in
theorem qTaken {w : World} {D M E : Int} {s : Bool} {K1 M1 E1 x : Int} {s1 : Bool} (hM : M < 18446744073709551616) (q : Fq K1 s1 M1 E1 x) (hx : rk D s M E = x) : Calls Tryd.prog 27 #[.agg #[.int .i64 D, .bool s, .int .u64 M, .int .i64 E]] w (fun e w' => e = .returned (.agg #[.int .i64 K1, .bool s1, .int .u64 M1, .int .i64 E1]) ∧ Below w.heap.size w w') := by
  by_cases hm : MayQ D s M E
  · obtain ⟨rfl, rfl, rfl, rfl⟩ := q.uniq (hx ▸ rk_fq hM hm)
    have HC := Lib.hid (show decide (MayQ K1 s1 M1 E1) = true from decide_eq_true hm)
    clear hm hx hM q
    go_enter Tryd.func27, Tryd.ntmps27
    go_upto_region 1 with (fail)
    have X1 := (Bo.newAt w (g := w.heap.size) (by simp) #[.int .i64 K1, .bool s1, .int .u64 M1, .int .i64 E1] 24).below (bel1 _ (.cells #[.int .i64 0, .bool false, .int .u64 0, .int .i64 0] 24))
    have XR := (Bo.newAt (w.alloc (.cells #[.int .i64 K1, .bool s1, .int .u64 M1, .int .i64 E1] 24)) (g := w.heap.size + 1) (by simp) #[.int .i64 0, .bool false, .int .u64 0, .int .i64 0] 24)
    have HB := Lib.hid (bel2 w (.cells #[.int .i64 K1, .bool s1, .int .u64 M1, .int .i64 E1] 24) (.cells #[.int .i64 0, .bool false, .int .u64 0, .int .i64 0] 24))
    generalize hW1 : ((w.alloc (.cells #[.int .i64 K1, .bool s1, .int .u64 M1, .int .i64 E1] 24)).alloc (.cells #[.int .i64 0, .bool false, .int .u64 0, .int .i64 0] 24)) = w1 at *
    clear hW1
    have xX10 := X1.a 0 (.int .i64 K1) rfl
    have xX11 := X1.a 1 (.bool s1) rfl
    have xX12 := X1.a 2 (.int .u64 M1) rfl
    have xX13 := X1.a 3 (.int .i64 E1) rfl
    go_wp2_with fail
    refine (nMay HC.out).mono ?_
    rintro ee w2 ⟨rfl, B⟩
    clear xX10 xX11 xX12 xX13
    replace X1 := X1.below B
    replace XR := XR.below B
    replace HB := Lib.hid (bt HB.out B)
    clear B
    have xXR0 := XR.a 0 (.int .i64 0) rfl
    have zXR0 := XR.frozen 0
    have xXR1 := XR.a 1 (.bool false) rfl
    have zXR1 := XR.frozen 1
    have xXR2 := XR.a 2 (.int .u64 0) rfl
    have zXR2 := XR.frozen 2
    have xXR3 := XR.a 3 (.int .i64 0) rfl
    have zXR3 := XR.frozen 3
    have xX10 := X1.a 0 (.int .i64 K1) rfl
    have xX11 := X1.a 1 (.bool s1) rfl
    have xX12 := X1.a 2 (.int .u64 M1) rfl
    have xX13 := X1.a 3 (.int .i64 E1) rfl
    go_wp2
    clear xXR0 zXR0 xXR1 zXR1 xXR2 zXR2 xXR3 zXR3 xX10 xX11 xX12 xX13
    have SX := StN.mk4 XR (.int .i64 K1) (.bool s1) (.int .u64 M1) (.int .i64 E1)
    replace X1 := X1.stn SX (by omega)
    replace HB := Lib.hid (SX.below HB.out (by omega))
    replace XR := SX.box
    clear SX
    generalize (World.setCell (World.setCell (World.setCell (World.setCell w2 ⟨w.heap.size + 1, 0, none⟩ (.int .i64 K1)) ⟨w.heap.size + 1, 1, none⟩ (.bool s1)) ⟨w.heap.size + 1, 2, none⟩ (.int .u64 M1)) ⟨w.heap.size + 1, 3, none⟩ (.int .i64 E1)) = w3 at *
    have r0 := XR.cell 0
    have r1 := XR.cell 1
    have r2 := XR.cell 2
    have r3 := XR.cell 3
    exact bodyPost_ret (v := .agg #[.int .i64 K1, .bool s1, .int .u64 M1, .int .i64 E1]) (by simp [results, Tryd.results27, go_sem, r0, r1, r2, r3]) rfl ⟨rfl, HB.out⟩
  · rw [rk_not hm] at hx
    subst hx
    obtain ⟨rfl, rfl, rfl, rfl⟩ := q.uniq Fq.nought
    have HC := Lib.hid (show decide (MayQ D s M E) = false from decide_eq_false hm)
    clear hm hM q
    go_enter Tryd.func27, Tryd.ntmps27
    go_upto_region 1 with (fail)
    have X1 := (Bo.newAt w (g := w.heap.size) (by simp) #[.int .i64 D, .bool s, .int .u64 M, .int .i64 E] 24).below (bel1 _ (.cells #[.int .i64 0, .bool false, .int .u64 0, .int .i64 0] 24))
    have XR := (Bo.newAt (w.alloc (.cells #[.int .i64 D, .bool s, .int .u64 M, .int .i64 E] 24)) (g := w.heap.size + 1) (by simp) #[.int .i64 0, .bool false, .int .u64 0, .int .i64 0] 24)
    have HB := Lib.hid (bel2 w (.cells #[.int .i64 D, .bool s, .int .u64 M, .int .i64 E] 24) (.cells #[.int .i64 0, .bool false, .int .u64 0, .int .i64 0] 24))
    generalize hW1 : ((w.alloc (.cells #[.int .i64 D, .bool s, .int .u64 M, .int .i64 E] 24)).alloc (.cells #[.int .i64 0, .bool false, .int .u64 0, .int .i64 0] 24)) = w1 at *
    clear hW1
    have xX10 := X1.a 0 (.int .i64 D) rfl
    have xX11 := X1.a 1 (.bool s) rfl
    have xX12 := X1.a 2 (.int .u64 M) rfl
    have xX13 := X1.a 3 (.int .i64 E) rfl
    go_wp2_with fail
    refine (nMay HC.out).mono ?_
    rintro ee w2 ⟨rfl, B⟩
    clear xX10 xX11 xX12 xX13
    replace X1 := X1.below B
    replace XR := XR.below B
    replace HB := Lib.hid (bt HB.out B)
    clear B
    have xXR0 := XR.a 0 (.int .i64 0) rfl
    have zXR0 := XR.frozen 0
    have xXR1 := XR.a 1 (.bool false) rfl
    have zXR1 := XR.frozen 1
    have xXR2 := XR.a 2 (.int .u64 0) rfl
    have zXR2 := XR.frozen 2
    have xXR3 := XR.a 3 (.int .i64 0) rfl
    have zXR3 := XR.frozen 3
    have xX10 := X1.a 0 (.int .i64 D) rfl
    have xX11 := X1.a 1 (.bool s) rfl
    have xX12 := X1.a 2 (.int .u64 M) rfl
    have xX13 := X1.a 3 (.int .i64 E) rfl
    go_wp2
    clear xXR0 zXR0 xXR1 zXR1 xXR2 zXR2 xXR3 zXR3 xX10 xX11 xX12 xX13
    have SX := StN.mk4 XR (.int .i64 0) (.bool false) (.int .u64 0) (.int .i64 0)
    replace X1 := X1.stn SX (by omega)
    replace HB := Lib.hid (SX.below HB.out (by omega))
    replace XR := SX.box
    clear SX
    generalize (World.setCell (World.setCell (World.setCell (World.setCell w2 ⟨w.heap.size + 1, 0, none⟩ (.int .i64 0)) ⟨w.heap.size + 1, 1, none⟩ (.bool false)) ⟨w.heap.size + 1, 2, none⟩ (.int .u64 0)) ⟨w.heap.size + 1, 3, none⟩ (.int .i64 0)) = w3 at *
    have r0 := XR.cell 0
    have r1 := XR.cell 1
    have r2 := XR.cell 2
    have r3 := XR.cell 3
    exact bodyPost_ret (v := .agg #[.int .i64 0, .bool false, .int .u64 0, .int .i64 0]) (by simp [results, Tryd.results27, go_sem, r0, r1, r2, r3]) rfl ⟨rfl, HB.out⟩
theorem ten_len {k : Nat} : (((10 ^ k : Nat) : Int)).natAbs < 4294967296 ^ (k + 1) := by
  rw [Int.natAbs_natCast]
  have h1 : 10 ^ k ≤ 4294967296 ^ k := Nat.pow_le_pow_left (by decide) k
  have h2 : 0 < 4294967296 ^ k := Nat.pow_pos (by decide)
  rw [Nat.pow_succ]
  omega
def PowInv (w : World) (g3 : Nat) (k : Nat) (wr : World) : Prop :=
  ∃ s A m c s2 B d2 e2, Bo wr g3 #[.bool s, .slice A m c] 28 ∧ Bo wr (g3 + 1) #[.bool s2, .slice B d2 e2] 28 ∧ Bo wr w.heap.size #[.bool false, .slice none 0 0] 28 ∧ Wn wr s A m c ((10 ^ k : Nat) : Int) ∧ Wn wr s2 B d2 e2 10 ∧ w.heap.size < g3 ∧ Below w.heap.size w wr
theorem prd_ten (j : Nat) : prd [((10 ^ j : Nat) : Int), 10] = ((10 ^ (j + 1) : Nat) : Int) := by
  have : prd [((10 ^ j : Nat) : Int), 10] = ((10 ^ j : Nat) : Int) * 10 := by simp [prd]
  rw [this, Nat.pow_succ, Int.natCast_mul]
  rfl
set_option maxHeartbeats 2000000 in
theorem qPower {w : World} {k : Nat} {t : Int} (ht : (k : Int) = t) (hk : k ≤ 1000) : Calls Tryd.prog 50 #[.int .i64 t] w (W1 w (k + 1) ((10 ^ k : Nat) : Int)) := by
  subst ht
  go_enter Tryd.func50, Tryd.ntmps50
  go_upto_region 1 with (fail)
  have XR := (Bo.newAt w (g := w.heap.size) (by simp) #[.bool false, .slice none 0 0] 28)
  have HB := Lib.hid (bel1 w (.cells #[.bool false, .slice none 0 0] 28))
  generalize hW1 : (w.alloc (.cells #[.bool false, .slice none 0 0] 28)) = w1 at *
  clear hW1
  go_wp2_with fail
  refine (wFrom 1 _ (by decide) (by decide)).mono ?_
  rintro ee w2 ⟨s1, A1, n1, c1, rfl, p1, k1, B⟩
  replace XR := XR.below B
  replace HB := Lib.hid (bt HB.out B)
  clear B
  go_wp2_with fail
  refine (wFrom 10 _ (by decide) (by decide)).mono ?_
  rintro ee w3 ⟨s2, A2, n2, c2, rfl, p2, k2, B⟩
  replace XR := XR.below B
  replace p1 := p1.below B
  replace HB := Lib.hid (bt HB.out B)
  clear B
  go_upto_region 2 with (fail)
  have e4 : (World.alloc w3 (.cells #[.bool s1, .slice A1 n1 c1] 28)).heap.size = w3.heap.size + 1 := by simp
  have lX3 := Nat.le_refl (World.heap w3).size
  have nX3XR := XR.lt
  replace XR := XR.below (bel1 _ (.cells #[.bool s1, .slice A1 n1 c1] 28))
  replace p1 := p1.below (bel1 _ (.cells #[.bool s1, .slice A1 n1 c1] 28))
  replace p2 := p2.below (bel1 _ (.cells #[.bool s1, .slice A1 n1 c1] 28))
  replace HB := Lib.hid (bt HB.out (bel1 _ (.cells #[.bool s1, .slice A1 n1 c1] 28)))
  have X3 := Bo.new w3 #[.bool s1, .slice A1 n1 c1] 28
  generalize hWn : World.alloc w3 (.cells #[.bool s1, .slice A1 n1 c1] 28) = w4 at *
  clear hWn
  have lX4 := Nat.le_refl (World.heap w4).size
  have nX4XR := XR.lt
  have nX4X3 := X3.lt
  replace XR := XR.below (bel1 _ (.cells #[.bool s2, .slice A2 n2 c2] 28))
  replace X3 := X3.below (bel1 _ (.cells #[.bool s2, .slice A2 n2 c2] 28))
  replace p1 := p1.below (bel1 _ (.cells #[.bool s2, .slice A2 n2 c2] 28))
  replace p2 := p2.below (bel1 _ (.cells #[.bool s2, .slice A2 n2 c2] 28))
  replace HB := Lib.hid (bt HB.out (bel1 _ (.cells #[.bool s2, .slice A2 n2 c2] 28)))
  have X4 := Bo.new w4 #[.bool s2, .slice A2 n2 c2] 28
  generalize hWn : World.alloc w4 (.cells #[.bool s2, .slice A2 n2 c2] 28) = w5 at *
  clear hWn
  rw [e4] at X4
  have HI0 := Lib.hid (show PowInv w w3.heap.size 0 w5 from ⟨s1, A1, n1, c1, s2, A2, n2, c2, X3, X4, XR, p1, p2, nX3XR, HB.out⟩)
  clear X3 X4 XR p1 p2 HB lX3 lX4 nX3XR nX4XR nX4X3 k1 k2 e4
  generalize w3.heap.size = g3 at HI0 ⊢
  go_wp2
  go_loopw [8] (fun i wr => ∃ j : Nat, i = .int .i64 j ∧ j ≤ k ∧ PowInv w g3 j wr) (fun i _ => 2000 - (intOf i).toNat)
  case atStart => exact ⟨0, rfl, Nat.zero_le _, HI0.out⟩
  case round =>
    obtain ⟨j, rfl, hj, s6, A6, m6, c6, s7, B7, d7, e7, X3, X4, XR, p6, p7, g1, hB⟩ := hrel
    have HB := Lib.hid hB
    clear hB HI0
    have k6 := p6.len_le (k := j + 1) ten_len
    have k7 := p7.len_le (k := 1) (by decide)
    by_cases hlt : j < k
    · have tlt : decide ((j : Int) < (k : Int)) = true := by simp; omega
      have HP := Lib.hid (prd_ten j)
      have xX30 := X3.a 0 (.bool s6) rfl
      have xX31 := X3.a 1 (.slice A6 m6 c6) rfl
      have xX40 := X4.a 0 (.bool s7) rfl
      have xX41 := X4.a 1 (.slice B7 d7 e7) rfl
      go_wp2_with fail
      refine (wMul (K := j + 1) (Wl.lit2 rfl p6.wr p7.wr (by omega) (by omega)) (by omega) HP.out).mono ?_
      rintro ee w8 ⟨s8, A8, n8, c8, rfl, p8, k8, B⟩
      clear xX30 xX31 xX40 xX41
      replace B := bt (bel1 _ _) B
      replace X3 := X3.below B
      replace X4 := X4.below B
      replace XR := XR.below B
      replace p6 := p6.below B
      replace p7 := p7.below B
      replace HB := Lib.hid (bt HB.out B)
      clear B
      clear p6 HP k6 k7
      have xX30 := X3.a 0 (.bool s6) rfl
      have zX30 := X3.frozen 0
      have xX31 := X3.a 1 (.slice A6 m6 c6) rfl
      have zX31 := X3.frozen 1
      go_wp2
      clear xX30 zX30 xX31 zX31
      have SX := StN.mk2 X3 (.bool s8) (.slice A8 n8 c8)
      replace X4 := X4.stn SX (by omega)
      replace XR := XR.stn SX (by omega)
      replace p7 := p7.stn SX (by simp [no32])
      replace p8 := p8.stn SX (by simp [no32])
      replace HB := Lib.hid (SX.below HB.out (by omega))
      replace X3 := SX.box
      clear SX
      generalize (World.setCell (World.setCell w8 ⟨g3, 0, none⟩ (.bool s8)) ⟨g3, 1, none⟩ (.slice A8 n8 c8)) = w9 at *
      have HI := Lib.hid (show PowInv w g3 (j + 1) w9 from ⟨s8, A8, n8, c8, s7, B7, d7, e7, X3, X4, XR, p8, p7, g1, HB.out⟩)
      clear X3 X4 XR p7 p8 HB
      go_roundw
      case rel => exact ⟨j + 1, by simp, by omega, HI.out⟩
      case measure => simp [intOf]; omega
    · obtain rfl : j = k := by omega
      have xXR0 := XR.a 0 (.bool false) rfl
      have zXR0 := XR.frozen 0
      have xXR1 := XR.a 1 (.slice none 0 0) rfl
      have zXR1 := XR.frozen 1
      have xX30 := X3.a 0 (.bool s6) rfl
      have xX31 := X3.a 1 (.slice A6 m6 c6) rfl
      go_wp2
      clear xXR0 zXR0 xXR1 zXR1 xX30 xX31
      have SX := StN.mk2 XR (.bool s6) (.slice A6 m6 c6)
      replace X3 := X3.stn SX (by omega)
      replace X4 := X4.stn SX (by omega)
      replace p6 := p6.stn SX (by simp [no32])
      replace p7 := p7.stn SX (by simp [no32])
      replace HB := Lib.hid (SX.below HB.out (by omega))
      replace XR := SX.box
      clear SX
      generalize (World.setCell (World.setCell wr ⟨w.heap.size, 0, none⟩ (.bool s6)) ⟨w.heap.size, 1, none⟩ (.slice A6 m6 c6)) = w9 at *
      have r0 := XR.cell 0
      have r1 := XR.cell 1
      exact bodyPost_ret (v := .agg #[.bool s6, .slice A6 m6 c6]) (by simp [results, Tryd.results50, go_sem, r0, r1]) rfl ⟨s6, A6, m6, c6, rfl, p6, k6, HB.out⟩
end Go.Proofs.YtpmakljahhhnfaaDoor
