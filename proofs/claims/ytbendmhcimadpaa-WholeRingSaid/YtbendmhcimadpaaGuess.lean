/-
  What nat.guessDigit and nat.takeDigit do.
-/
import Derived.Test.YtbendmhcimadpaaDiva
namespace Go.Proofs.Ytbendmhcimadpaa
open Go.RowKit
set_option linter.unusedVariables false

/-- A guess that is not too small, and of which the two highest limbs of the divisor are in the three highest limbs of the rest, is the digit, or one more. -/
theorem guess_le {P top r2 R' high next v' D : Nat} (hD : D < 4294967296) (hh : 0 < high) (hv : v' < P) (hx : D * (high * 4294967296 + next) ≤ top * 4294967296 + r2) :
    D ≤ (P * (top * 4294967296 + r2) + R') / (P * (high * 4294967296 + next) + v') + 1 := by
  have hP : 0 < P := by omega
  have hV : 0 < P * (high * 4294967296 + next) + v' := by
    have : 0 < P * (high * 4294967296 + next) := Nat.mul_pos hP (by omega)
    omega
  have h1 : D * (P * (high * 4294967296 + next) + v') < (P * (top * 4294967296 + r2) + R') + (P * (high * 4294967296 + next) + v') := by
    have a1 : D * (P * (high * 4294967296 + next)) ≤ P * (top * 4294967296 + r2) := by
      rw [Nat.mul_left_comm]
      exact Nat.mul_le_mul_left P hx
    have a2 : D * v' ≤ 4294967295 * P := Nat.mul_le_mul (by omega) (by omega)
    have a3 : P * 4294967296 ≤ P * (high * 4294967296 + next) := Nat.mul_le_mul_left P (by omega)
    rw [Nat.mul_add]
    omega
  have h2 : (D - 1) * (P * (high * 4294967296 + next) + v') ≤ P * (top * 4294967296 + r2) + R' := by
    rw [Nat.sub_mul, Nat.one_mul]
    omega
  have h3 := (Nat.le_div_iff_mul_le hV).2 h2
  omega

/-- No number that is in the rest is too much for the highest limbs. -/
theorem guess_ge {P top r2 R' high next v' q : Nat} (hR : R' < P) (hq : q * (P * (high * 4294967296 + next) + v') ≤ P * (top * 4294967296 + r2) + R') : q * (high * 4294967296 + next) ≤ top * 4294967296 + r2 := by
  have a1 : P * (q * (high * 4294967296 + next)) ≤ q * (P * (high * 4294967296 + next) + v') := by
    rw [Nat.mul_add q (P * (high * 4294967296 + next)) v', Nat.mul_left_comm q P]
    exact Nat.le_add_right _ _
  have a2 : P * (q * (high * 4294967296 + next)) < P * (top * 4294967296 + r2 + 1) := by
    rw [Nat.mul_add P (top * 4294967296 + r2)]
    omega
  have := Nat.lt_of_mul_lt_mul_left a2
  omega

theorem guess_top {top r2 high next q : Nat} (h2 : r2 < 4294967296) (h : q * (high * 4294967296 + next) ≤ top * 4294967296 + r2) : q * high ≤ top := by
  have a : q * high * 4294967296 ≤ q * (high * 4294967296 + next) := by
    rw [Nat.mul_add, Nat.mul_assoc]
    exact Nat.le_add_right _ _
  have b : q * high * 4294967296 < (top + 1) * 4294967296 := by omega
  have := Nat.lt_of_mul_lt_mul_right b
  omega

/-- The rest and the divisor, by their highest limbs. -/
theorem top3 {rs : List Nat} {n : Nat} (hn : 2 ≤ n) (hl : rs.length = n + 1) : val rs = 4294967296 ^ (n - 2) * ((rs.getD n 0 * 4294967296 + rs.getD (n - 1) 0) * 4294967296 + rs.getD (n - 2) 0) + val (rs.take (n - 2)) := by
  rw [val_take_drop rs (k := n - 2) (by omega), val_drop (by omega), show n - 2 + 1 = n - 1 by omega, val_drop (by omega), show n - 1 + 1 = n by omega, val_drop (by omega), List.drop_eq_nil_of_le (by omega), val_nil, Nat.add_comm]
  congr 2
  omega

theorem top2 {ds : List Nat} {n : Nat} (hn : 2 ≤ n) (hl : ds.length = n) : val ds = 4294967296 ^ (n - 2) * (ds.getD (n - 1) 0 * 4294967296 + ds.getD (n - 2) 0) + val (ds.take (n - 2)) := by
  rw [val_take_drop ds (k := n - 2) (by omega), val_drop (by omega), show n - 2 + 1 = n - 1 by omega, val_drop (by omega), List.drop_eq_nil_of_le (by omega), val_nil, Nat.add_comm]
  congr 2
  omega

/-- What holds of a guess: it is not too small. -/
def GuessInv (q top high : Nat) (D lf : Nat) : Prop := q ≤ D ∧ D < 4294967296 ∧ lf + D * high = top

theorem guess_start {q top high : Nat} (hh : 0 < high) (hq : q < 4294967296) (hqt : q * high ≤ top) : GuessInv q top high (min (top / high) 4294967295) (top - min (top / high) 4294967295 * high) := by
  have h1 := (Nat.le_div_iff_mul_le hh).2 hqt
  have h2 : min (top / high) 4294967295 * high ≤ top := by
    have := Nat.mul_le_mul_right high (Nat.min_le_left (top / high) 4294967295)
    have := Nat.div_mul_le_self top high
    omega
  exact ⟨by omega, by omega, by omega⟩

theorem guess_down {q top r2 high next D lf : Nat} (h : GuessInv q top high D lf) (hqq : q * (high * 4294967296 + next) ≤ top * 4294967296 + r2) (hgt : lf * 4294967296 + r2 < D * next) : GuessInv q top high (D - 1) (lf + high) ∧ 0 < D := by
  obtain ⟨h1, h2, h3⟩ := h
  have hD : 0 < D := by
    rcases Nat.eq_zero_or_pos D with e | e
    · subst e; omega
    · exact e
  have hne : q ≠ D := by
    rintro rfl
    rw [Nat.mul_add, ← Nat.mul_assoc] at hqq
    rw [← h3] at hqq
    omega
  refine ⟨⟨by omega, by omega, ?_⟩, hD⟩
  obtain ⟨d, rfl⟩ : ∃ d, D = d + 1 := ⟨D - 1, by omega⟩
  rw [Nat.add_sub_cancel]
  rw [Nat.add_mul, Nat.one_mul] at h3
  omega

theorem guess_end {q top r2 high next D lf : Nat} (h : GuessInv q top high D lf) (hle : D * next ≤ lf * 4294967296 + r2) : D * (high * 4294967296 + next) ≤ top * 4294967296 + r2 := by
  obtain ⟨_, _, h3⟩ := h
  rw [Nat.mul_add, ← Nat.mul_assoc, ← h3]
  omega

theorem guess_end_big {q top r2 high next D lf : Nat} (h : GuessInv q top high D lf) (hn : next < 4294967296) (hb : 4294967296 ≤ lf) : D * (high * 4294967296 + next) ≤ top * 4294967296 + r2 := by
  apply guess_end h
  have := Nat.mul_le_mul (show D ≤ 4294967295 by have := h.2.1; omega) (show next ≤ 4294967295 by omega)
  omega

/-- The numbers ahead of the loop. -/
theorem guess_nums {a b high : Nat} (ha : a < 4294967296) (hb : b < 4294967296) (hh : 0 < high) :
    ∃ top d0 D p lf : Nat, Hid (top = a * 4294967296 + b) ∧ Hid (D = min (top / high) 4294967295) ∧ Hid (lf = top - D * high) ∧ bits BinOp.or IntKind.u64 ((a : Int) * 4294967296) (b : Int) = top ∧ (top : Int) / high = d0 ∧ IntKind.u64.wrap (d0 : Int) = d0 ∧
      (if (4294967295 : Int) < d0 then (4294967295 : Int) else d0) = D ∧ IntKind.u64.wrap ((D : Int) * high) = p ∧ IntKind.u64.wrap ((top : Int) - p) = lf := by
  have hD : min ((a * 4294967296 + b) / high) 4294967295 * high ≤ a * 4294967296 + b := by
    have := Nat.mul_le_mul_right high (Nat.min_le_left ((a * 4294967296 + b) / high) 4294967295)
    have := Nat.div_mul_le_self (a * 4294967296 + b) high
    omega
  refine ⟨a * 4294967296 + b, (a * 4294967296 + b) / high, min ((a * 4294967296 + b) / high) 4294967295, min ((a * 4294967296 + b) / high) 4294967295 * high, a * 4294967296 + b - min ((a * 4294967296 + b) / high) 4294967295 * high, rfl, rfl, rfl, ?_, ?_, ?_, ?_, ?_, ?_⟩
  · have := or_join a b ha hb
    rw [this]; simp
  · simp
  · exact wrap_u64_nat _ (Nat.lt_of_le_of_lt (Nat.div_le_self _ _) (by omega))
  · split <;> omega
  · have := wrap_u64_nat (min ((a * 4294967296 + b) / high) 4294967295 * high) (by omega)
    simpa using this
  · have := wrap_u64_nat (a * 4294967296 + b - min ((a * 4294967296 + b) / high) 4294967295 * high) (by omega)
    rw [Int.natCast_sub hD] at this
    exact this.trans (by omega)

def GuessPost (w : World) (q : Nat) (e : Ending) (w' : World) : Prop := ∃ D m : Nat, e = .returned (.int .u32 (D : Int)) ∧ w' = w.drewN m ∧ q ≤ D ∧ D ≤ q + 1 ∧ D < 4294967296

set_option maxHeartbeats 1000000 in
theorem guess_any (w : World) (b1 b2 : Nat) (A1 A2 : Option Addr) (n c1 c2 : Nat) (rs ds : List Nat) (h1 : Sl w b1 A1 (n + 1) c1 rs) (h2 : Sl w b2 A2 n c2 ds) (hn : 2 ≤ n) (hh : ds.getD (n - 1) 0 ≠ 0) (hlt : val rs < val ds * 4294967296) :
    Calls Try.prog 75 #[.slice A1 (n + 1) c1, .slice A2 n c2] w (GuessPost w (val rs / val ds)) := by
  have hbig := h1.big
  have T3 := top3 hn h1.len
  have T2 := top2 hn h2.len
  have B1 := val_lt (h1.lim.take (n - 2))
  have B2 := val_lt (h2.lim.take (n - 2))
  rw [List.length_take, h1.len, Nat.min_eq_left (by omega)] at B1
  rw [List.length_take, h2.len, Nat.min_eq_left (by omega)] at B2
  have bA := h1.lim.getD n
  have bB := h1.lim.getD (n - 1)
  have bC := h1.lim.getD (n - 2)
  have bH := h2.lim.getD (n - 1)
  have bN := h2.lim.getD (n - 2)
  obtain ⟨o1, rfl, k1⟩ := h1.at (by omega)
  obtain ⟨o2, rfl, k2⟩ := h2.at (by omega)
  have g1 := k1 n (by omega)
  have g2 := k1 (n - 1) (by omega)
  have g3 := k1 (n - 2) (by omega)
  have g4 := k2 (n - 1) (by omega)
  have g5 := k2 (n - 2) (by omega)
  have hv0 : 0 < val ds := by
    rw [T2]
    have : 0 < 4294967296 ^ (n - 2) * (ds.getD (n - 1) 0 * 4294967296 + ds.getD (n - 2) 0) := Nat.mul_pos (Nat.pow_pos (by decide)) (by omega)
    omega
  have hq : val rs / val ds < 4294967296 := by
    rw [Nat.div_lt_iff_lt_mul hv0, Nat.mul_comm]; exact hlt
  have hqm : val rs / val ds * val ds ≤ val rs := Nat.div_mul_le_self _ _
  clear k1 k2 h1 h2 hlt hv0
  revert T3 T2 bA bB bC bH bN g1 g2 g3 g4 g5 hh hqm hq B1 B2
  generalize rs.getD n 0 = a
  generalize rs.getD (n - 1) 0 = b
  generalize rs.getD (n - 2) 0 = r2
  generalize ds.getD (n - 1) 0 = high
  generalize ds.getD (n - 2) 0 = next
  generalize val (rs.take (n - 2)) = R'
  generalize val (ds.take (n - 2)) = v'
  generalize 4294967296 ^ (n - 2) = P
  generalize val rs = R
  generalize val ds = V
  intro hh T3 T2 B1 B2 bA bB bC bH bN g1 g2 g3 g4 g5 hq hqm
  subst T3
  subst T2
  have hqq := guess_ge B1 hqm
  have HLE := Lib.hid (fun D hD hx => guess_le (P := P) (top := a * 4294967296 + b) (r2 := r2) (next := next) (R' := R') (D := D) hD (Nat.pos_of_ne_zero hh) B2 hx)
  clear hqm B1 B2
  revert hq hqq HLE
  generalize (P * ((a * 4294967296 + b) * 4294967296 + r2) + R') / (P * (high * 4294967296 + next) + v') = q
  intro hq hqq HLE
  obtain ⟨top, d0, D, p, lf, E1, E2, E3, e1, e2, e2', e3, e4, e5⟩ := guess_nums bA bB (Nat.pos_of_ne_zero hh)
  rw [← E1.out] at hqq HLE
  have HI : Hid (GuessInv q top high D lf) := by
    rw [E3.out, E2.out]
    exact guess_start (Nat.pos_of_ne_zero hh) hq (guess_top bC hqq)
  have HQQ := Lib.hid hqq
  clear hqq E1 E2 E3 hq
  have hhp : ((high : Int) == 0) = false := by simpa using hh
  have i1 : ((n : Int) - 1).toNat = n - 1 := by omega
  have i2 : ((n : Int) - 2).toNat = n - 2 := by omega
  go_enter Try.func75, Try.ntmps75
  go_wp2
  go_quiet (fail)
  go_wp2
  go_quiet (fail)
  go_wp2
  clear e1 e2 e2' e3 e4 e5 g1 g2 g4 g5
  go_loop [9, 10] (fun u v => ∃ D lf : Nat, u = .int .u64 D ∧ v = .int .u64 lf ∧ GuessInv q top high D lf) (fun u _ => (intOf u).toNat)
  case atStart => exact ⟨D, lf, rfl, rfl, HI.out⟩
  case round =>
    clear HI
    obtain ⟨D, lf, rfl, rfl, hI⟩ := hrel
    have bD := hI.2.1
    have HI := Lib.hid hI
    clear hI
    by_cases hb : lf < 4294967296
    · obtain ⟨p, ep⟩ : ∃ p : Nat, IntKind.u64.wrap ((D : Int) * next) = p ∧ Hid (p = D * next) := by
        have := prod_lt bD bN
        exact ⟨D * next, by have := wrap_u64_nat (D * next) (by omega); simpa using this, rfl⟩
      obtain ⟨ep, HP⟩ := ep
      obtain ⟨s, es, HS⟩ : ∃ s : Nat, bits BinOp.or IntKind.u64 ((lf : Int) * 4294967296) (r2 : Int) = s ∧ Hid (s = lf * 4294967296 + r2) := ⟨lf * 4294967296 + r2, by rw [or_join lf r2 hb bC]; simp, rfl⟩
      have hb' : ((lf : Int) / 4294967296 == 0) = true := by simp; omega
      by_cases hgt : s < p
      · have hd := guess_down HI.out HQQ.out (by have := HP.out; have := HS.out; omega)
        have hD0 := hd.2
        have HD := Lib.hid hd.1
        clear hd HI
        go_wp2
        go_round
        case rel => exact ⟨D - 1, lf + high, by go_num, by go_num, HD.out⟩
        case measure => simp [intOf]; omega
      · have HE := Lib.hid (HLE.out D bD (guess_end HI.out (by have := HP.out; have := HS.out; omega)))
        have HG := Lib.hid HI.out.1
        clear HI
        go_wp2
        go_ret
        exact ⟨D, _, ret_int (by omega), by first | rfl | rw [World.drewN_drewN], HG.out, HE.out, bD⟩
    · have hb' : ((lf : Int) / 4294967296 == 0) = false := by simp; omega
      have HE := Lib.hid (HLE.out D bD (guess_end_big HI.out bN (by omega)))
      have HG := Lib.hid HI.out.1
      clear HI
      go_wp2
      go_ret
      exact ⟨D, _, ret_int (by omega), by first | rfl | rw [World.drewN_drewN], HG.out, HE.out, bD⟩

theorem Turned.trans {w w1 w2 : World} {g o : Nat} {l zs ys : List Nat} (h : Turned w g o l zs w1) (k : Turned w1 g o (mid l o zs) ys w2) (hl : o + zs.length ≤ l.length) (hz : ys.length = zs.length) : Turned w g o l ys w2 :=
  ⟨by have := k.1; rwa [mid_mid hl hz] at this, grown_trans h.2.1 k.2.1, k.2.2⟩

/-- What takeDigit leaves. -/
def DigitPost (w : World) (g o n : Nat) (l : List Nat) (R V : Nat) (e : Ending) (w' : World) : Prop :=
  e = .returned (.int .u32 ((R / V : Nat) : Int)) ∧ ∃ zs, zs.length = n ∧ Turned w g o l zs w' ∧ val zs = R % V

theorem div_split (R V : Nat) : R / V * V + R % V = R := by rw [Nat.mul_comm]; exact Nat.div_add_mod R V

theorem digit_exact {R V Q r z q P : Nat} (h1 : Q * V + r = R) (h2 : r < V) (hv : R + q * P = z + Q * V) (hz : z < P) : q = 0 ∧ z = r := by
  rcases Nat.eq_zero_or_pos q with e | e
  · subst e; exact ⟨rfl, by omega⟩
  · have := Nat.mul_le_mul_right P e
    omega

theorem digit_over {R V Q r z q P : Nat} (h1 : Q * V + r = R) (h2 : r < V) (hv : R + q * P = z + (Q + 1) * V) : 0 < q := by
  rw [Nat.add_mul, Nat.one_mul] at hv
  rcases Nat.eq_zero_or_pos q with e | e
  · subst e; omega
  · exact e

theorem digit_back {R V Q r z q P z2 cy : Nat} (h1 : Q * V + r = R) (h2 : r < V) (hv : R + q * P = z + (Q + 1) * V) (hz : z < P) (hz2 : z2 < P) (hVP : V < P) (hcy : cy ≤ 1) (hv2 : z2 + cy * P = z + V) : z2 = r := by
  have h0 := digit_over h1 h2 hv
  rw [Nat.add_mul, Nat.one_mul] at hv
  have hq : q = 1 := by
    rcases Nat.lt_or_ge q 2 with e | e
    · omega
    · have := Nat.mul_le_mul_right P e
      omega
  subst hq
  rcases (by omega : cy = 0 ∨ cy = 1) with e | e
  · subst e; omega
  · subst e; omega

set_option maxHeartbeats 1000000 in
theorem takeDigit_any (w : World) (g o n c1 b2 c2 : Nat) (A2 : Option Addr) (l ds : List Nat) (hg : Own w g l) (hl : Lim l) (hn1 : o + (n + 1) ≤ l.length) (hbl : l.length ≤ 1099511627776) (hc1 : n + 1 ≤ c1) (h2 : Sl w b2 A2 n c2 ds) (hne : b2 ≠ g) (hn : 2 ≤ n) (hh : ds.getD (n - 1) 0 ≠ 0)
    (hlt : val ((l.drop o).take (n + 1)) < val ds * 4294967296) :
    Calls Try.prog 71 #[.slice (some ⟨g, o, none⟩) (n + 1) c1, .slice A2 n c2] w (DigitPost w g o (n + 1) l (val ((l.drop o).take (n + 1))) (val ds)) := by
  have h1 := hg.sl hl hn1 hc1 hbl
  have HG := Lib.hid (guess_any w g b2 _ A2 n c1 c2 _ ds h1 h2 hn hh hlt)
  have hV : 0 < val ds := by omega
  have hVP : val ds < 4294967296 ^ (n + 1) := by
    have := val_lt h2.lim
    rw [h2.len] at this
    exact Nat.lt_trans this (Nat.pow_lt_pow_right (by decide) (by omega))
  have HK : Hid (∀ (m D : Nat), D < 4294967296 → Calls Try.prog 61 #[.slice (some ⟨g, o, none⟩) (n + 1) c1, .slice A2 n c2, .int .u32 (D : Int)] (w.drewN m) (TakePost (w.drewN m) g o (n + 1) l ds D)) :=
    fun m D hD => takeFrom_any (w.drewN m) g o (n + 1) c1 b2 n c2 D A2 l ds hg hl hn1 hbl h2 (fun _ => hne) (by omega) hD
  have HA : Hid (∀ (w1 : World) (zs : List Nat), zs.length = n + 1 → Turned w g o l zs w1 → Calls Try.prog 60 #[.slice (some ⟨g, o, none⟩) (n + 1) c1, .slice A2 n c2] w1 (AddPost w1 g o (n + 1) (mid l o zs) ds)) :=
    fun w1 zs hz ht => addTo_any w1 g o (n + 1) c1 b2 n c2 A2 (mid l o zs) ds ht.1 (mid_lim hl ht.2.2) (by rw [mid_length (by omega)]; omega) (by rw [mid_length (by omega)]; omega) (h2.grown ht.2.1 (fun _ => by simpa using hne)) (fun _ => hne) (by omega)
  have HT : Hid (∀ (m : Nat) (zs : List Nat) (w1 : World), Turned (w.drewN m) g o l zs w1 → Turned w g o l zs w1) := fun m zs w1 ht => ⟨ht.1, ⟨ht.2.1.os, ht.2.1.tape, ht.2.1.output, ht.2.1.size, ht.2.1.block⟩, ht.2.2⟩
  clear h1 h2 hlt hc1 hg
  revert HG
  generalize hR : val ((l.drop o).take (n + 1)) = R
  have HR := Lib.hid hR
  clear hR
  intro HG
  have hr := Nat.mod_lt R hV
  have hs := div_split R (val ds)
  have HP : Hid (∀ e w', (e = .returned (.int .u32 ((R / val ds : Nat) : Int)) ∧ ∃ zs, zs.length = n + 1 ∧ Turned w g o l zs w' ∧ val zs = R % val ds) → DigitPost w g o (n + 1) l R (val ds) e w') := fun e w' h => h
  revert HG hr hs HP
  generalize R / val ds = Q
  generalize R % val ds = r
  intro HG hr hs HP
  have HS := Lib.hid hs
  clear hs
  go_enter Try.func71, Try.ntmps71
  go_wp2_with (go_at_call 75; ((with_reducible refine HG.out.mono ?_); rintro e w1 ⟨D, m, rfl, rfl, hq1, hq2, hDb⟩))
  clear HG
  refine (HK.out m D hDb).mono ?_
  rintro e w2 ⟨q, rfl, zs, hz, ht, hv⟩
  rw [HR.out] at hv
  have ht2 := HT.out m zs w2 ht
  have hzl := val_lt ht.2.2
  rw [hz] at hzl
  clear ht HT HK
  by_cases hD : D = Q
  · subst hD
    obtain ⟨rfl, hz2⟩ := digit_exact HS.out hr hv hzl
    have HZ2 := Lib.hid hz2
    clear hz2 hv hzl
    go_wp2
    go_ret
    exact HP.out _ _ ⟨rfl, zs, hz, ht2, HZ2.out⟩
  · obtain rfl : D = Q + 1 := by omega
    have hq0 := digit_over HS.out hr hv
    have HB := Lib.hid (fun z2 cy h3 h4 h5 => digit_back (z2 := z2) (cy := cy) HS.out hr hv hzl h3 hVP h4 h5)
    clear hD hv hq1 hq2 hzl
    go_wp2_with fail
    refine (HA.out w2 zs hz ht2).mono ?_
    rintro e w3 ⟨rfl, ys, cy, hy, ht3, hcy, hv3⟩
    have hseg := mid_seg (l := l) (zs := zs) (o := o) (by omega)
    rw [hz] at hseg
    rw [hseg] at hv3
    have hyl := val_lt ht3.2.2
    rw [hy] at hyl
    have HZ2 := Lib.hid (HB.out _ _ hyl hcy hv3)
    have HT3 := Lib.hid (ht2.trans ht3 (by omega) (by omega))
    clear hv3 hyl ht3 hseg HB hz
    go_wp2
    go_ret
    exact HP.out _ _ ⟨by go_num, ys, hy, HT3.out, HZ2.out⟩
end Go.Proofs.Ytbendmhcimadpaa
