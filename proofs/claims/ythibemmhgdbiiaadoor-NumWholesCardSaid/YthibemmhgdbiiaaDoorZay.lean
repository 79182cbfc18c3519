/-
  Contracts and words that the statements' proofs rest on, several texts in one: Kk, Ld, Lm, Kl.
-/
import Derived.Test.YthibemmhgdbiiaaDoorZag
import Derived.Test.YthibemmhgdbiiaaDoorZai
import Derived.Test.YthibemmhgdbiiaaDoorZau
import Derived.Test.YthibemmhgdbiiaaDoorZax
/-
  What every statement of layer 5 begins with: the chapter's examples.
-/
namespace Go.Proofs.YthibemmhgdbiiaaDoor
open Go.RowKit
set_option linter.unusedVariables false
set_option linter.unusedSimpArgs false
set_option maxRecDepth 100000

theorem blen_one : blen 1 = 1 := blen_uniq (k := 0) (by decide) (by decide) (by decide)
theorem blen_ex : blen 18446744073709551617 = 65 := blen_uniq (k := 64) (by decide) (by decide) (by decide)
theorem tp_one1 : tp 1 = 9223372036854775808 := by
  rw [tp_small (by rw [blen_one]; decide), blen_one]
theorem tp_ex : tp 18446744073709551617 = 9223372036854775808 := by
  rw [tp_big (by rw [blen_ex]; decide), blen_ex]
theorem fq_one : Fq 1 false 9223372036854775808 (-63) (sgi (decide ((1 : Int) < 0)) (lo (1 : Int).natAbs 0)) := by
  have := of_fq (n := 1) (by decide) (by decide) (by decide)
  rw [show (1 : Int).natAbs = 1 from rfl, tp_one1, blen_one] at this
  exact this
theorem lo_ex : lo 18446744073709551617 0 = 9671415780289070252425217 := by
  have := fin_nc (a := 18446744073709551617) (E := 0) false (by decide)
  rw [tp_ex, show xp 18446744073709551617 0 = 1 by unfold xp; rw [blen_ex]; rfl] at this
  have h2 : sgi false (lo 18446744073709551617 0) = lo 18446744073709551617 0 := if_neg (by decide)
  rw [h2] at this
  rw [← this]
  decide
theorem fq_dn : Fq 1 false 9223372036854775808 1 (rnd false 18446744073709551617 0) := by
  rw [rnd_same (s := false) (by decide) rfl, show (18446744073709551617 : Int).natAbs = 18446744073709551617 from rfl, lo_ex]
  exact Fq.fin (by decide) (by decide) (by decide) (by decide) (by decide)
theorem fq_up : Fq 1 false 9223372036854775809 1 (rnd true 18446744073709551617 0) := by
  have := rnd_diff (s := false) (N := 18446744073709551617) (E := 0) (by decide)
  rw [show (!false) = true from rfl] at this
  rw [this, show (18446744073709551617 : Int).natAbs = 18446744073709551617 from rfl, hi_big (by rw [blen_ex]; decide), lo_ex]
  exact Fq.fin (by decide) (by decide) (by decide) (by decide) (by decide)
theorem mk_ex : mk 18446744073709551617 0 = (18446744073709551617, 0) := mk_odd (by decide) (by decide) (by decide)
theorem lit_ex (W : World) : Wr (W.alloc (.cells #[.int .u32 1, .int .u32 0, .int .u32 1] 53)) false (some ⟨W.heap.size, 0, none⟩) 3 3 18446744073709551617 :=
  ⟨18446744073709551617, ⟨_, [1, 0, 1], (Own.new W [1, 0, 1]).all (Lim.cons (by decide) (Lim.cons (by decide) (Lim.cons (by decide) Lim.nil))) (by simp) (Nat.le_refl _), by decide⟩, rfl⟩
set_option maxHeartbeats 4000000 in
theorem awake5 (w : World) (hT : Tab w) : Calls Tryd.prog 11 #[] w (PB w true) := by
  have HM1 := Lib.hid (congrArg Prod.fst mk_ex)
  have HM2 := Lib.hid (congrArg Prod.snd mk_ex)
  go_enter Tryd.func11, Tryd.ntmps11
  have HB := Lib.hid (Below.refl w.heap.size w)
  go_wp2_with fail
  refine (nOf _ (by decide) (by decide) rfl).mono ?_
  rintro ee w1 ⟨K1, s1, M1, E1, rfl, q1, B⟩
  replace hT := hT.below B
  replace HB := Lib.hid (bt HB.out B)
  clear B
  obtain ⟨rfl, rfl, rfl, rfl⟩ := q1.uniq fq_one
  clear q1
  go_upto_region 2 with (fail)
  have lX1 := Nat.le_refl (World.heap w1).size
  replace hT := hT.below (bel1 _ (.cells #[.int .i64 1, .bool false, .int .u64 9223372036854775808, .int .i64 (-63)] 30))
  replace HB := Lib.hid (bt HB.out (bel1 _ (.cells #[.int .i64 1, .bool false, .int .u64 9223372036854775808, .int .i64 (-63)] 30)))
  have X1 := Bo.new w1 #[.int .i64 1, .bool false, .int .u64 9223372036854775808, .int .i64 (-63)] 30
  generalize hWn : World.alloc w1 (.cells #[.int .i64 1, .bool false, .int .u64 9223372036854775808, .int .i64 (-63)] 30) = w2 at *
  clear hWn
  clear lX1
  go_upto_region 3 with (fail)
  have hx1 := X1.lt
  have pl := lit_ex w2
  replace X1 := X1.below (bel1 _ (.cells #[.int .u32 1, .int .u32 0, .int .u32 1] 53))
  replace hT := hT.below (bel1 _ (.cells #[.int .u32 1, .int .u32 0, .int .u32 1] 53))
  replace HB := Lib.hid (bt HB.out (bel1 _ (.cells #[.int .u32 1, .int .u32 0, .int .u32 1] 53)))
  have hsz : (w2.alloc (.cells #[.int .u32 1, .int .u32 0, .int .u32 1] 53)).heap.size = w2.heap.size + 1 := by simp
  generalize hWn : World.alloc w2 (.cells #[.int .u32 1, .int .u32 0, .int .u32 1] 53) = w3 at *
  clear hWn
  have lX2 := Nat.le_refl (World.heap w3).size
  have nX2X1 := X1.lt
  replace X1 := X1.below (bel1 _ (.cells #[.bool false, .slice (some ⟨w2.heap.size, 0, none⟩) 3 3, .int .i64 0] 26))
  replace hT := hT.below (bel1 _ (.cells #[.bool false, .slice (some ⟨w2.heap.size, 0, none⟩) 3 3, .int .i64 0] 26))
  replace pl := pl.below (bel1 _ (.cells #[.bool false, .slice (some ⟨w2.heap.size, 0, none⟩) 3 3, .int .i64 0] 26))
  replace HB := Lib.hid (bt HB.out (bel1 _ (.cells #[.bool false, .slice (some ⟨w2.heap.size, 0, none⟩) 3 3, .int .i64 0] 26)))
  have X2 := Bo.new w3 #[.bool false, .slice (some ⟨w2.heap.size, 0, none⟩) 3 3, .int .i64 0] 26
  generalize hWn : World.alloc w3 (.cells #[.bool false, .slice (some ⟨w2.heap.size, 0, none⟩) 3 3, .int .i64 0] 26) = w4 at *
  clear hWn
  clear lX2
  rw [hsz] at X2 nX2X1
  have xX20 := X2.at (i := 0) (v := .bool false) rfl
  have xX21 := X2.at (i := 1) (v := .slice (some ⟨w2.heap.size, 0, none⟩) 3 3) rfl
  have xX22 := X2.at (i := 2) (v := .int .i64 0) rfl
  go_wp2_with fail
  refine (nRound (up := false) hT pl (by decide) HM1.out HM2.out rfl).mono ?_
  rintro ee w5 ⟨K2, s2, M2, E2, rfl, q2, B⟩
  clear xX20 xX21 xX22
  replace X1 := X1.below B
  replace X2 := X2.below B
  replace hT := hT.below B
  replace pl := pl.below B
  replace HB := Lib.hid (bt HB.out B)
  clear B
  obtain ⟨rfl, rfl, rfl, rfl⟩ := q2.uniq fq_dn
  clear q2
  go_upto_region 4 with (fail)
  have lX3 := Nat.le_refl (World.heap w5).size
  have nX3X1 := X1.lt
  have nX3X2 := X2.lt
  replace X1 := X1.below (bel1 _ (.cells #[.int .i64 1, .bool false, .int .u64 9223372036854775808, .int .i64 1] 30))
  replace X2 := X2.below (bel1 _ (.cells #[.int .i64 1, .bool false, .int .u64 9223372036854775808, .int .i64 1] 30))
  replace hT := hT.below (bel1 _ (.cells #[.int .i64 1, .bool false, .int .u64 9223372036854775808, .int .i64 1] 30))
  replace pl := pl.below (bel1 _ (.cells #[.int .i64 1, .bool false, .int .u64 9223372036854775808, .int .i64 1] 30))
  replace HB := Lib.hid (bt HB.out (bel1 _ (.cells #[.int .i64 1, .bool false, .int .u64 9223372036854775808, .int .i64 1] 30)))
  have X3 := Bo.new w5 #[.int .i64 1, .bool false, .int .u64 9223372036854775808, .int .i64 1] 30
  generalize hWn : World.alloc w5 (.cells #[.int .i64 1, .bool false, .int .u64 9223372036854775808, .int .i64 1] 30) = w6 at *
  clear hWn
  clear lX3
  have xX20 := X2.at (i := 0) (v := .bool false) rfl
  have xX21 := X2.at (i := 1) (v := .slice (some ⟨w2.heap.size, 0, none⟩) 3 3) rfl
  have xX22 := X2.at (i := 2) (v := .int .i64 0) rfl
  go_wp2_with fail
  refine (nRound (up := true) hT pl (by decide) HM1.out HM2.out rfl).mono ?_
  rintro ee w7 ⟨K3, s3, M3, E3, rfl, q3, B⟩
  clear xX20 xX21 xX22
  replace X1 := X1.below B
  replace X2 := X2.below B
  replace X3 := X3.below B
  replace hT := hT.below B
  replace pl := pl.below B
  replace HB := Lib.hid (bt HB.out B)
  clear B
  obtain ⟨rfl, rfl, rfl, rfl⟩ := q3.uniq fq_up
  clear q3
  go_upto_region 5 with (fail)
  have lX4 := Nat.le_refl (World.heap w7).size
  have nX4X1 := X1.lt
  have nX4X2 := X2.lt
  have nX4X3 := X3.lt
  replace X1 := X1.below (bel1 _ (.cells #[.int .i64 1, .bool false, .int .u64 9223372036854775809, .int .i64 1] 30))
  replace X2 := X2.below (bel1 _ (.cells #[.int .i64 1, .bool false, .int .u64 9223372036854775809, .int .i64 1] 30))
  replace X3 := X3.below (bel1 _ (.cells #[.int .i64 1, .bool false, .int .u64 9223372036854775809, .int .i64 1] 30))
  replace hT := hT.below (bel1 _ (.cells #[.int .i64 1, .bool false, .int .u64 9223372036854775809, .int .i64 1] 30))
  replace pl := pl.below (bel1 _ (.cells #[.int .i64 1, .bool false, .int .u64 9223372036854775809, .int .i64 1] 30))
  replace HB := Lib.hid (bt HB.out (bel1 _ (.cells #[.int .i64 1, .bool false, .int .u64 9223372036854775809, .int .i64 1] 30)))
  have X4 := Bo.new w7 #[.int .i64 1, .bool false, .int .u64 9223372036854775809, .int .i64 1] 30
  generalize hWn : World.alloc w7 (.cells #[.int .i64 1, .bool false, .int .u64 9223372036854775809, .int .i64 1] 30) = w8 at *
  clear hWn
  clear lX4
  have xX10 := X1.at (i := 0) (v := .int .i64 1) rfl
  have xX11 := X1.at (i := 1) (v := .bool false) rfl
  have xX12 := X1.at (i := 2) (v := .int .u64 9223372036854775808) rfl
  have xX13 := X1.at (i := 3) (v := .int .i64 (-63)) rfl
  have xX30 := X3.at (i := 0) (v := .int .i64 1) rfl
  have xX31 := X3.at (i := 1) (v := .bool false) rfl
  have xX32 := X3.at (i := 2) (v := .int .u64 9223372036854775808) rfl
  have xX33 := X3.at (i := 3) (v := .int .i64 1) rfl
  have xX40 := X4.at (i := 0) (v := .int .i64 1) rfl
  have xX41 := X4.at (i := 1) (v := .bool false) rfl
  have xX42 := X4.at (i := 2) (v := .int .u64 9223372036854775809) rfl
  have xX43 := X4.at (i := 3) (v := .int .i64 1) rfl
  go_wp2
  go_ret
  exact ⟨rfl, HB.out⟩
end Go.Proofs.YthibemmhgdbiiaaDoor

/-
  What every statement of layer 3 begins with: the chapter's examples, and the test of sizes.
-/
namespace Go.Proofs.YthibemmhgdbiiaaDoor
open Go.RowKit
set_option linter.unusedVariables false

def fewB (n : Nat) (e : Int) : Bool := decide ((n : Int) ≤ 20) && (decide (-1000 ≤ e) && decide (e ≤ 1000))
theorem fewB_true {n : Nat} {e : Int} (h : fewB n e = true) : n ≤ 20 ∧ -1000 ≤ e ∧ e ≤ 1000 := by
  unfold fewB at h
  simp at h
  omega
set_option maxHeartbeats 1000000 in
theorem few3 (A : Option Addr) (s : Bool) (n c : Nat) (e : Int) (w : World) : Calls Tryd.prog 35 #[.agg #[.bool s, .slice A n c, .int .i64 e]] w (PB w (fewB n e)) := by
  unfold fewB
  by_cases h1 : (n : Int) ≤ 20
  · have e1 : decide ((n : Int) ≤ 20) = true := decide_eq_true h1
    by_cases h2 : -1000 ≤ e
    · have e2 : decide (-1000 ≤ e) = true := decide_eq_true h2
      by_cases h3 : e ≤ 1000
      · have e3 : decide (e ≤ 1000) = true := decide_eq_true h3
        rw [e1, e2, e3]
        go_enter Tryd.func35, Tryd.ntmps35
        go_wp2
        go_ret
        exact ⟨rfl, bel1 _ _⟩
      · have e3 : decide (e ≤ 1000) = false := decide_eq_false h3
        rw [e1, e2, e3]
        go_enter Tryd.func35, Tryd.ntmps35
        go_wp2
        go_ret
        exact ⟨rfl, bel1 _ _⟩
    · have e2 : decide (-1000 ≤ e) = false := decide_eq_false h2
      rw [e1, e2]
      go_enter Tryd.func35, Tryd.ntmps35
      go_wp2
      go_ret
      exact ⟨rfl, bel1 _ _⟩
  · have e1 : decide ((n : Int) ≤ 20) = false := decide_eq_false h1
    rw [e1]
    go_enter Tryd.func35, Tryd.ntmps35
    go_wp2
    go_ret
    exact ⟨rfl, bel1 _ _⟩

theorem limbs_three : limbs 3 = [3] := by
  rw [limbs_pos (by decide), show 3 / 4294967296 = 0 by decide, limbs_zero]
theorem mk_twelve : mk 12 (-3) = (3, -1) := by
  have := mk_shift (z := 3) (e := -3) (v := 2) (by decide) (by decide) (by decide)
  simpa using this
theorem smd_awake : smd [(1, -1), (1, -2)] = (3, -2) := by
  rw [smd_two]
  simp only
  rw [mk_odd (by decide) (by decide) (by decide), mk_odd (by decide) (by decide) (by decide)]
  unfold pl
  simp only
  rw [if_neg (by decide), if_neg (by decide)]
  exact mk_odd (z := 3) (e := -2) (by decide) (by decide) (by decide)
theorem flr_awake : flr (mk (-1) (-1)).1 (mk (-1) (-1)).2 = -1 := by
  rw [mk_odd (by decide) (by decide) (by decide)]
  decide
theorem can_awake : Can [(1, -1), (1, -2)] := by
  refine can_of_fit (h := 1640) (by decide) (fun p hp => ?_)
  have : p = (1, -1) ∨ p = (1, -2) := by simpa using hp
  rcases this with rfl | rfl
  · exact (raw_fit (n := 1) (by decide) (by decide) (by decide) (by decide)).1
  · exact (raw_fit (n := 1) (by decide) (by decide) (by decide) (by decide)).1
/-- A sum of two, of three: how great, and which number. -/
theorem two_fit {h : Nat} {a b : Int × Int} (hh : h + 2 ≤ 300000) (fa : Fit h (mk a.1 a.2)) (fb : Fit h (mk b.1 b.2)) : Fit (h + 2) (smd [a, b]) ∧ vl (smd [a, b]) = vl (mk a.1 a.2) + vl (mk b.1 b.2) ∧ Can [a, b] := by
  have h1 := pl_fit (by omega) fa fb
  refine ⟨?_, h1.2, can_of_fit (h := h) (by simp; omega) (fun p hp => ?_)⟩
  · rw [smd_two]; exact h1.1.mono (by omega)
  · have : p = a ∨ p = b := by simpa using hp
    rcases this with rfl | rfl <;> assumption
theorem three_fit {h : Nat} {a b c : Int × Int} (hh : h + 3 ≤ 300000) (fa : Fit h (mk a.1 a.2)) (fb : Fit h (mk b.1 b.2)) (fc : Fit h (mk c.1 c.2)) : Fit (h + 3) (smd [a, b, c]) ∧ vl (smd [a, b, c]) = vl (mk a.1 a.2) + vl (mk b.1 b.2) + vl (mk c.1 c.2) ∧ Can [a, b, c] := by
  have h1 := pl_fit (by omega) fa fb
  have h2 := pl_fit (by omega) h1.1 (fc.mono (by omega : h ≤ h + 1))
  have e : smd [a, b, c] = pl (pl (mk a.1 a.2) (mk b.1 b.2)) (mk c.1 c.2) := rfl
  refine ⟨?_, ?_, can_of_fit (h := h) (by simp; omega) (fun p hp => ?_)⟩
  · rw [e]; exact h2.1.mono (by omega)
  · rw [e, h2.2, h1.2]
  · have : p = a ∨ p = b ∨ p = c := by simpa using hp
    rcases this with rfl | rfl | rfl <;> assumption
end Go.Proofs.YthibemmhgdbiiaaDoor

/-
  Plain arithmetic for the statements of layer 3: floors, moves, products; the test of sizes.
-/
namespace Go.Proofs.YthibemmhgdbiiaaDoor
open Go.RowKit
set_option linter.unusedVariables false

theorem few3E {A : Option Addr} {s : Bool} {n c : Nat} {e : Int} {p : Bool} (w : World) (h : fewB n e = p) : Calls Tryd.prog 35 #[.agg #[.bool s, .slice A n c, .int .i64 e]] w (PB w p) := h ▸ few3 A s n c e w
theorem fdiv_bd (N : Int) {P : Int} (hP : 0 < P) : N.fdiv P * P ≤ N ∧ N < (N.fdiv P + 1) * P := by
  have h1 := Int.mul_fdiv_add_fmod N P
  have h2 := Int.fmod_nonneg_of_pos N hP
  have h3 := Int.fmod_lt_of_pos N hP
  rw [Int.mul_comm] at h1
  rw [Int.add_mul, Int.one_mul]
  omega
theorem nat_p2 (k : Nat) : ((2 ^ k : Nat) : Int) = 2 ^ k := by simp
/-- A floor: how near it lies. -/
theorem flr_vl {p : Int × Int} (hp : Nf p) : flr p.1 p.2 * 2 ^ KK ≤ vl p ∧ vl p < (flr p.1 p.2 + 1) * 2 ^ KK := by
  have b := hp.bd
  unfold flr vl
  by_cases hE : 0 ≤ p.2
  · rw [if_pos hE, nat_p2, Int.mul_assoc, ← Int.pow_add, show p.2.toNat + KK = (p.2 + KK).toNat by omega, Int.add_mul, Int.mul_assoc, ← Int.pow_add, show p.2.toNat + KK = (p.2 + KK).toNat by omega]
    have := p2pos KK
    omega
  · rw [if_neg hE, nat_p2]
    obtain ⟨h1, h2⟩ := fdiv_bd p.1 (p2pos (-p.2).toNat)
    have hk : KK = (-p.2).toNat + (p.2 + KK).toNat := by rw [KK_eq]; omega
    have hq := p2pos (p.2 + KK).toNat
    have e : (2 : Int) ^ KK = 2 ^ (-p.2).toNat * 2 ^ (p.2 + KK).toNat := by rw [← Int.pow_add, ← hk]
    rw [e, ← Int.mul_assoc, ← Int.mul_assoc]
    exact ⟨Int.mul_le_mul_of_nonneg_right h1 (by omega), Int.mul_lt_mul_of_pos_right h2 hq⟩
theorem natAbs_lt_of {x b : Int} (h1 : -b < x) (h2 : x < b) : (x.natAbs : Int) < b := by omega
theorem vl_lt {h : Nat} {p : Int × Int} (hh : h ≤ 4194304) (fp : Fit h p) : -(2 ^ h * 2 ^ KK) < vl p ∧ vl p < 2 ^ h * 2 ^ KK := by
  have h1 := fp.2.2
  have hl := fp.lo
  have e1 : (vl p).natAbs * 2 ^ h < 2 ^ h * 2 ^ KK * 2 ^ h := by
    rw [vl_natAbs]
    have k1 : (p.2 + KK).toNat = (p.2 + h).toNat + (KK - h) := by rw [KK_eq]; omega
    rw [k1, Nat.pow_add, ← Nat.mul_assoc, Nat.mul_assoc _ (2 ^ (KK - h)), ← Nat.pow_add, Nat.mul_assoc (2 ^ h), ← Nat.pow_add, ← Nat.pow_add]
    have k2 : h + (KK + h) = 2 * h + (KK - h + h) := by rw [KK_eq]; omega
    rw [k2, Nat.pow_add 2 (2 * h)]
    exact Nat.mul_lt_mul_of_pos_right h1 (Nat.pow_pos (by decide))
  have e2 : (vl p).natAbs < 2 ^ h * 2 ^ KK := Nat.lt_of_mul_lt_mul_right e1
  have e3 : ((vl p).natAbs : Int) < 2 ^ h * 2 ^ KK := by
    have := Int.ofNat_lt.2 e2
    rwa [Int.natCast_mul, nat_p2, nat_p2] at this
  omega
/-- A whole number of so many bits, as one times a power of two. -/
theorem whole_fit {z : Int} {h : Nat} (hh : h ≤ 4194304) (hz : z.natAbs < 2 ^ h) : Fit h (mk z 0) ∧ vl (mk z 0) = z * 2 ^ KK := by
  have := mk_fit (z := z) (e := 0) (h := h) hh (by omega) (by
    rw [show ((0 : Int) + h).toNat = h by omega, show 2 * h = h + h by omega, Nat.pow_add]
    exact Nat.mul_lt_mul_of_pos_right hz (Nat.pow_pos (by decide)))
  rwa [show ((0 : Int) + KK).toNat = KK by omega] at this
theorem flr_abs {h : Nat} {p : Int × Int} (hh : h ≤ 4194304) (fp : Fit h p) : (flr p.1 p.2).natAbs < 2 ^ (h + 1) ∧ (flr p.1 p.2 + 1).natAbs < 2 ^ (h + 1) := by
  obtain ⟨a, b⟩ := flr_vl fp.nf
  obtain ⟨c, d⟩ := vl_lt hh fp
  have hq := p2pos KK
  have hp := p2pos h
  have h1 : flr p.1 p.2 < 2 ^ h := Int.lt_of_mul_lt_mul_right (Int.lt_of_le_of_lt a d) (by omega)
  have h2 : -(2 ^ h) < flr p.1 p.2 + 1 := Int.lt_of_mul_lt_mul_right (by rw [Int.neg_mul]; exact Int.lt_trans c b) (by omega : (0 : Int) ≤ 2 ^ KK)
  have h3 : ((2 ^ (h + 1) : Nat) : Int) = 2 ^ h + 2 ^ h := by rw [nat_p2, Int.pow_succ]; omega
  constructor <;> (apply Int.ofNat_lt.1; rw [h3]; omega)
theorem flr_fit {h : Nat} {p : Int × Int} (hh : h + 1 ≤ 4194304) (fp : Fit h p) : Fit (h + 1) (mk (flr p.1 p.2) 0) ∧ vl (mk (flr p.1 p.2) 0) = flr p.1 p.2 * 2 ^ KK := whole_fit hh (flr_abs (by omega) fp).1
theorem one_nf : mk 1 0 = (1, 0) := mk_odd (by decide) (by decide) (by decide)
theorem vl_one : vl (1, 0) = 2 ^ KK := by unfold vl; rw [Int.one_mul]; congr 1
/-- A whole number is its own floor. -/
theorem flr_whole {z : Int} {h : Nat} (hh : h ≤ 4194304) (hz : z.natAbs < 2 ^ h) : flr (mk z 0).1 (mk z 0).2 = z := by
  obtain ⟨f, v⟩ := whole_fit hh hz
  obtain ⟨a, b⟩ := flr_vl f.nf
  rw [v] at a b
  have hq := p2pos KK
  have h1 := Int.le_of_mul_le_mul_right a hq
  have h2 := Int.lt_of_mul_lt_mul_right b (Int.le_of_lt hq)
  omega
theorem limbs40 {z : Int} {n : Nat} (hz : z.natAbs < 4294967296 ^ n) (hn : n ≤ 40) : ∃ h, h = 1280 ∧ z.natAbs < 2 ^ h := by
  obtain ⟨h, hh⟩ : ∃ h, h = 1280 := ⟨_, rfl⟩
  refine ⟨h, hh, Nat.lt_of_lt_of_le hz ?_⟩
  rw [show (4294967296 : Nat) = 2 ^ 32 by decide, ← Nat.pow_mul]
  exact Nat.pow_le_pow_right (by decide) (by omega)
theorem raw_fit' {w : World} {s : Bool} {A : Option Addr} {n c : Nat} {z e : Int} (h : Wr w s A n c z) (hf : fewB n e = true) : ∃ η, η = 1640 ∧ Fit η (mk z e) := by
  obtain ⟨h1, h2, h3⟩ := fewB_true hf
  exact ⟨_, rfl, (raw_fit h.rd.bound h1 h2 h3).1⟩
theorem sq_nonneg' (x : Int) : 0 ≤ x * x := by
  rcases Int.le_total 0 x with h | h
  · exact Int.mul_nonneg h h
  · exact Int.mul_nonneg_of_nonpos_of_nonpos h h
theorem cmpI_self' (x : Int) : cmpI x x = 0 := cmpI_eq rfl
/-- Equal numbers compare as equal. -/
theorem cmp_same0 {x y : Int} (h : x = y) : cmpI x y = 0 := cmpI_eq h
end Go.Proofs.YthibemmhgdbiiaaDoor

/-
  What the statements of layer 5 rest on: how numbers that are rounded lie beside what they are rounded of. Plain arithmetic; no Go text.
-/
namespace Go.Proofs.YthibemmhgdbiiaaDoor
open Go.RowKit
set_option linter.unusedVariables false

theorem xp_fit {P : Int × Int} (fP : Fit 1640 P) (h0 : P.1 ≠ 0) : -1710 ≤ xp P.1.natAbs P.2 ∧ xp P.1.natAbs P.2 ≤ 1710 := by
  obtain ⟨η, hη⟩ : ∃ η : Nat, 1640 = η := ⟨_, rfl⟩
  rw [hη] at fP
  have h1 := fP.lo
  have h4 : blen P.1.natAbs - 1 + (P.2 + (η : Int)).toNat < 2 * η := by
    have h2 := blen_le (n := P.1.natAbs) (by omega)
    have h3 := Nat.lt_of_le_of_lt (Nat.mul_le_mul_right (2 ^ (P.2 + (η : Int)).toNat) h2) fP.2.2
    rw [← Nat.pow_add] at h3
    exact (Nat.pow_lt_pow_iff_right (a := 2) (by decide)).1 h3
  have h5 : blen P.1.natAbs ≠ 0 := fun e => by have := blen_eq_zero.1 e; omega
  unfold xp
  omega
theorem lo_fit {P : Int × Int} (fP : Fit 1640 P) (h0 : P.1 ≠ 0) : 0 ≤ lo P.1.natAbs P.2 ∧ lo P.1.natAbs P.2 < 19342822337206103650074624 := by
  obtain ⟨h1, h2⟩ := xp_fit fP h0
  have h3 := tp_lt P.1.natAbs
  refine ⟨(lo_bd _ _).1, ?_⟩
  unfold lo
  rw [if_neg (by omega), if_neg (by omega), if_neg (by omega)]
  omega
/-- What is rounded down, and up, of a number that is not far. -/
theorem rnd_tight {P : Int × Int} (fP : Fit 1640 P) : ∃ r r', rnd false P.1 P.2 = r ∧ rnd true P.1 P.2 = r' ∧ -19342822337206103650074625 < r ∧ r < 19342822337206103650074625 ∧ -19342822337206103650074625 < r' ∧ r' < 19342822337206103650074625 ∧ ((r' = r ∧ vr r = vl P) ∨ (r' = r + 1 ∧ vr r < vl P ∧ vl P < vr r')) := by
  rcases fP.nf.cases with e | ⟨h0, ho, e1, e2⟩
  · subst e
    have h : ∀ up, rnd up 0 0 = 0 := fun up => by
      rw [rnd_ext rfl]
      rfl
    exact ⟨0, 0, h false, h true, by decide, by decide, by decide, by decide, Or.inl ⟨rfl, by rw [vl_zero]; rfl⟩⟩
  · obtain ⟨x1, x2⟩ := xp_fit fP h0
    obtain ⟨l1, l2⟩ := lo_fit fP h0
    obtain ⟨v1, v2, v3, v4⟩ := lo_vr (m := P.1.natAbs) (E := P.2) (by omega) (by omega) (by omega) (by rw [KK_eq]; omega) ho
    have hh : hi P.1.natAbs P.2 = if ext P.1.natAbs P.2 = true then lo P.1.natAbs P.2 else lo P.1.natAbs P.2 + 1 := rfl
    have hvl : vl P = P.1 * 2 ^ (P.2 + KK).toNat := rfl
    revert v1 v2 v3 v4 hh l1 l2
    rcases Int.lt_or_lt_of_ne h0 with hn | hp
    · have hs : true = decide (P.1 < 0) := (decide_eq_true hn).symm
      have r1 := rnd_diff (E := P.2) hs
      have r2 := rnd_same (up := true) (E := P.2) hs rfl
      rw [show (!true) = false from rfl] at r1
      rw [r1, r2]
      generalize lo P.1.natAbs P.2 = l
      generalize hi P.1.natAbs P.2 = h
      intro l1 l2 v1 v2 v3 v4 hh
      have ev : (P.1.natAbs : Int) * 2 ^ (P.2 + KK).toNat = -vl P := by
        rw [hvl, ← Int.neg_mul]
        congr 1
        omega
      rw [ev] at v1 v2 v3 v4
      refine ⟨-h, -l, rfl, rfl, ?_⟩
      have n1 := vr_neg l
      have n2 := vr_neg (l + 1)
      cases hx : ext P.1.natAbs P.2
      · rw [hx, if_neg (by decide)] at hh
        subst hh
        have := v4 hx
        refine ⟨by omega, by omega, by omega, by omega, Or.inr ⟨by omega, by omega, by omega⟩⟩
      · rw [hx, if_pos rfl] at hh
        subst hh
        have := v3 hx
        refine ⟨by omega, by omega, by omega, by omega, Or.inl ⟨rfl, by omega⟩⟩
    · have hs : false = decide (P.1 < 0) := (decide_eq_false (by omega)).symm
      have r1 := rnd_same (up := false) (E := P.2) hs rfl
      have r2 := rnd_diff (E := P.2) hs
      rw [show (!false) = true from rfl] at r2
      rw [r1, r2]
      have s1 : ∀ x, sgi false x = x := fun x => if_neg (by decide)
      rw [s1, s1]
      generalize lo P.1.natAbs P.2 = l
      generalize hi P.1.natAbs P.2 = h
      intro l1 l2 v1 v2 v3 v4 hh
      have ev : (P.1.natAbs : Int) * 2 ^ (P.2 + KK).toNat = vl P := by
        rw [hvl]
        congr 1
        omega
      rw [ev] at v1 v2 v3 v4
      refine ⟨l, h, rfl, rfl, ?_⟩
      cases hx : ext P.1.natAbs P.2
      · rw [hx, if_neg (by decide)] at hh
        subst hh
        have := v4 hx
        refine ⟨by omega, by omega, by omega, by omega, Or.inr ⟨rfl, this, v2⟩⟩
      · rw [hx, if_pos rfl] at hh
        subst hh
        have := v3 hx
        refine ⟨by omega, by omega, by omega, by omega, Or.inl ⟨rfl, this⟩⟩
/-- Of a number that is not greater neither is what it is rounded to. -/
theorem rnd_mono {P Q : Int × Int} (fP : Fit 1640 P) (fQ : Fit 1640 Q) (h : vl P ≤ vl Q) (up : Bool) : rnd up P.1 P.2 ≤ rnd up Q.1 Q.2 := by
  obtain ⟨r, r', e1, e2, _, _, _, _, h1⟩ := rnd_tight fP
  obtain ⟨t, t', f1, f2, _, _, _, _, h2⟩ := rnd_tight fQ
  have b1 : vr r ≤ vl P := by rcases h1 with ⟨_, a⟩ | ⟨_, a, _⟩ <;> omega
  have b2 : vl P ≤ vr r' := by rcases h1 with ⟨c, a⟩ | ⟨_, _, a⟩ <;> (try subst c) <;> omega
  have b3 : vr (r' - 1) < vl P := by
    rcases h1 with ⟨c, a⟩ | ⟨c, a, _⟩
    · have := vr_succ (r' - 1)
      rw [show r' - 1 + 1 = r' by omega] at this
      rw [← a, ← c]; exact this
    · rw [c, show r + 1 - 1 = r by omega]; exact a
  have b4 : vl Q < vr (t + 1) := by
    rcases h2 with ⟨c, a⟩ | ⟨c, _, a⟩
    · rw [← a]; exact vr_succ t
    · rw [← c]; exact a
  have b5 : vl Q ≤ vr t' := by rcases h2 with ⟨c, a⟩ | ⟨_, _, a⟩ <;> (try subst c) <;> omega
  cases up
  · rw [e1, f1]
    rcases Int.lt_or_le t r with q | q
    · exfalso
      rcases Int.lt_or_eq_of_le (show t + 1 ≤ r by omega) with q | q
      · have := vr_lt q; omega
      · rw [q] at b4; omega
    · exact q
  · rw [e2, f2]
    rcases Int.lt_or_le t' r' with q | q
    · exfalso
      rcases Int.lt_or_eq_of_le (show t' ≤ r' - 1 by omega) with q | q
      · have := vr_lt q; omega
      · rw [← q] at b3; omega
    · exact q
theorem sgi_mul (s : Bool) (x y : Int) : sgi s x * y = sgi s (x * y) := by
  cases s
  · rfl
  · exact Int.neg_mul _ _
theorem vp_vr {x : Int} (s : Bool) (h : 0 < x) : vr (sgi s x) = sgi s (vp x) := by
  rw [vr_sgi]
  congr 1
  unfold vr
  rw [if_neg (by omega)]
/-- A number's worth is that of the dyadic one. -/
theorem exq_vl {D : Int} {s : Bool} {M E r : Int} (q : Fq D s M E r) (h1 : -19342822337206103650074625 < r) (h2 : r < 19342822337206103650074625) : exb D s M E = true ∧ vl (exq D s M E) = vr r := by
  have hb : exb D s M E = true := by
    unfold exb
    rw [decide_eq_true q.1, Bool.true_and]
    rcases q.cases with ⟨rfl, rfl, rfl, rfl, h0⟩ | ⟨rfl, _⟩ | ⟨rfl, rfl, rfl, ⟨rfl, h5⟩ | ⟨rfl, h5⟩⟩
    · rfl
    · rfl
    · omega
    · omega
  refine ⟨hb, ?_⟩
  unfold exq
  rw [if_pos hb]
  have hr := q.2.2
  rcases q.1 with ⟨rfl, rfl, rfl, rfl⟩ | ⟨rfl, g1, g2, g3⟩ | ⟨rfl, rfl, rfl⟩
  · obtain rfl : 0 = r := hr
    have e0 : sgi false 0 = 0 := if_neg (by decide)
    rw [e0, mk_zero, vl_zero]
    rfl
  · have hM := q.2.1
    have hpl : plc 1 M E = M - 9223372036854775808 + 1 + (E + 1048576) * 9223372036854775808 := rfl
    rw [hpl] at hr
    have ha : (sgi s M).natAbs = M.toNat := by
      cases s
      · show M.natAbs = M.toNat; omega
      · show (-M).natAbs = M.toNat; omega
    obtain ⟨η, hη⟩ : ∃ η : Nat, 4194304 = η := ⟨_, rfl⟩
    have hf := mk_fit (z := sgi s M) (e := E) (h := η) (by omega) (by omega) (by
      rw [ha]
      have : M.toNat < 2 ^ 64 := by omega
      have := Nat.mul_lt_mul_of_pos_right this (Nat.pow_pos (n := (E + (η : Int)).toNat) (show 0 < 2 by decide))
      rw [← Nat.pow_add] at this
      exact Nat.lt_of_lt_of_le this (Nat.pow_le_pow_right (by decide) (by omega)))
    rw [hf.2, ← hr, vp_vr s (by omega), vp_fin g1 hM (by omega), sgi_mul]
  · exfalso
    have : r = sgi s TP := hr.symm
    have := TP_eq
    cases s
    · have e : sgi false TP = TP := if_neg (by decide)
      omega
    · have e : sgi true TP = -TP := if_pos rfl
      omega
theorem lo_full {m : Nat} {E : Int} (h1 : 9223372036854775808 ≤ m) (h2 : m < 18446744073709551616) (h3 : -1048576 ≤ E) (h4 : E ≤ 1048576) : lo m E = (m : Int) - 9223372036854775808 + 1 + (E + 1048576) * 9223372036854775808 := by
  have hb : blen m = 64 := blen_uniq (k := 63) (by omega) (by omega) (by omega)
  have hx : xp m E = E := by unfold xp; rw [hb]; omega
  have ht : tp m = m := by
    rw [tp_small (by omega), hb, Nat.sub_self, Nat.pow_zero, Nat.mul_one]
  unfold lo
  rw [if_neg (by omega), hx, if_neg (by omega), if_neg (by omega), ht]
theorem back_odd {m k t : Nat} {E F : Int} (hm : m = k * 2 ^ t) (h1 : 9223372036854775808 ≤ m) (h2 : m < 18446744073709551616) (h3 : -1048576 ≤ E) (h4 : E ≤ 1048576) (hF : F = E + (t : Nat)) : ext k F = true ∧ lo k F = lo m E := by
  have hb : blen m = 64 := blen_uniq (k := 63) (by omega) (by omega) (by omega)
  have hk : k ≠ 0 := fun e => by rw [e, Nat.zero_mul] at hm; omega
  have b1 := blen_mul hk t
  rw [← hm, hb] at b1
  refine ⟨?_, ?_⟩
  · have e0 : (k == 0) = false := by simpa using hk
    unfold ext xp
    rw [e0, Bool.false_or, decide_eq_true (by omega), decide_eq_true (by omega), decide_eq_true (by omega)]
    rfl
  · rw [hm, lo_mul hk, hF]
/-- One that is one of the numbers is rounded to itself. -/
theorem back_fin {s : Bool} {M E : Int} (up : Bool) (g1 : 9223372036854775808 ≤ M) (hM : M < 18446744073709551616) (g2 : -1048576 ≤ E) (g3 : E ≤ 1048576) {z : Int} (hz : z.natAbs = M.toNat) (hs : decide (z < 0) = s) : rnd up (mk z E).1 (mk z E).2 = sgi s (M - 9223372036854775808 + 1 + (E + 1048576) * 9223372036854775808) := by
  have h0 : z ≠ 0 := by omega
  have hv := v2_pow_le (n := z.natAbs) (by omega)
  have hv2 : v2 z.natAbs < 64 := (Nat.pow_lt_pow_iff_right (a := 2) (by decide)).1 (show 2 ^ v2 z.natAbs < 2 ^ 64 by omega)
  obtain ⟨e1, e2, e3, e4, e5⟩ := mk_in (z := z) (e := E) h0 (by omega) (by omega)
  revert e1 e3 e4 e5
  generalize mk z E = p
  obtain ⟨N, F⟩ := p
  intro e1 e3 e4 e5
  simp only at e1 e3 e4 e5 ⊢
  have ea : z.natAbs = N.natAbs * 2 ^ v2 z.natAbs := by
    have := congrArg Int.natAbs e5
    rwa [natAbs_mul_pow] at this
  obtain ⟨x1, x2⟩ := back_odd ea (by omega) (by omega) g2 g3 e1
  rw [rnd_ext x1, x2, lo_full (by omega) (by omega) g2 g3, show decide (N < 0) = s by rw [← hs]; simp only [e3], show ((z.natAbs : Nat) : Int) = M by omega]
theorem rnd_nought (up : Bool) : rnd up 0 0 = 0 := by
  rw [rnd_ext rfl]
  rfl
theorem rnd_back {D : Int} {s : Bool} {M E r : Int} (up : Bool) (q : Fq D s M E r) (hx : exb D s M E = true) : rnd up (exq D s M E).1 (exq D s M E).2 = r := by
  unfold exq
  rw [if_pos hx]
  have hr := q.2.2
  rcases q.1 with ⟨rfl, rfl, rfl, rfl⟩ | ⟨rfl, g1, g2, g3⟩ | ⟨rfl, rfl, rfl⟩
  · obtain rfl : 0 = r := hr
    have e0 : sgi false 0 = 0 := if_neg (by decide)
    rw [e0, mk_zero]
    exact rnd_nought up
  · have hM := q.2.1
    have hpl : plc 1 M E = M - 9223372036854775808 + 1 + (E + 1048576) * 9223372036854775808 := rfl
    rw [hpl] at hr
    rw [← hr]
    refine back_fin up g1 hM g2 g3 ?_ ?_
    · cases s
      · rw [show sgi false M = M from if_neg (by decide)]; omega
      · rw [show sgi true M = -M from if_pos rfl]; omega
    · cases s
      · rw [show sgi false M = M from if_neg (by decide)]; exact decide_eq_false (by omega)
      · rw [show sgi true M = -M from if_pos rfl]; exact decide_eq_true (by omega)
  · exact absurd hx (by unfold exb; simp)
/-- A whole number's place, and its worth. -/
def opl (n : Int) : Int := sgi (decide (n < 0)) (lo n.natAbs 0)
theorem opl_zero : opl 0 = 0 := rfl
theorem opl_vr {n : Int} (h1 : -9223372036854775808 ≤ n) (h2 : n ≤ 9223372036854775807) : vr (opl n) = n * 2 ^ KK := by
  by_cases h0 : n = 0
  · subst h0
    rw [opl_zero, Int.zero_mul]
    rfl
  · have q := of_fq h0 h1 h2
    have hs := of_shl h0 h1 h2
    have a3 := blen_mono_le (n := n.natAbs) (k := 64) (by omega)
    have hr : _ = opl n := q.2.2
    have g := q.plc (by decide)
    rcases g with ⟨_, g1, g2, g3, g4, g5⟩ | ⟨g, _⟩
    · rw [← hr, vp_vr _ (by rw [g5]; omega), g5, vp_fin g1 g2 (by omega), ← hs, Int.mul_assoc, ← Int.pow_add, show (64 - (blen n.natAbs : Int)).toNat + (-(64 - (blen n.natAbs : Int)) + (KK : Int)).toNat = KK by rw [KK_eq]; omega, ← sgi_mul]
      congr 1
      by_cases hn : n < 0
      · rw [decide_eq_true hn]; show -(n.natAbs : Int) = n; omega
      · rw [decide_eq_false hn]; show (n.natAbs : Int) = n; omega
    · exact absurd g (by decide)
theorem opl_cmp {a b : Int} (h1 : -9223372036854775808 ≤ a) (h2 : a ≤ 9223372036854775807) (k1 : -9223372036854775808 ≤ b) (k2 : b ≤ 9223372036854775807) : cmpI (opl a) (opl b) = cmpI a b := by
  rw [← vr_cmp, opl_vr h1 h2, opl_vr k1 k2, cmpI_scale (p2pos KK)]
theorem sgi_not {n : Int} (h0 : n ≠ 0) (l : Int) : sgi (decide (-n < 0)) l = -sgi (decide (n < 0)) l := by
  by_cases hn : n < 0
  · rw [decide_eq_true hn, decide_eq_false (show ¬ -n < 0 by omega), show sgi false l = l from if_neg (by decide), show sgi true l = -l from if_pos rfl, Int.neg_neg]
  · rw [decide_eq_false hn, decide_eq_true (show -n < 0 by omega), show sgi false l = l from if_neg (by decide), show sgi true l = -l from if_pos rfl]
theorem opl_neg (n : Int) : opl (-n) = -opl n := by
  by_cases h0 : n = 0
  · rw [h0, Int.neg_zero, opl_zero, Int.neg_zero]
  · unfold opl
    rw [Int.natAbs_neg]
    exact sgi_not h0 _
end Go.Proofs.YthibemmhgdbiiaaDoor
