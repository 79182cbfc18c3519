/-
  Contracts and words that the statements' proofs rest on, several texts in one: Ld, Row, Lm, Open, Opd, Ln.
-/
import Derived.Test.YteoeoppkefcmdaaDoorRows
import Derived.ProofKit
import Derived.OpenShut
import Derived.ChangeSame
import Derived.Deep.Slices
import Derived.Lib.LaidTab
import Derived.Lay
import Derived.LaidHandle
import Derived.MakeChecks
import Derived.Test.YteoeoppkefcmdaaDoorZa
import Derived.Test.YteoeoppkefcmdaaDoorZb
import Derived.Test.YteoeoppkefcmdaaDoorZc
/-
  What every statement of layer 3 begins with: the chapter's examples, and the test of sizes.
-/
namespace Go.Proofs.YteoeoppkefcmdaaDoor
open Go.RowKit
set_option linter.unusedVariables false

def fewB (n : Nat) (e : Int) : Bool := decide ((n : Int) ≤ 20) && (decide (-1000 ≤ e) && decide (e ≤ 1000))
theorem fewB_true {n : Nat} {e : Int} (h : fewB n e = true) : n ≤ 20 ∧ -1000 ≤ e ∧ e ≤ 1000 := by
  unfold fewB at h
  simp at h
  omega
set_option maxHeartbeats 1000000 in
theorem few3 (A : Option Addr) (s : Bool) (n c : Nat) (e : Int) (w : World) : Calls Tryd.prog 19 #[.agg #[.bool s, .slice A n c, .int .i64 e]] w (PB w (fewB n e)) := by
  unfold fewB
  by_cases h1 : (n : Int) ≤ 20
  · have e1 : decide ((n : Int) ≤ 20) = true := decide_eq_true h1
    by_cases h2 : -1000 ≤ e
    · have e2 : decide (-1000 ≤ e) = true := decide_eq_true h2
      by_cases h3 : e ≤ 1000
      · have e3 : decide (e ≤ 1000) = true := decide_eq_true h3
        rw [e1, e2, e3]
        go_enter Tryd.func19, Tryd.ntmps19
        go_wp2
        go_ret
        exact ⟨rfl, bel1 _ _⟩
      · have e3 : decide (e ≤ 1000) = false := decide_eq_false h3
        rw [e1, e2, e3]
        go_enter Tryd.func19, Tryd.ntmps19
        go_wp2
        go_ret
        exact ⟨rfl, bel1 _ _⟩
    · have e2 : decide (-1000 ≤ e) = false := decide_eq_false h2
      rw [e1, e2]
      go_enter Tryd.func19, Tryd.ntmps19
      go_wp2
      go_ret
      exact ⟨rfl, bel1 _ _⟩
  · have e1 : decide ((n : Int) ≤ 20) = false := decide_eq_false h1
    rw [e1]
    go_enter Tryd.func19, Tryd.ntmps19
    go_wp2
    go_ret
    exact ⟨rfl, bel1 _ _⟩

theorem limbs_three : limbs 3 = [3] := by
  rw [limbs_pos (by decide), show 3 / 4294967296 = 0 by decide, limbs_zero]
theorem mk_twelve : mk 12 (-3) = (3, -1) := by
  have := mk_shift (z := 3) (e := -3) (v := 2) (by decide) (by decide) (by decide)
  simpa using this
theorem smd_awake : smd [(1, -1), (1, -2)] = (3, -2) := by
  rw [smd_two]
  simp only
  rw [mk_odd (by decide) (by decide) (by decide), mk_odd (by decide) (by decide) (by decide)]
  unfold pl
  simp only
  rw [if_neg (by decide), if_neg (by decide)]
  exact mk_odd (z := 3) (e := -2) (by decide) (by decide) (by decide)
theorem flr_awake : flr (mk (-1) (-1)).1 (mk (-1) (-1)).2 = -1 := by
  rw [mk_odd (by decide) (by decide) (by decide)]
  decide
theorem can_awake : Can [(1, -1), (1, -2)] := by
  refine can_of_fit (h := 1640) (by decide) (fun p hp => ?_)
  have : p = (1, -1) ∨ p = (1, -2) := by simpa using hp
  rcases this with rfl | rfl
  · exact (raw_fit (n := 1) (by decide) (by decide) (by decide) (by decide)).1
  · exact (raw_fit (n := 1) (by decide) (by decide) (by decide) (by decide)).1
set_option maxRecDepth 20000 in
set_option maxHeartbeats 4000000 in
theorem awake3 (w : World) (hT : Tab w) : Calls Tryd.prog 9 #[] w (PB w true) := by
  have H12a := Lib.hid (congrArg Prod.fst mk_twelve)
  have H12b := Lib.hid (congrArg Prod.snd mk_twelve)
  have H1a := Lib.hid (congrArg Prod.fst (mk_odd (z := 1) (e := -1) (by decide) (by decide) (by decide)))
  have H1b := Lib.hid (congrArg Prod.snd (mk_odd (z := 1) (e := -1) (by decide) (by decide) (by decide)))
  have H2a := Lib.hid (congrArg Prod.fst (mk_odd (z := 1) (e := -2) (by decide) (by decide) (by decide)))
  have H2b := Lib.hid (congrArg Prod.snd (mk_odd (z := 1) (e := -2) (by decide) (by decide) (by decide)))
  have H3a := Lib.hid (congrArg Prod.fst (mk_odd (z := -1) (e := -1) (by decide) (by decide) (by decide)))
  have H3b := Lib.hid (congrArg Prod.snd (mk_odd (z := -1) (e := -1) (by decide) (by decide) (by decide)))
  simp only at H12a H12b H1a H1b H2a H2b H3a H3b
  go_enter Tryd.func9, Tryd.ntmps9
  have HB := Lib.hid (Below.refl w.heap.size w)
  go_wp2_with fail
  refine (wFrom 12 _ (by omega) (by omega)).mono ?_
  rintro ee w1 ⟨s1, A1, n1, c1, rfl, p1, k1, B⟩
  replace hT := hT.below B
  replace HB := Lib.hid (bt HB.out B)
  clear B
  go_wp2_with fail
  refine (dMake hT p1.wr (by omega) H12a.out H12b.out).mono ?_
  rintro ee w2 ⟨s2, A2, n2, c2, rfl, p2, k2, B⟩
  replace hT := hT.below B
  replace p1 := p1.below B
  replace HB := Lib.hid (bt HB.out B)
  clear B
  go_upto_region 2 with (fail)
  have lXa := Nat.le_refl (World.heap w2).size
  replace hT := hT.below (bel1 _ (.cells #[.bool s2, .slice A2 n2 c2, .int .i64 (-1)] 27))
  replace HB := Lib.hid (bt HB.out (bel1 _ (.cells #[.bool s2, .slice A2 n2 c2, .int .i64 (-1)] 27)))
  have Xa := Bo.new w2 #[.bool s2, .slice A2 n2 c2, .int .i64 (-1)] 27
  generalize hWn : World.alloc w2 (.cells #[.bool s2, .slice A2 n2 c2, .int .i64 (-1)] 27) = w3 at *
  clear hWn
  go_wp2_with fail
  refine (wFrom 1 _ (by omega) (by omega)).mono ?_
  rintro ee w4 ⟨s3, A3, n3, c3, rfl, p3, k3, B⟩
  replace Xa := Xa.below B
  replace hT := hT.below B
  replace HB := Lib.hid (bt HB.out B)
  clear B
  go_wp2_with fail
  refine (dMake hT p3.wr (by omega) H1a.out H1b.out).mono ?_
  rintro ee w5 ⟨s4, A4, n4, c4, rfl, p4, k4, B⟩
  replace Xa := Xa.below B
  replace hT := hT.below B
  replace p3 := p3.below B
  replace HB := Lib.hid (bt HB.out B)
  clear B
  go_wp2_with fail
  refine (wFrom 1 _ (by omega) (by omega)).mono ?_
  rintro ee w6 ⟨s5, A5, n5, c5, rfl, p5, k5, B⟩
  replace Xa := Xa.below B
  replace hT := hT.below B
  replace p4 := p4.below B
  replace HB := Lib.hid (bt HB.out B)
  clear B
  go_wp2_with fail
  refine (dMake hT p5.wr (by omega) H2a.out H2b.out).mono ?_
  rintro ee w7 ⟨s6, A6, n6, c6, rfl, p6, k6, B⟩
  replace Xa := Xa.below B
  replace hT := hT.below B
  replace p4 := p4.below B
  replace p5 := p5.below B
  replace HB := Lib.hid (bt HB.out B)
  clear B
  go_wp2_with fail
  refine (dAdd (K := 20000) (hT.below (bel1 _ _)) (Dl.lit2 rfl p4.wr p6.wr (by omega) (by omega)) (by omega) can_awake (congrArg Prod.fst smd_awake) (congrArg Prod.snd smd_awake)).mono ?_
  rintro ee w8 ⟨s7, A7, n7, c7, rfl, p7, k7, B⟩
  replace B := bt (bel1 _ _) B
  replace Xa := Xa.below B
  replace hT := hT.below B
  replace HB := Lib.hid (bt HB.out B)
  clear B
  go_upto_region 3 with (fail)
  have lXs := Nat.le_refl (World.heap w8).size
  have nXsXa := Xa.lt
  replace Xa := Xa.below (bel1 _ (.cells #[.bool s7, .slice A7 n7 c7, .int .i64 (-2)] 27))
  replace hT := hT.below (bel1 _ (.cells #[.bool s7, .slice A7 n7 c7, .int .i64 (-2)] 27))
  replace p7 := p7.below (bel1 _ (.cells #[.bool s7, .slice A7 n7 c7, .int .i64 (-2)] 27))
  replace HB := Lib.hid (bt HB.out (bel1 _ (.cells #[.bool s7, .slice A7 n7 c7, .int .i64 (-2)] 27)))
  have Xs := Bo.new w8 #[.bool s7, .slice A7 n7 c7, .int .i64 (-2)] 27
  generalize hWn : World.alloc w8 (.cells #[.bool s7, .slice A7 n7 c7, .int .i64 (-2)] 27) = w9 at *
  clear hWn
  go_wp2_with fail
  refine (wFrom (-1) _ (by omega) (by omega)).mono ?_
  rintro ee w10 ⟨s8, A8, n8, c8, rfl, p8, k8, B⟩
  replace Xa := Xa.below B
  replace Xs := Xs.below B
  replace hT := hT.below B
  replace p7 := p7.below B
  replace HB := Lib.hid (bt HB.out B)
  clear B
  go_wp2_with fail
  refine (dMake hT p8.wr (by omega) H3a.out H3b.out).mono ?_
  rintro ee w11 ⟨s9, A9, n9, c9, rfl, p9, k9, B⟩
  replace Xa := Xa.below B
  replace Xs := Xs.below B
  replace hT := hT.below B
  replace p7 := p7.below B
  replace p8 := p8.below B
  replace HB := Lib.hid (bt HB.out B)
  clear B
  go_wp2_with fail
  refine (dFloor hT p9.wr (by omega) flr_awake).mono ?_
  rintro ee w12 ⟨s10, A10, n10, c10, rfl, p10, k10, B⟩
  replace Xa := Xa.below B
  replace Xs := Xs.below B
  replace hT := hT.below B
  replace p7 := p7.below B
  replace p9 := p9.below B
  replace HB := Lib.hid (bt HB.out B)
  clear B
  go_wp2_with fail
  refine (wInt (z := -1) (r := -1) (t := true) p10.wr rfl rfl).mono ?_
  rintro ee w13 ⟨rfl, B⟩
  replace Xa := Xa.below B
  replace Xs := Xs.below B
  replace p7 := p7.below B
  replace p10 := p10.below B
  replace HB := Lib.hid (bt HB.out B)
  clear B
  obtain ⟨b7, h7⟩ := p7.1
  have hl7 := h7.len
  rw [show ((3 : Int).natAbs) = 3 by rfl, limbs_three] at h7 hl7
  obtain rfl : 1 = n7 := by simpa using hl7
  clear hl7
  obtain ⟨o7, rfl, g7⟩ := h7.at (by decide)
  have y0 : w13.cell? ⟨b7, o7, none⟩ = some (.int .u32 3) := g7 0 (by decide)
  clear g7 h7 p7
  have xXa0 := Xa.at (i := 0) (v := .bool s2) rfl
  have xXa1 := Xa.at (i := 1) (v := .slice A2 n2 c2) rfl
  have xXa2 := Xa.at (i := 2) (v := .int .i64 (-1)) rfl
  have xXs0 := Xs.at (i := 0) (v := .bool s7) rfl
  have xXs1 := Xs.at (i := 1) (v := .slice (some ⟨b7, o7, none⟩) 1 c7) rfl
  have xXs2 := Xs.at (i := 2) (v := .int .i64 (-2)) rfl
  go_wp2
  go_ret
  exact ⟨rfl, HB.out⟩

/-- A sum of two, of three: how great, and which number. -/
theorem two_fit {h : Nat} {a b : Int × Int} (hh : h + 2 ≤ 300000) (fa : Fit h (mk a.1 a.2)) (fb : Fit h (mk b.1 b.2)) : Fit (h + 2) (smd [a, b]) ∧ vl (smd [a, b]) = vl (mk a.1 a.2) + vl (mk b.1 b.2) ∧ Can [a, b] := by
  have h1 := pl_fit (by omega) fa fb
  refine ⟨?_, h1.2, can_of_fit (h := h) (by simp; omega) (fun p hp => ?_)⟩
  · rw [smd_two]; exact h1.1.mono (by omega)
  · have : p = a ∨ p = b := by simpa using hp
    rcases this with rfl | rfl <;> assumption
theorem three_fit {h : Nat} {a b c : Int × Int} (hh : h + 3 ≤ 300000) (fa : Fit h (mk a.1 a.2)) (fb : Fit h (mk b.1 b.2)) (fc : Fit h (mk c.1 c.2)) : Fit (h + 3) (smd [a, b, c]) ∧ vl (smd [a, b, c]) = vl (mk a.1 a.2) + vl (mk b.1 b.2) + vl (mk c.1 c.2) ∧ Can [a, b, c] := by
  have h1 := pl_fit (by omega) fa fb
  have h2 := pl_fit (by omega) h1.1 (fc.mono (by omega : h ≤ h + 1))
  have e : smd [a, b, c] = pl (pl (mk a.1 a.2) (mk b.1 b.2)) (mk c.1 c.2) := rfl
  refine ⟨?_, ?_, can_of_fit (h := h) (by simp; omega) (fun p hp => ?_)⟩
  · rw [e]; exact h2.1.mono (by omega)
  · rw [e, h2.2, h1.2]
  · have : p = a ∨ p = b ∨ p = c := by simpa using hp
    rcases this with rfl | rfl | rfl <;> assumption
end Go.Proofs.YteoeoppkefcmdaaDoor

/-
  What a row's proof knows of a slice of limbs that came in, and that it reads as a number.
-/
namespace Go.Proofs.YteoeoppkefcmdaaDoor
open Go.RowKit
set_option linter.unusedVariables false

/-- What the row's proof knows of a slice that came in. -/
def RowIn (w : World) (a : Option Addr) (len cap : Nat) (zs : List Int) : Prop :=
  (a = none ∧ len = 0 ∧ cap = 0 ∧ zs = []) ∨
  ∃ x, a = some x ∧ len ≤ cap ∧ cap ≤ maxLen ∧ zs.length = cap ∧ (∀ i, i < zs.length → w.cell? (x.add i) = some (.int .u32 (zs.getD i 0))) ∧ ∀ n ∈ zs, (Lit.int .u32 n).wf = true

theorem RowIn.len {w : World} {a : Option Addr} {len cap : Nat} {zs : List Int} (h : RowIn w a len cap zs) : len ≤ 9223372036854775807 := by
  rcases h with ⟨_, rfl, _, _⟩ | ⟨x, _, h1, h2, _⟩
  · omega
  · unfold maxLen at h2; omega

theorem wf_u32 {n : Int} (h : (Lit.int .u32 n).wf = true) : 0 ≤ n ∧ n < 4294967296 := by
  simp [Lit.wf, IntKind.min, IntKind.max, IntKind.signed, IntKind.bits] at h
  omega

/-- A slice that came in, not too long, reads as a number. -/
theorem RowIn.rd {w : World} {a : Option Addr} {len cap : Nat} {zs : List Int} (h : RowIn w a len cap zs) (hl : len ≤ 1099511627776) : ∃ v, Rd w a len cap v := by
  rcases h with ⟨rfl, rfl, rfl, rfl⟩ | ⟨x, rfl, h1, h2, h3, h4, h5⟩
  · exact ⟨0, Nm.zero.rd⟩
  · rcases Nat.eq_zero_or_pos len with e | e
    · subst e
      exact ⟨0, 0, [], Sl.none (Nat.zero_le _) rfl, rfl⟩
    · obtain ⟨bk, off, spot⟩ := x
      have hs : spot = none := by
        have := h4 0 (by omega)
        unfold World.cell? at this
        rcases spot with _ | s
        · rfl
        · simp [Addr.add] at this
          split at this <;> simp at this
      subst hs
      refine ⟨_, bk, (zs.take len).map Int.toNat, ⟨by simp; omega, h1, hl, ?_, fun _ => ⟨off, rfl, fun k hk => ?_⟩⟩, rfl⟩
      · intro y hy
        obtain ⟨z, hz, rfl⟩ := List.mem_map.1 hy
        have := wf_u32 (h5 z (List.mem_of_mem_take hz))
        omega
      · have hc := h4 k (by omega)
        rw [Addr.add_mid] at hc
        rw [hc]
        have hz : zs[k]? = some zs[k] := List.getElem?_eq_getElem (by omega)
        have hw := wf_u32 (h5 zs[k] (List.getElem_mem _))
        rw [List.getD_eq_getElem?_getD, List.getD_eq_getElem?_getD, List.getElem?_map, List.getElem?_take, if_pos hk, hz]
        simp
        omega

end Go.Proofs.YteoeoppkefcmdaaDoor

/-
  Plain arithmetic for the statements of layer 3: floors, moves, products; the test of sizes.
-/
namespace Go.Proofs.YteoeoppkefcmdaaDoor
open Go.RowKit
set_option linter.unusedVariables false

theorem few3E {A : Option Addr} {s : Bool} {n c : Nat} {e : Int} {p : Bool} (w : World) (h : fewB n e = p) : Calls Tryd.prog 19 #[.agg #[.bool s, .slice A n c, .int .i64 e]] w (PB w p) := h ▸ few3 A s n c e w
theorem fdiv_bd (N : Int) {P : Int} (hP : 0 < P) : N.fdiv P * P ≤ N ∧ N < (N.fdiv P + 1) * P := by
  have h1 := Int.mul_fdiv_add_fmod N P
  have h2 := Int.fmod_nonneg_of_pos N hP
  have h3 := Int.fmod_lt_of_pos N hP
  rw [Int.mul_comm] at h1
  rw [Int.add_mul, Int.one_mul]
  omega
theorem nat_p2 (k : Nat) : ((2 ^ k : Nat) : Int) = 2 ^ k := by simp
/-- A floor: how near it lies. -/
theorem flr_vl {p : Int × Int} (hp : Nf p) : flr p.1 p.2 * 2 ^ KK ≤ vl p ∧ vl p < (flr p.1 p.2 + 1) * 2 ^ KK := by
  have b := hp.bd
  unfold flr vl
  by_cases hE : 0 ≤ p.2
  · rw [if_pos hE, nat_p2, Int.mul_assoc, ← Int.pow_add, show p.2.toNat + KK = (p.2 + KK).toNat by omega, Int.add_mul, Int.mul_assoc, ← Int.pow_add, show p.2.toNat + KK = (p.2 + KK).toNat by omega]
    have := p2pos KK
    omega
  · rw [if_neg hE, nat_p2]
    obtain ⟨h1, h2⟩ := fdiv_bd p.1 (p2pos (-p.2).toNat)
    have hk : KK = (-p.2).toNat + (p.2 + KK).toNat := by rw [KK_eq]; omega
    have hq := p2pos (p.2 + KK).toNat
    have e : (2 : Int) ^ KK = 2 ^ (-p.2).toNat * 2 ^ (p.2 + KK).toNat := by rw [← Int.pow_add, ← hk]
    rw [e, ← Int.mul_assoc, ← Int.mul_assoc]
    exact ⟨Int.mul_le_mul_of_nonneg_right h1 (by omega), Int.mul_lt_mul_of_pos_right h2 hq⟩
theorem natAbs_lt_of {x b : Int} (h1 : -b < x) (h2 : x < b) : (x.natAbs : Int) < b := by omega
theorem vl_lt {h : Nat} {p : Int × Int} (hh : h ≤ 4194304) (fp : Fit h p) : -(2 ^ h * 2 ^ KK) < vl p ∧ vl p < 2 ^ h * 2 ^ KK := by
  have h1 := fp.2.2
  have hl := fp.lo
  have e1 : (vl p).natAbs * 2 ^ h < 2 ^ h * 2 ^ KK * 2 ^ h := by
    rw [vl_natAbs]
    have k1 : (p.2 + KK).toNat = (p.2 + h).toNat + (KK - h) := by rw [KK_eq]; omega
    rw [k1, Nat.pow_add, ← Nat.mul_assoc, Nat.mul_assoc _ (2 ^ (KK - h)), ← Nat.pow_add, Nat.mul_assoc (2 ^ h), ← Nat.pow_add, ← Nat.pow_add]
    have k2 : h + (KK + h) = 2 * h + (KK - h + h) := by rw [KK_eq]; omega
    rw [k2, Nat.pow_add 2 (2 * h)]
    exact Nat.mul_lt_mul_of_pos_right h1 (Nat.pow_pos (by decide))
  have e2 : (vl p).natAbs < 2 ^ h * 2 ^ KK := Nat.lt_of_mul_lt_mul_right e1
  have e3 : ((vl p).natAbs : Int) < 2 ^ h * 2 ^ KK := by
    have := Int.ofNat_lt.2 e2
    rwa [Int.natCast_mul, nat_p2, nat_p2] at this
  omega
/-- A whole number of so many bits, as one times a power of two. -/
theorem whole_fit {z : Int} {h : Nat} (hh : h ≤ 4194304) (hz : z.natAbs < 2 ^ h) : Fit h (mk z 0) ∧ vl (mk z 0) = z * 2 ^ KK := by
  have := mk_fit (z := z) (e := 0) (h := h) hh (by omega) (by
    rw [show ((0 : Int) + h).toNat = h by omega, show 2 * h = h + h by omega, Nat.pow_add]
    exact Nat.mul_lt_mul_of_pos_right hz (Nat.pow_pos (by decide)))
  rwa [show ((0 : Int) + KK).toNat = KK by omega] at this
theorem flr_abs {h : Nat} {p : Int × Int} (hh : h ≤ 4194304) (fp : Fit h p) : (flr p.1 p.2).natAbs < 2 ^ (h + 1) ∧ (flr p.1 p.2 + 1).natAbs < 2 ^ (h + 1) := by
  obtain ⟨a, b⟩ := flr_vl fp.nf
  obtain ⟨c, d⟩ := vl_lt hh fp
  have hq := p2pos KK
  have hp := p2pos h
  have h1 : flr p.1 p.2 < 2 ^ h := Int.lt_of_mul_lt_mul_right (Int.lt_of_le_of_lt a d) (by omega)
  have h2 : -(2 ^ h) < flr p.1 p.2 + 1 := Int.lt_of_mul_lt_mul_right (by rw [Int.neg_mul]; exact Int.lt_trans c b) (by omega : (0 : Int) ≤ 2 ^ KK)
  have h3 : ((2 ^ (h + 1) : Nat) : Int) = 2 ^ h + 2 ^ h := by rw [nat_p2, Int.pow_succ]; omega
  constructor <;> (apply Int.ofNat_lt.1; rw [h3]; omega)
theorem flr_fit {h : Nat} {p : Int × Int} (hh : h + 1 ≤ 4194304) (fp : Fit h p) : Fit (h + 1) (mk (flr p.1 p.2) 0) ∧ vl (mk (flr p.1 p.2) 0) = flr p.1 p.2 * 2 ^ KK := whole_fit hh (flr_abs (by omega) fp).1
theorem one_nf : mk 1 0 = (1, 0) := mk_odd (by decide) (by decide) (by decide)
theorem vl_one : vl (1, 0) = 2 ^ KK := by unfold vl; rw [Int.one_mul]; congr 1
/-- A whole number is its own floor. -/
theorem flr_whole {z : Int} {h : Nat} (hh : h ≤ 4194304) (hz : z.natAbs < 2 ^ h) : flr (mk z 0).1 (mk z 0).2 = z := by
  obtain ⟨f, v⟩ := whole_fit hh hz
  obtain ⟨a, b⟩ := flr_vl f.nf
  rw [v] at a b
  have hq := p2pos KK
  have h1 := Int.le_of_mul_le_mul_right a hq
  have h2 := Int.lt_of_mul_lt_mul_right b (Int.le_of_lt hq)
  omega
theorem limbs40 {z : Int} {n : Nat} (hz : z.natAbs < 4294967296 ^ n) (hn : n ≤ 40) : ∃ h, h = 1280 ∧ z.natAbs < 2 ^ h := by
  obtain ⟨h, hh⟩ : ∃ h, h = 1280 := ⟨_, rfl⟩
  refine ⟨h, hh, Nat.lt_of_lt_of_le hz ?_⟩
  rw [show (4294967296 : Nat) = 2 ^ 32 by decide, ← Nat.pow_mul]
  exact Nat.pow_le_pow_right (by decide) (by omega)
theorem raw_fit' {w : World} {s : Bool} {A : Option Addr} {n c : Nat} {z e : Int} (h : Wr w s A n c z) (hf : fewB n e = true) : ∃ η, η = 1640 ∧ Fit η (mk z e) := by
  obtain ⟨h1, h2, h3⟩ := fewB_true hf
  exact ⟨_, rfl, (raw_fit h.rd.bound h1 h2 h3).1⟩
theorem sq_nonneg' (x : Int) : 0 ≤ x * x := by
  rcases Int.le_total 0 x with h | h
  · exact Int.mul_nonneg h h
  · exact Int.mul_nonneg_of_nonpos_of_nonpos h h
theorem cmpI_self' (x : Int) : cmpI x x = 0 := cmpI_eq rfl
/-- Equal numbers compare as equal. -/
theorem cmp_same0 {x y : Int} (h : x = y) : cmpI x y = 0 := cmpI_eq h
end Go.Proofs.YteoeoppkefcmdaaDoor

/-
  What a row's proof is told of whole numbers that come in.
-/
namespace Go.Proofs.YteoeoppkefcmdaaDoor
open Go.ChangeShapes Go.WideShapes Go.ChangeAt Go.RowKit Go.Deep
set_option linter.unusedVariables false

section
variable {H : Type} {enc : TypeId × Value → H} {W : World}

theorem row_of {n : Nat} {v : Value} {y : DataW H × List MemPlace} (h : DataW.trod enc Tryd.prog W 0 (fun _ => true) true n 22 [v] = some y) : ∃ a len cap zs, v = .slice a len cap ∧ RowIn W a len cap zs := by
  rcases open_ints Tryd.underlying22 Tryd.underlying51 (by kernel_rfl) h with ⟨hcs, _⟩ | ⟨x, l, c, zs, hcs, _, hl, hm, hz, _, hcell, hwz⟩
  · simp at hcs
    exact ⟨none, 0, 0, [], hcs, .inl ⟨rfl, rfl, rfl, rfl⟩⟩
  · simp at hcs
    exact ⟨some x, l, c, zs, hcs, .inr ⟨_, rfl, hl, hm, by simpa using hz, hcell, hwz⟩⟩

theorem cells_whole : Tryd.prog.cellsOf 24 = 2 := by kernel_rfl
theorem cells_bool : Tryd.prog.cellsOf 4 = 1 := by kernel_rfl
theorem cells_row : Tryd.prog.cellsOf 22 = 1 := by kernel_rfl

theorem whole_of {n : Nat} {cs : List Value} {y : DataW H × List MemPlace} (h : DataW.trod enc Tryd.prog W 0 (fun _ => true) true n 24 cs = some y) :
    ∃ s a len cap zs, cs = [.bool s, .slice a len cap] ∧ RowIn W a len cap zs := by
  obtain ⟨y0, y1, m, _, hl, h0, h1⟩ := trod_struct2 Tryd.underlying24 h
  rw [cells_whole] at hl
  simp only [cells_bool, cells_row] at h0 h1
  match cs, hl with
  | [c0, c1], _ =>
    obtain ⟨s, e, _⟩ := DataW.trod_bool Tryd.underlying4 h0
    obtain ⟨a, len, cap, zs, e1, hr⟩ := row_of (v := c1) h1
    simp at e
    exact ⟨s, a, len, cap, zs, by rw [e, e1], hr⟩

theorem open_whole {r : Reach} {b0 : Nat} {v : Value} {d : DataW H} {p : List MemPlace} (hv : Value.okWide Tryd.prog W r b0 24 v) (h : DataW.Trod enc Tryd.prog W 0 (fun _ => true) true 24 v d p) :
    ∃ s a len cap zs, v = .agg #[.bool s, .slice a len cap] ∧ RowIn W a len cap zs := by
  obtain ⟨cs, rfl, hsz⟩ := okWide_struct Tryd.underlying24 hv
  obtain ⟨fuel, hf⟩ := h
  obtain ⟨s, a, len, cap, zs, e, hr⟩ := whole_of hf
  refine ⟨s, a, len, cap, zs, ?_, hr⟩
  simp [Value.cells] at e
  congr 1
  cases cs
  simp at e
  rw [e]

/-- What a row's proof knows of a slice of whole numbers that came in. -/
def RowsW (w : World) (a : Option Addr) (len cap : Nat) : Prop :=
  (a = none ∧ len = 0 ∧ cap = 0) ∨ ∃ x, a = some x ∧ len ≤ cap ∧ cap ≤ maxLen ∧ ∀ i, i < len → ∃ s b n c zs, w.cell? (x.add (i * 2)) = some (.bool s) ∧ w.cell? (x.add (i * 2 + 1)) = some (.slice b n c) ∧ RowIn w b n c zs

theorem open_wholes {r : Reach} {b0 : Nat} {v : Value} {d : DataW H} {p : List MemPlace} (hv : Value.okWide Tryd.prog W r b0 75 v) (h : DataW.Trod enc Tryd.prog W 0 (fun _ => true) true 75 v d p) :
    ∃ a len cap, v = .slice a len cap ∧ RowsW W a len cap := by
  obtain ⟨a, len, cap, rfl⟩ := okWide_slice Tryd.underlying75 hv
  refine ⟨a, len, cap, rfl, ?_⟩
  obtain ⟨fuel, hf⟩ := h
  rcases open_slice Tryd.underlying75 hf with ⟨hcs, _⟩ | ⟨x, l, c, m, n, D, Pl, hcs, _, hl, hm, hmm, _, hi⟩
  · simp [Value.cells] at hcs
    obtain ⟨rfl, rfl, rfl⟩ := hcs
    exact .inl ⟨rfl, rfl, rfl⟩
  · simp [Value.cells] at hcs
    obtain ⟨rfl, rfl, rfl⟩ := hcs
    simp at hmm
    subst hmm
    refine .inr ⟨x, rfl, hl, hm, fun i hil => ?_⟩
    obtain ⟨cs', hc, ht⟩ := hi i (by omega)
    rw [cells_whole] at hc
    obtain ⟨_, hcl, hat⟩ := World.cells?_some hc
    obtain ⟨s, b, n', c', zs, rfl, hr⟩ := whole_of ht
    have h0 := hat 0 (by omega)
    have h1 := hat 1 (by omega)
    rw [Go.Deep.add_add] at h0 h1
    exact ⟨s, b, n', c', zs, by simpa using h0, by simpa using h1, hr⟩
end
end Go.Proofs.YteoeoppkefcmdaaDoor

/-
  What a row's proof is told of numbers times powers of two that come in, and of a listed table.
-/
namespace Go.Proofs.YteoeoppkefcmdaaDoor
open Go.ChangeShapes Go.WideShapes Go.ChangeAt Go.RowKit Go.Deep
set_option linter.unusedVariables false

section
variable {H : Type} {enc : TypeId × Value → H} {W : World}

theorem cells_dy : Tryd.prog.cellsOf 27 = 3 := by kernel_rfl
theorem cells_int : Tryd.prog.cellsOf 3 = 1 := by kernel_rfl

theorem dy_of {n : Nat} {cs : List Value} {y : DataW H × List MemPlace} (h : DataW.trod enc Tryd.prog W 0 (fun _ => true) true n 27 cs = some y) :
    ∃ s a len cap zs e, cs = [.bool s, .slice a len cap, .int .i64 e] ∧ RowIn W a len cap zs := by
  obtain ⟨y0, y1, m, _, hl, h0, h1⟩ := trod_struct2 Tryd.underlying27 h
  rw [cells_dy] at hl
  simp only [cells_whole, cells_int] at h0 h1
  match cs, hl with
  | [c0, c1, c2], _ =>
    obtain ⟨s, a, len, cap, zs, e, hr⟩ := whole_of h0
    obtain ⟨k, e2, _, _⟩ := DataW.trod_int Tryd.underlying3 h1
    simp at e e2
    exact ⟨s, a, len, cap, zs, k, by rw [e.1, e.2, e2], hr⟩

theorem open_dy {r : Reach} {b0 : Nat} {v : Value} {d : DataW H} {p : List MemPlace} (hv : Value.okWide Tryd.prog W r b0 27 v) (h : DataW.Trod enc Tryd.prog W 0 (fun _ => true) true 27 v d p) :
    ∃ s a len cap zs e, v = .agg #[.bool s, .slice a len cap, .int .i64 e] ∧ RowIn W a len cap zs := by
  obtain ⟨cs, rfl, hsz⟩ := okWide_struct Tryd.underlying27 hv
  obtain ⟨fuel, hf⟩ := h
  obtain ⟨s, a, len, cap, zs, k, e, hr⟩ := dy_of hf
  refine ⟨s, a, len, cap, zs, k, ?_, hr⟩
  simp [Value.cells] at e
  congr 1
  cases cs
  simp at e
  rw [e]

/-- What a row's proof knows of a slice of numbers that came in. -/
def RowsD (w : World) (a : Option Addr) (len cap : Nat) : Prop :=
  (a = none ∧ len = 0 ∧ cap = 0) ∨ ∃ x, a = some x ∧ len ≤ cap ∧ cap ≤ maxLen ∧ ∀ i, i < len → ∃ s b n c zs e, w.cell? (x.add (i * 3)) = some (.bool s) ∧ w.cell? (x.add (i * 3 + 1)) = some (.slice b n c) ∧ w.cell? (x.add (i * 3 + 2)) = some (.int .i64 e) ∧ RowIn w b n c zs

theorem open_dys {r : Reach} {b0 : Nat} {v : Value} {d : DataW H} {p : List MemPlace} (hv : Value.okWide Tryd.prog W r b0 34 v) (h : DataW.Trod enc Tryd.prog W 0 (fun _ => true) true 34 v d p) :
    ∃ a len cap, v = .slice a len cap ∧ RowsD W a len cap := by
  obtain ⟨a, len, cap, rfl⟩ := okWide_slice Tryd.underlying34 hv
  refine ⟨a, len, cap, rfl, ?_⟩
  obtain ⟨fuel, hf⟩ := h
  rcases open_slice Tryd.underlying34 hf with ⟨hcs, _⟩ | ⟨x, l, c, m, n, D, Pl, hcs, _, hl, hm, hmm, _, hi⟩
  · simp [Value.cells] at hcs
    obtain ⟨rfl, rfl, rfl⟩ := hcs
    exact .inl ⟨rfl, rfl, rfl⟩
  · simp [Value.cells] at hcs
    obtain ⟨rfl, rfl, rfl⟩ := hcs
    simp at hmm
    subst hmm
    refine .inr ⟨x, rfl, hl, hm, fun i hil => ?_⟩
    obtain ⟨cs', hc, ht⟩ := hi i (by omega)
    rw [cells_dy] at hc
    obtain ⟨_, hcl, hat⟩ := World.cells?_some hc
    obtain ⟨s, b, n', c', zs, e, rfl, hr⟩ := dy_of ht
    have h0 := hat 0 (by omega)
    have h1 := hat 1 (by omega)
    have h2 := hat 2 (by omega)
    rw [Go.Deep.add_add] at h0 h1 h2
    exact ⟨s, b, n', c', zs, e, by simpa using h0, by simpa using h1, by simpa using h2, hr⟩
theorem RowsD.len {w : World} {a : Option Addr} {len cap : Nat} (h : RowsD w a len cap) : len ≤ 9223372036854775807 := by
  rcases h with ⟨_, rfl, _⟩ | ⟨x, _, h1, h2, _⟩
  · omega
  · unfold maxLen at h2; omega

theorem gTab : Tryd.prog.globalNamed "math/bits.deBruijn32tab" = some 0 := by kernel_rfl
theorem tTab : (Tryd.prog.globals[0]?).map (·.type) = some 80 := by kernel_rfl
theorem cells_u8 : Tryd.prog.cellsOf 5 = 1 := by kernel_rfl
theorem cells_tab : Tryd.prog.cellsOf 80 = 32 := by kernel_rfl
theorem tab_of {rest : List (String × DataW Unit)} (h : laidMet Tryd.prog (("math/bits.deBruijn32tab", Lib.tabData .u8 tzs) :: rest) W) : Tab W := by
  have hT := Lib.tabIs_of_head gTab tTab Tryd.underlying80 Tryd.underlying5 cells_u8 cells_tab h
  exact fun i hi => hT.cell gTab i hi
end
end Go.Proofs.YteoeoppkefcmdaaDoor

/-
  Moves by powers of two: plain arithmetic, and what dy.Move does within bounds.
-/
namespace Go.Proofs.YteoeoppkefcmdaaDoor
open Go.RowKit
set_option linter.unusedVariables false

def mvs (p : Int × Int) (k : Int) : Int × Int := mk p.1 (p.2 + k)
theorem mvs_fit {h j : Nat} {p : Int × Int} {k : Int} (hh : h + j ≤ 4194304) (fp : Fit h p) (h1 : -(j : Int) ≤ k) (h2 : k ≤ j) : Fit (h + j) (mvs p k) ∧ vl (mvs p k) * 2 ^ j = vl p * 2 ^ (j + k).toNat := by
  have lp := fp.lo
  obtain ⟨a, b⟩ := mk_fit (z := p.1) (e := p.2 + k) (h := h + j) hh (by omega) (by
    have e1 : (p.2 + k + (h + j : Nat)).toNat = (p.2 + h).toNat + (k + j).toNat := by omega
    rw [e1, Nat.pow_add, ← Nat.mul_assoc, show 2 * (h + j) = 2 * h + 2 * j by omega, Nat.pow_add]
    exact Nat.lt_of_lt_of_le (Nat.mul_lt_mul_of_pos_right fp.2.2 (Nat.pow_pos (by decide))) (Nat.mul_le_mul_left _ (Nat.pow_le_pow_right (by decide) (by omega))))
  refine ⟨a, ?_⟩
  unfold mvs
  rw [b]
  unfold vl
  rw [Int.mul_assoc, Int.mul_assoc, ← Int.pow_add, ← Int.pow_add]
  have e2 : (p.2 + k + KK).toNat + j = (p.2 + KK).toNat + (j + k).toNat := by rw [KK_eq]; omega
  rw [e2]
/-- The sum that wraps around ends beyond the bounds. -/
theorem mk_wrap {P : Int × Int} (b1 : -4194304 ≤ P.2) (b2 : P.2 ≤ 4194304) {k : Int} (k1 : -9223372036854775808 ≤ k) (k2 : k ≤ 9223372036854775807) :
    mk P.1 (IntKind.i64.wrap (P.2 + k)) = if 16777216 < k ∨ k < -16777216 then (0, 0) else mk P.1 (P.2 + k) := by
  by_cases hk : 16777216 < k ∨ k < -16777216
  · rw [if_pos hk]
    by_cases h1 : P.2 + k < -9223372036854775808
    · have e : IntKind.i64.wrap (P.2 + k) = P.2 + k + 18446744073709551616 := by
        simp [IntKind.wrap, IntKind.signed, IntKind.bits]
        omega
      rw [e]
      exact mk_high (by omega)
    · by_cases h2 : 9223372036854775807 < P.2 + k
      · have e : IntKind.i64.wrap (P.2 + k) = P.2 + k - 18446744073709551616 := by
          simp [IntKind.wrap, IntKind.signed, IntKind.bits]
          omega
        rw [e]
        exact mk_low (by omega)
      · rw [IntWalk.i64_in _ (by omega)]
        rcases hk with h | h
        · exact mk_high (by omega)
        · exact mk_low (by omega)
  · rw [if_neg hk, IntWalk.i64_in _ (by omega)]
theorem dMv {w : World} {A : Option Addr} {n c : Nat} {s : Bool} {z e k N E : Int} (hT : Tab w) (h : Wr w s A n c z) (hn : n ≤ 100000) (k1 : -9223372036854775808 ≤ k) (k2 : k ≤ 9223372036854775807) (hN : (mv z e k).1 = N) (hE : (mv z e k).2 = E) :
    Calls Tryd.prog 13 #[.agg #[.bool s, .slice A n c, .int .i64 e], .int .i64 k] w (D1 w n N E) := by
  obtain ⟨b1, b2⟩ := mk_bd z e
  have hm := mk_wrap (P := mk z e) b1 b2 k1 k2
  have hv : mv z e k = mk (mk z e).1 (IntKind.i64.wrap ((mk z e).2 + k)) := by rw [hm]; rfl
  rw [hv] at hN hE
  exact dMoveW hT h hn hN hE
theorem dMove {w : World} {A : Option Addr} {n c : Nat} {s : Bool} {z e k N E : Int} (hT : Tab w) (h : Wr w s A n c z) (hn : n ≤ 100000) (k1 : -2000 ≤ k) (k2 : k ≤ 2000) (hN : (mvs (mk z e) k).1 = N) (hE : (mvs (mk z e) k).2 = E) :
    Calls Tryd.prog 13 #[.agg #[.bool s, .slice A n c, .int .i64 e], .int .i64 k] w (D1 w n N E) := by
  obtain ⟨b1, b2⟩ := mk_bd z e
  have hv : mvs (mk z e) k = mk (mk z e).1 (IntKind.i64.wrap ((mk z e).2 + k)) := by rw [IntWalk.i64_in _ (by omega)]; rfl
  rw [hv] at hN hE
  exact dMoveW hT h hn hN hE
/-- What may be, of what is made. -/
theorem mayD_nf {w : World} {s : Bool} {A : Option Addr} {n c : Nat} {P : Int × Int} (h : Wn w s A n c P.1) (hP : Nf P) : mayD s n P.1.natAbs P.2 = true := by
  unfold mayD
  rw [mayB_wn h, Bool.true_and]
  rcases hP.cases with e | ⟨e, h1, h2, h3⟩
  · rw [e] at h ⊢
    have := h.1.pos
    have hn : n = 0 := by simp at this; exact this
    rw [if_pos hn]
    rfl
  · have := h.1.pos
    have hn : n ≠ 0 := by omega
    rw [if_neg hn]
    simp only [Bool.and_eq_true, beq_iff_eq, decide_eq_true_eq]
    refine ⟨?_, h2, h3⟩
    omega
end Go.Proofs.YteoeoppkefcmdaaDoor
