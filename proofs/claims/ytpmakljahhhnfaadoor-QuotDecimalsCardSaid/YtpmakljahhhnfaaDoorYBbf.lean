/-
  Contracts and words that the statement's proof rests on, several texts in one: Ik, Il, In.
-/
import Derived.Test.YtpmakljahhhnfaaDoorYBar
import Derived.Test.YtpmakljahhhnfaaDoorYBau
import Derived.Test.YtpmakljahhhnfaaDoorYBbe
/-
  What the examples of layer 7 rest on: a third, a half, the root of four. Plain arithmetic; no Go text.
-/
namespace Go.Proofs.YtpmakljahhhnfaaDoor
open Go.RowKit
set_option linter.unusedVariables false

theorem opl_fz {n : Int} (h0 : n ≠ 0) (h1 : -9223372036854775808 ≤ n) (h2 : n ≤ 9223372036854775807) : Fz (opl n) 1600 := by
  have q := of_fq h0 h1 h2
  have hb := blen_mono_le (n := n.natAbs) (k := 64) (by omega)
  have hf : fewq 1 (-(64 - (blen n.natAbs : Int))) = true := by
    unfold fewq
    rw [decide_eq_true (show -1500 ≤ -(64 - (blen n.natAbs : Int)) by omega), decide_eq_true (show -(64 - (blen n.natAbs : Int)) ≤ 1500 by omega)]
    rfl
  have := few_fz (s := decide (n < 0)) q.top hf
  rw [q.rk] at this
  exact this
theorem fz_fit {x : Int} {h : Nat} (f : Fz x h) (hi : infp x = false) : Fit h (ep x) := by
  rcases f with f | f
  · rw [hi] at f; cases f
  · exact f
theorem pow_three : ∀ k : Nat, (2 : Int) ^ k % 3 ≠ 0
  | 0 => by decide
  | k + 1 => by
    have := pow_three k
    rw [Int.pow_succ]
    omega
def qtr : Int := 9670807037734637837221889
theorem fq_qtr : Fq 1 false 9223372036854775808 (-65) qtr := Fq.fin (by decide) (by decide) (by decide) (by decide) (by decide)
theorem qtr_vr : vr qtr * 4 = 2 ^ KK := by
  have hk := KK_eq
  obtain ⟨_, _, _, _, _, _, _, hv, _⟩ := fq_vr fq_qtr
  rw [hv, wsg_f, show (9223372036854775808 : Int) = 2 ^ 63 by decide, show (4 : Int) = 2 ^ 2 by decide, ← Int.pow_add, ← Int.pow_add]
  congr 1
theorem fin_one {D : Int} {s : Bool} {M E r : Int} (q : Fq D s M E r) (h0 : 0 < r) (h1 : r < 19342822337206103650074625) : D = 1 := by
  rcases q.cases with ⟨_, _, _, _, h⟩ | ⟨h, _⟩ | ⟨_, _, _, ⟨_, h⟩ | ⟨_, h⟩⟩
  · omega
  · exact h
  · omega
  · omega
/-- A third is none of the numbers, so both sides are neighbours, above nought. -/
theorem third : ∃ l h, Qt false (opl 1) (opl 3) l ∧ Qt true (opl 1) (opl 3) h ∧ nx true l = h ∧ 0 < l ∧ l < 19342822337206103650074625 := by
  have htp := TP_eq
  obtain ⟨l, hl⟩ := qt_ex false (opl 1) (opl 3)
  obtain ⟨h, hh⟩ := qt_ex true (opl 1) (opl 3)
  obtain ⟨a1, a2⟩ := opl_pos (n := 1) (by decide) (by decide)
  obtain ⟨b1, b2⟩ := opl_pos (n := 3) (by decide) (by decide)
  have va := opl_vr (n := 1) (by decide) (by decide)
  have vb := opl_vr (n := 3) (by decide) (by decide)
  have ia := infp_fin (show -19342822337206103650074625 < opl 1 by omega) a2
  have ib := infp_fin (show -19342822337206103650074625 < opl 3 by omega) b2
  have fa := fz_fit (opl_fz (n := 1) (by decide) (by decide) (by decide)) ia
  have fb := fz_fit (opl_fz (n := 3) (by decide) (by decide) (by decide)) ib
  obtain ⟨c1, c2, c3, c4, c5, c6, c7⟩ := qt_holds (by omega) a2 b1 b2 fa fb hl hh
  rw [va, vb] at c5 c6
  have hz := p2pos KK
  have hne : h ≠ l := by
    intro e
    rw [e] at c6
    have e1 : vr l * (3 * 2 ^ KK) = 1 * 2 ^ KK * 2 ^ KK := by omega
    have e2 : vr l * 3 = 2 ^ KK := by
      refine Int.eq_of_mul_eq_mul_right (Int.ne_of_gt hz) ?_
      rw [Int.mul_assoc, e1, Int.one_mul]
    have := pow_three KK
    omega
  have el : h = l + 1 := by omega
  have hn : ¬ (opl 1 = 0 ∨ infp (opl 3) = true) := by
    rw [ib]
    rintro (c | c)
    · omega
    · cases c
  have sl := (qt_fin (by omega) hn ia).1 hl
  rw [decide_eq_false (show ¬ opl 3 < 0 by omega), wsg_f, wsg_f, va, vb] at sl
  have sq : Sid false (vr qtr) 1 qtr := sid_exact (by decide) (by decide) (by decide) (Int.mul_one _)
  have hq := qtr_vr
  have hlow := sq.mono (by decide) (show (0 : Int) < 3 * 2 ^ KK by omega) sl (by
    rw [Int.mul_one, Int.one_mul, ← Int.mul_assoc]
    refine Int.mul_le_mul_of_nonneg_right ?_ (Int.le_of_lt hz)
    omega)
  have hqp : 0 < qtr := by decide
  refine ⟨l, h, hl, hh, ?_, by omega, c2⟩
  unfold nx
  rw [if_pos rfl]
  omega
theorem root_four : Ro true (opl 4) (opl 2) true := by
  obtain ⟨a1, a2⟩ := opl_pos (n := 4) (by decide) (by decide)
  have ia := infp_fin (show -19342822337206103650074625 < opl 4 by omega) a2
  refine (ro_fin (by omega) ?_).2 ⟨?_, rfl⟩
  · rw [ia]
    rintro (c | c)
    · omega
    · cases c
  · have := rt_square (up := true) (n := 2) (by decide) (by decide)
    rw [show (2 : Int) * 2 = 4 by decide] at this
    exact this
theorem limbs_five : limbs 5 = [5] := by
  rw [limbs_pos (by decide), show (5 : Nat) / 4294967296 = 0 by decide, limbs_zero]
theorem may_half : mayC false 1 5 (-1) = true := by
  unfold mayC mayB
  rw [limbs_five]
  decide
theorem from_half : Fm false true 5 (-1) hlf := by
  refine (fm_dn (by decide)).2 ?_
  rw [show (-(-1 : Int)).toNat = 1 by decide, show ((10 ^ 1 : Nat) : Int) = 10 by decide]
  refine (rq_some (by decide)).2 ?_
  rw [decide_eq_false (by decide), wsg_f, wsg_f]
  have h := hlf_vr
  refine sid_exact (by decide) (by decide) (by decide) ?_
  omega
theorem half_one : mulp true (opl 1) hlf = hlf := by
  rw [mulp_comm]
  exact mulp_one true (by decide) (by decide)
end Go.Proofs.YtpmakljahhhnfaaDoor

/-
  What every statement of layer 7 begins with: the chapter's examples.
-/
namespace Go.Proofs.YtpmakljahhhnfaaDoor
open Go.RowKit
set_option linter.unusedVariables false
set_option linter.unusedSimpArgs false
set_option maxRecDepth 100000

theorem lit_five (W : World) : Rd (W.alloc (.cells #[.int .u32 5] 53)) (some ⟨W.heap.size, 0, none⟩) 1 1 5 :=
  ⟨_, [5], (Own.new W [5]).all (Lim.cons (by decide) Lim.nil) (by simp) (Nat.le_refl _), by decide⟩
set_option maxHeartbeats 8000000 in
theorem awake7 {w : World} (hT : Tab w) : Calls Tryd.prog 8 #[] w (PB w true) := by
  obtain ⟨l, h, tl, th, tn, t0, t1⟩ := third
  have h4 := root_four
  have hf := from_half
  have h1 := half_one
  obtain ⟨o1, e1⟩ : ∃ o, opl 1 = o := ⟨_, rfl⟩
  obtain ⟨o3, e3⟩ : ∃ o, opl 3 = o := ⟨_, rfl⟩
  obtain ⟨o4, e4⟩ : ∃ o, opl 4 = o := ⟨_, rfl⟩
  obtain ⟨o2, e2⟩ : ∃ o, opl 2 = o := ⟨_, rfl⟩
  rw [e1, e3] at tl th
  rw [e4, e2] at h4
  rw [e1] at h1
  obtain ⟨hv, ehv⟩ : ∃ v, hlf = v := ⟨_, rfl⟩
  have HHV := Lib.hid ehv
  rw [ehv] at hf
  have h1' : mulp true o1 hlf = hv := h1.trans ehv
  clear h1 ehv HHV
  have HO1 : Hid (sgi (decide ((1 : Int) < 0)) (lo (1 : Int).natAbs 0) = o1) := Lib.hid e1
  have HO3 : Hid (sgi (decide ((3 : Int) < 0)) (lo (3 : Int).natAbs 0) = o3) := Lib.hid e3
  have HO4 : Hid (sgi (decide ((4 : Int) < 0)) (lo (4 : Int).natAbs 0) = o4) := Lib.hid e4
  have HO2 : Hid (sgi (decide ((2 : Int) < 0)) (lo (2 : Int).natAbs 0) = o2) := Lib.hid e2
  have HL := Lib.hid tl
  have HH := Lib.hid th
  have HN := Lib.hid tn
  have HR4 := Lib.hid h4
  have HF : Hid (Fm false true (sg false 5) (-1) hv) := Lib.hid hf
  have HMY := Lib.hid may_half
  have HHF := Lib.hid h1'
  have HT0 := Lib.hid (And.intro t0 t1)
  clear tl th tn h4 hf h1' e1 e2 e3 e4 t0 t1
  go_enter Tryd.func8, Tryd.ntmps8
  have HB := Lib.hid (Below.refl w.heap.size w)
  go_wp2_with fail
  refine (nOf _ (by decide) (by decide) HO1.out).mono ?_
  rintro ee w1 ⟨K1, s1, M1, E1, rfl, q1, B⟩
  replace hT := hT.below B
  replace HB := Lib.hid (bt HB.out B)
  clear B
  go_wp2_with fail
  refine (nOf _ (by decide) (by decide) HO3.out).mono ?_
  rintro ee w2 ⟨K2, s2, M2, E2, rfl, q2, B⟩
  replace hT := hT.below B
  replace HB := Lib.hid (bt HB.out B)
  clear B
  go_wp2_with fail
  refine (kDiv hT q1.top q2.top q1.rk q2.rk HL.out).mono ?_
  rintro ee w3 ⟨K3, s3, M3, E3, rfl, q3, B⟩
  replace hT := hT.below B
  replace HB := Lib.hid (bt HB.out B)
  clear B
  obtain rfl : K3 = 1 := fin_one q3 HT0.out.1 HT0.out.2
  clear q1 q2
  go_upto_region 2 with (fail)
  have lX1 := Nat.le_refl (World.heap w3).size
  replace hT := hT.below (bel1 _ (.cells #[.int .i64 1, .bool s3, .int .u64 M3, .int .i64 E3] 24))
  replace HB := Lib.hid (bt HB.out (bel1 _ (.cells #[.int .i64 1, .bool s3, .int .u64 M3, .int .i64 E3] 24)))
  have X1 := Bo.new w3 #[.int .i64 1, .bool s3, .int .u64 M3, .int .i64 E3] 24
  generalize hWn : World.alloc w3 (.cells #[.int .i64 1, .bool s3, .int .u64 M3, .int .i64 E3] 24) = w4 at *
  clear hWn
  clear lX1
  go_wp2_with fail
  refine (nOf _ (by decide) (by decide) HO1.out).mono ?_
  rintro ee w5 ⟨K1, s1, M1, E1, rfl, q1, B⟩
  replace X1 := X1.below B
  replace hT := hT.below B
  replace HB := Lib.hid (bt HB.out B)
  clear B
  go_wp2_with fail
  refine (nOf _ (by decide) (by decide) HO3.out).mono ?_
  rintro ee w6 ⟨K2, s2, M2, E2, rfl, q2, B⟩
  replace X1 := X1.below B
  replace hT := hT.below B
  replace HB := Lib.hid (bt HB.out B)
  clear B
  go_wp2_with fail
  refine (kDiv hT q1.top q2.top q1.rk q2.rk HH.out).mono ?_
  rintro ee w7 ⟨K4, s4, M4, E4, rfl, q4, B⟩
  replace X1 := X1.below B
  replace hT := hT.below B
  replace HB := Lib.hid (bt HB.out B)
  clear B
  clear q1 q2
  go_upto_region 3 with (fail)
  have lX2 := Nat.le_refl (World.heap w7).size
  have nX2X1 := X1.lt
  replace X1 := X1.below (bel1 _ (.cells #[.int .i64 K4, .bool s4, .int .u64 M4, .int .i64 E4] 24))
  replace hT := hT.below (bel1 _ (.cells #[.int .i64 K4, .bool s4, .int .u64 M4, .int .i64 E4] 24))
  replace HB := Lib.hid (bt HB.out (bel1 _ (.cells #[.int .i64 K4, .bool s4, .int .u64 M4, .int .i64 E4] 24)))
  have X2 := Bo.new w7 #[.int .i64 K4, .bool s4, .int .u64 M4, .int .i64 E4] 24
  generalize hWn : World.alloc w7 (.cells #[.int .i64 K4, .bool s4, .int .u64 M4, .int .i64 E4] 24) = w8 at *
  clear hWn
  clear lX2
  go_wp2_with fail
  refine (nOf _ (by decide) (by decide) HO4.out).mono ?_
  rintro ee w9 ⟨K1, s1, M1, E1, rfl, q1, B⟩
  replace X1 := X1.below B
  replace X2 := X2.below B
  replace hT := hT.below B
  replace HB := Lib.hid (bt HB.out B)
  clear B
  go_wp2_with fail
  refine (kRoot hT q1.top q1.rk HR4.out).mono ?_
  rintro ee wA ⟨K5, s5, M5, E5, rfl, q5, B⟩
  replace X1 := X1.below B
  replace X2 := X2.below B
  replace hT := hT.below B
  replace HB := Lib.hid (bt HB.out B)
  clear B
  clear q1
  go_upto_region 4 with (fail)
  have lX3 := Nat.le_refl (World.heap wA).size
  have nX3X1 := X1.lt
  have nX3X2 := X2.lt
  replace X1 := X1.below (bel1 _ (.cells #[.int .i64 K5, .bool s5, .int .u64 M5, .int .i64 E5] 24))
  replace X2 := X2.below (bel1 _ (.cells #[.int .i64 K5, .bool s5, .int .u64 M5, .int .i64 E5] 24))
  replace hT := hT.below (bel1 _ (.cells #[.int .i64 K5, .bool s5, .int .u64 M5, .int .i64 E5] 24))
  replace HB := Lib.hid (bt HB.out (bel1 _ (.cells #[.int .i64 K5, .bool s5, .int .u64 M5, .int .i64 E5] 24)))
  have X3 := Bo.new wA #[.int .i64 K5, .bool s5, .int .u64 M5, .int .i64 E5] 24
  generalize hWn : World.alloc wA (.cells #[.int .i64 K5, .bool s5, .int .u64 M5, .int .i64 E5] 24) = wB at *
  clear hWn
  clear lX3
  go_wp2_with fail
  refine (kFrom (m := true) (hT.below (bel1 _ _)) (lit_five wB) (by decide) HMY.out HF.out).mono ?_
  rintro ee wC ⟨K6, s6, M6, E6, rfl, q6, B⟩
  replace B := bt (bel1 _ _) B
  replace X1 := X1.below B
  replace X2 := X2.below B
  replace X3 := X3.below B
  replace hT := hT.below B
  replace HB := Lib.hid (bt HB.out B)
  clear B
  go_upto_region 5 with (fail)
  have lX5 := Nat.le_refl (World.heap wC).size
  have nX5X1 := X1.lt
  have nX5X2 := X2.lt
  have nX5X3 := X3.lt
  replace X1 := X1.below (bel1 _ (.cells #[.int .i64 K6, .bool s6, .int .u64 M6, .int .i64 E6] 24))
  replace X2 := X2.below (bel1 _ (.cells #[.int .i64 K6, .bool s6, .int .u64 M6, .int .i64 E6] 24))
  replace X3 := X3.below (bel1 _ (.cells #[.int .i64 K6, .bool s6, .int .u64 M6, .int .i64 E6] 24))
  replace hT := hT.below (bel1 _ (.cells #[.int .i64 K6, .bool s6, .int .u64 M6, .int .i64 E6] 24))
  replace HB := Lib.hid (bt HB.out (bel1 _ (.cells #[.int .i64 K6, .bool s6, .int .u64 M6, .int .i64 E6] 24)))
  have X5 := Bo.new wC #[.int .i64 K6, .bool s6, .int .u64 M6, .int .i64 E6] 24
  generalize hWn : World.alloc wC (.cells #[.int .i64 K6, .bool s6, .int .u64 M6, .int .i64 E6] 24) = wD at *
  clear hWn
  clear lX5
  refine Jo.region_joint (T := [0, 1, 2, 3, 4, 5, 6, 7, 8, 9, 10, 11, 12, 13, 14, 15, 16, 17, 18, 19, 20, 21, 22, 23]) (ds := [some 21, some 22, some 23, some 24, some 25, some 26, some 27, some 28, some 29, some 30, some 31, some 32, some 33, some 34, some 35, some 36, some 37, some 38, some 39, some 40, some 41, some 42, some 43, some 0]) (ls := [[], [0], [1], [2], [3], [3, 4], [3], [3, 5, 6], [3, 7], [8], [9], [9, 10], [11], [12], [12], [12, 13, 14], [12, 15], [16], [17], [17], [17, 19], [17, 18, 20], [17, 21], [22]]) (k := 24) (L := [(some 21, 0), (some 22, 1), (some 23, 2), (some 24, 3), (some 25, 4), (some 26, 5), (some 27, 6), (some 28, 7), (some 29, 8), (some 30, 9), (some 31, 10), (some 32, 11), (some 33, 12), (some 34, 13), (some 35, 14), (some 36, 15), (some 37, 16), (some 38, 17), (some 39, 18), (some 40, 19), (some 41, 20), (some 42, 21), (some 43, 22), (some 0, 23)]) (fuel := 0) (J := fun wj => Below (World.heap wD).size wD wj)
    (F := [Jo.Fact.eq (.pointer (some ⟨w3.heap.size, 0, none⟩)), Jo.Fact.eq (.int .i64 1), Jo.Fact.eq (.bool true), Jo.Fact.eq (.bool true), Jo.Fact.eq (.agg #[.int .i64 1, .bool s3, .int .u64 M3, .int .i64 E3]), Jo.Fact.num h, Jo.Fact.eq (.agg #[.int .i64 K4, .bool s4, .int .u64 M4, .int .i64 E4]), Jo.Fact.eq (.bool true), Jo.Fact.eq (.bool true), Jo.Fact.eq (.bool true), Jo.Fact.eq (.bool true), Jo.Fact.eq (.bool true), Jo.Fact.eq (.bool true), Jo.Fact.eq (.agg #[.int .i64 K5, .bool s5, .int .u64 M5, .int .i64 E5]), Jo.Fact.num o2, Jo.Fact.eq (.bool true), Jo.Fact.eq (.bool true), Jo.Fact.eq (.bool true), Jo.Fact.eq (.agg #[.int .i64 K6, .bool s6, .int .u64 M6, .int .i64 E6]), Jo.Fact.num o1, Jo.Fact.num hv, Jo.Fact.eq (.bool true), Jo.Fact.eq (.bool true), Jo.Fact.eq (.bool true)])
    (by kernel_rfl) (by kernel_rfl) (by decide) rfl rfl (fun _ _ h b => bt h b) ((Below.refl _ _).drew) ?_ (fun vs wE hJ hd => ?_)
  · refine Jo.jd 0 (some 21) [] (Jo.Fact.eq (.pointer (some ⟨w3.heap.size, 0, none⟩))) rfl rfl rfl rfl (fun vs wj hJ hd K hK => ?_) ?_
    · simp only [Jo.putl, Jo.ze, Act.put, Jo.za, Jo.zb, Jo.zc] at hK ⊢
      clear hd
      go_simp
      exact hK.out _ _ rfl (Below.refl _ _)
    refine Jo.jd 1 (some 22) [(some 21, 0)] (Jo.Fact.eq (.int .i64 1)) rfl rfl rfl rfl (fun vs wj hJ hd K hK => ?_) ?_
    · simp only [Jo.putl, Jo.zd, Jo.ze, Act.put, Jo.za, Jo.zb, Jo.zc] at hK ⊢
      rw [show vs 0 = _ from hd 0 (by decide)] at hK ⊢
      clear hd
      have xX10 := (X1.below hJ).a 0 (.int .i64 1) rfl
      go_simp
      exact hK.out _ _ rfl (Below.refl _ _)
    refine Jo.jd 2 (some 23) [(some 22, 1)] (Jo.Fact.eq (.bool true)) rfl rfl rfl rfl (fun vs wj hJ hd K hK => ?_) ?_
    · simp only [Jo.putl, Jo.zd, Jo.ze, Act.put, Jo.za, Jo.zb, Jo.zc] at hK ⊢
      rw [show vs 1 = _ from hd 1 (by decide)] at hK ⊢
      clear hd
      go_simp
      exact hK.out _ _ (by first | rfl | (show Value.bool _ = Value.bool _; simp)) (Below.refl _ _)
    refine Jo.jd 3 (some 24) [(some 23, 2)] (Jo.Fact.eq (.bool true)) rfl rfl rfl rfl (fun vs wj hJ hd K hK => ?_) ?_
    · simp only [Jo.putl, Jo.zd, Jo.ze, Act.put, Jo.za, Jo.zb, Jo.zc] at hK ⊢
      rw [show vs 2 = _ from hd 2 (by decide)] at hK ⊢
      clear hd
      go_simp
      exact hK.out _ _ rfl (Below.refl _ _)
    refine Jo.jd 4 (some 25) [(some 24, 3)] (Jo.Fact.eq (.agg #[.int .i64 1, .bool s3, .int .u64 M3, .int .i64 E3])) rfl rfl rfl rfl (fun vs wj hJ hd K hK => ?_) ?_
    · simp only [Jo.putl, Jo.zd, Jo.ze, Act.put, Jo.za, Jo.zb, Jo.zc] at hK ⊢
      rw [show vs 3 = _ from hd 3 (by decide)] at hK ⊢
      clear hd
      have xX10 := (X1.below hJ).a 0 (.int .i64 1) rfl
      have xX11 := (X1.below hJ).a 1 (.bool s3) rfl
      have xX12 := (X1.below hJ).a 2 (.int .u64 M3) rfl
      have xX13 := (X1.below hJ).a 3 (.int .i64 E3) rfl
      go_simp
      exact hK.out _ _ rfl (Below.refl _ _)
    refine Jo.jd 5 (some 26) [(some 24, 3), (some 25, 4)] (Jo.Fact.num h) rfl rfl rfl rfl (fun vs wj hJ hd K hK => ?_) ?_
    · simp only [Jo.putl, Jo.zd, Jo.ze, Act.put, Jo.za, Jo.zb, Jo.zc] at hK ⊢
      rw [show vs 3 = _ from hd 3 (by decide), show vs 4 = _ from hd 4 (by decide)] at hK ⊢
      clear hd
      go_simp
      refine (nNext (r := h) q3.top (by rw [q3.rk]; exact HN.out)).mono ?_
      rintro ee wk ⟨K7, s7, M7, E7, rfl, q7, B⟩
      exact hK.out _ _ ⟨K7, s7, M7, E7, rfl, q7⟩ B
    refine Jo.jd 6 (some 27) [(some 24, 3)] (Jo.Fact.eq (.agg #[.int .i64 K4, .bool s4, .int .u64 M4, .int .i64 E4])) rfl rfl rfl rfl (fun vs wj hJ hd K hK => ?_) ?_
    · simp only [Jo.putl, Jo.zd, Jo.ze, Act.put, Jo.za, Jo.zb, Jo.zc] at hK ⊢
      rw [show vs 3 = _ from hd 3 (by decide)] at hK ⊢
      clear hd
      have xX20 := (X2.below hJ).a 0 (.int .i64 K4) rfl
      have xX21 := (X2.below hJ).a 1 (.bool s4) rfl
      have xX22 := (X2.below hJ).a 2 (.int .u64 M4) rfl
      have xX23 := (X2.below hJ).a 3 (.int .i64 E4) rfl
      go_simp
      exact hK.out _ _ rfl (Below.refl _ _)
    refine Jo.jd 7 (some 28) [(some 24, 3), (some 26, 5), (some 27, 6)] (Jo.Fact.eq (.bool true)) rfl rfl rfl rfl (fun vs wj hJ hd K hK => ?_) ?_
    · have d5 : (Jo.Fact.num h).P (vs 5) wj := hd 5 (by decide)
      simp only [Jo.putl, Jo.zd, Jo.ze, Act.put, Jo.za, Jo.zb, Jo.zc] at hK ⊢
      rw [show vs 3 = _ from hd 3 (by decide), show vs 6 = _ from hd 6 (by decide)] at hK ⊢
      clear hd
      generalize vs 5 = u5 at hK d5 ⊢
      obtain ⟨K7, s7, M7, E7, rfl, q7⟩ := d5
      obtain ⟨rfl, rfl, rfl, rfl⟩ := q7.uniq q4
      go_simp
      exact hK.out _ _ (by first | rfl | (show Value.bool _ = Value.bool _; simp)) (Below.refl _ _)
    refine Jo.jd 8 (some 29) [(some 24, 3), (some 28, 7)] (Jo.Fact.eq (.bool true)) rfl rfl rfl rfl (fun vs wj hJ hd K hK => ?_) ?_
    · simp only [Jo.putl, Jo.zd, Jo.ze, Act.put, Jo.za, Jo.zb, Jo.zc] at hK ⊢
      rw [show vs 3 = _ from hd 3 (by decide), show vs 7 = _ from hd 7 (by decide)] at hK ⊢
      clear hd
      go_simp
      exact hK.out _ _ rfl (Below.refl _ _)
    refine Jo.jd 9 (some 30) [(some 29, 8)] (Jo.Fact.eq (.bool true)) rfl rfl rfl rfl (fun vs wj hJ hd K hK => ?_) ?_
    · simp only [Jo.putl, Jo.zd, Jo.ze, Act.put, Jo.za, Jo.zb, Jo.zc] at hK ⊢
      rw [show vs 8 = _ from hd 8 (by decide)] at hK ⊢
      clear hd
      go_simp
      exact hK.out _ _ rfl (Below.refl _ _)
    refine Jo.jd 10 (some 31) [(some 30, 9)] (Jo.Fact.eq (.bool true)) rfl rfl rfl rfl (fun vs wj hJ hd K hK => ?_) ?_
    · simp only [Jo.putl, Jo.zd, Jo.ze, Act.put, Jo.za, Jo.zb, Jo.zc] at hK ⊢
      rw [show vs 9 = _ from hd 9 (by decide)] at hK ⊢
      clear hd
      go_simp
      exact hK.out _ _ rfl (Below.refl _ _)
    refine Jo.jd 11 (some 32) [(some 30, 9), (some 31, 10)] (Jo.Fact.eq (.bool true)) rfl rfl rfl rfl (fun vs wj hJ hd K hK => ?_) ?_
    · simp only [Jo.putl, Jo.zd, Jo.ze, Act.put, Jo.za, Jo.zb, Jo.zc] at hK ⊢
      rw [show vs 9 = _ from hd 9 (by decide), show vs 10 = _ from hd 10 (by decide)] at hK ⊢
      clear hd
      go_simp
      exact hK.out _ _ rfl (Below.refl _ _)
    refine Jo.jd 12 (some 33) [(some 32, 11)] (Jo.Fact.eq (.bool true)) rfl rfl rfl rfl (fun vs wj hJ hd K hK => ?_) ?_
    · simp only [Jo.putl, Jo.zd, Jo.ze, Act.put, Jo.za, Jo.zb, Jo.zc] at hK ⊢
      rw [show vs 11 = _ from hd 11 (by decide)] at hK ⊢
      clear hd
      go_simp
      exact hK.out _ _ rfl (Below.refl _ _)
    refine Jo.jd 13 (some 34) [(some 33, 12)] (Jo.Fact.eq (.agg #[.int .i64 K5, .bool s5, .int .u64 M5, .int .i64 E5])) rfl rfl rfl rfl (fun vs wj hJ hd K hK => ?_) ?_
    · simp only [Jo.putl, Jo.zd, Jo.ze, Act.put, Jo.za, Jo.zb, Jo.zc] at hK ⊢
      rw [show vs 12 = _ from hd 12 (by decide)] at hK ⊢
      clear hd
      have xX30 := (X3.below hJ).a 0 (.int .i64 K5) rfl
      have xX31 := (X3.below hJ).a 1 (.bool s5) rfl
      have xX32 := (X3.below hJ).a 2 (.int .u64 M5) rfl
      have xX33 := (X3.below hJ).a 3 (.int .i64 E5) rfl
      go_simp
      exact hK.out _ _ rfl (Below.refl _ _)
    refine Jo.jd 14 (some 35) [(some 33, 12)] (Jo.Fact.num o2) rfl rfl rfl rfl (fun vs wj hJ hd K hK => ?_) ?_
    · simp only [Jo.putl, Jo.zd, Jo.ze, Act.put, Jo.za, Jo.zb, Jo.zc] at hK ⊢
      rw [show vs 12 = _ from hd 12 (by decide)] at hK ⊢
      clear hd
      go_simp
      refine (nOf _ (by decide) (by decide) HO2.out).mono ?_
      rintro ee wk ⟨K8, s8, M8, E8, rfl, q8, B⟩
      exact hK.out _ _ ⟨K8, s8, M8, E8, rfl, q8⟩ B
    refine Jo.jd 15 (some 36) [(some 33, 12), (some 34, 13), (some 35, 14)] (Jo.Fact.eq (.bool true)) rfl rfl rfl rfl (fun vs wj hJ hd K hK => ?_) ?_
    · have d14 : (Jo.Fact.num o2).P (vs 14) wj := hd 14 (by decide)
      simp only [Jo.putl, Jo.zd, Jo.ze, Act.put, Jo.za, Jo.zb, Jo.zc] at hK ⊢
      rw [show vs 12 = _ from hd 12 (by decide), show vs 13 = _ from hd 13 (by decide)] at hK ⊢
      clear hd
      generalize vs 14 = u14 at hK d14 ⊢
      obtain ⟨K8, s8, M8, E8, rfl, q8⟩ := d14
      obtain ⟨rfl, rfl, rfl, rfl⟩ := q5.uniq q8
      go_simp
      exact hK.out _ _ (by first | rfl | (show Value.bool _ = Value.bool _; simp)) (Below.refl _ _)
    refine Jo.jd 16 (some 37) [(some 33, 12), (some 36, 15)] (Jo.Fact.eq (.bool true)) rfl rfl rfl rfl (fun vs wj hJ hd K hK => ?_) ?_
    · simp only [Jo.putl, Jo.zd, Jo.ze, Act.put, Jo.za, Jo.zb, Jo.zc] at hK ⊢
      rw [show vs 12 = _ from hd 12 (by decide), show vs 15 = _ from hd 15 (by decide)] at hK ⊢
      clear hd
      go_simp
      exact hK.out _ _ rfl (Below.refl _ _)
    refine Jo.jd 17 (some 38) [(some 37, 16)] (Jo.Fact.eq (.bool true)) rfl rfl rfl rfl (fun vs wj hJ hd K hK => ?_) ?_
    · simp only [Jo.putl, Jo.zd, Jo.ze, Act.put, Jo.za, Jo.zb, Jo.zc] at hK ⊢
      rw [show vs 16 = _ from hd 16 (by decide)] at hK ⊢
      clear hd
      go_simp
      exact hK.out _ _ rfl (Below.refl _ _)
    refine Jo.jd 18 (some 39) [(some 38, 17)] (Jo.Fact.eq (.agg #[.int .i64 K6, .bool s6, .int .u64 M6, .int .i64 E6])) rfl rfl rfl rfl (fun vs wj hJ hd K hK => ?_) ?_
    · simp only [Jo.putl, Jo.zd, Jo.ze, Act.put, Jo.za, Jo.zb, Jo.zc] at hK ⊢
      rw [show vs 17 = _ from hd 17 (by decide)] at hK ⊢
      clear hd
      have xX50 := (X5.below hJ).a 0 (.int .i64 K6) rfl
      have xX51 := (X5.below hJ).a 1 (.bool s6) rfl
      have xX52 := (X5.below hJ).a 2 (.int .u64 M6) rfl
      have xX53 := (X5.below hJ).a 3 (.int .i64 E6) rfl
      go_simp
      exact hK.out _ _ rfl (Below.refl _ _)
    refine Jo.jd 19 (some 40) [(some 38, 17)] (Jo.Fact.num o1) rfl rfl rfl rfl (fun vs wj hJ hd K hK => ?_) ?_
    · simp only [Jo.putl, Jo.zd, Jo.ze, Act.put, Jo.za, Jo.zb, Jo.zc] at hK ⊢
      rw [show vs 17 = _ from hd 17 (by decide)] at hK ⊢
      clear hd
      go_simp
      refine (nOf _ (by decide) (by decide) HO1.out).mono ?_
      rintro ee wk ⟨K9, s9, M9, E9, rfl, q9, B⟩
      exact hK.out _ _ ⟨K9, s9, M9, E9, rfl, q9⟩ B
    refine Jo.jd 20 (some 41) [(some 38, 17), (some 40, 19)] (Jo.Fact.num hv) rfl rfl rfl rfl (fun vs wj hJ hd K hK => ?_) ?_
    · have d19 : (Jo.Fact.num o1).P (vs 19) wj := hd 19 (by decide)
      simp only [Jo.putl, Jo.zd, Jo.ze, Act.put, Jo.za, Jo.zb, Jo.zc] at hK ⊢
      rw [show vs 17 = _ from hd 17 (by decide)] at hK ⊢
      clear hd
      generalize vs 19 = u19 at hK d19 ⊢
      obtain ⟨K9, s9, M9, E9, rfl, q9⟩ := d19
      go_simp
      refine (aHalf q9.top q9.rk HHF.out).mono ?_
      rintro ee wk ⟨K10, s10, M10, E10, rfl, q10, B⟩
      exact hK.out _ _ ⟨K10, s10, M10, E10, rfl, q10⟩ B
    refine Jo.jd 21 (some 42) [(some 38, 17), (some 39, 18), (some 41, 20)] (Jo.Fact.eq (.bool true)) rfl rfl rfl rfl (fun vs wj hJ hd K hK => ?_) ?_
    · have d20 : (Jo.Fact.num hv).P (vs 20) wj := hd 20 (by decide)
      simp only [Jo.putl, Jo.zd, Jo.ze, Act.put, Jo.za, Jo.zb, Jo.zc] at hK ⊢
      rw [show vs 17 = _ from hd 17 (by decide), show vs 18 = _ from hd 18 (by decide)] at hK ⊢
      clear hd
      generalize vs 20 = u20 at hK d20 ⊢
      obtain ⟨K10, s10, M10, E10, rfl, q10⟩ := d20
      obtain ⟨rfl, rfl, rfl, rfl⟩ := q6.uniq q10
      go_simp
      exact hK.out _ _ (by first | rfl | (show Value.bool _ = Value.bool _; simp)) (Below.refl _ _)
    refine Jo.jd 22 (some 43) [(some 38, 17), (some 42, 21)] (Jo.Fact.eq (.bool true)) rfl rfl rfl rfl (fun vs wj hJ hd K hK => ?_) ?_
    · simp only [Jo.putl, Jo.zd, Jo.ze, Act.put, Jo.za, Jo.zb, Jo.zc] at hK ⊢
      rw [show vs 17 = _ from hd 17 (by decide), show vs 21 = _ from hd 21 (by decide)] at hK ⊢
      clear hd
      go_simp
      exact hK.out _ _ rfl (Below.refl _ _)
    refine Jo.jd 23 (some 0) [(some 43, 22)] (Jo.Fact.eq (.bool true)) rfl rfl rfl rfl (fun vs wj hJ hd K hK => ?_) ?_
    · simp only [Jo.putl, Jo.zd, Jo.ze, Act.put, Jo.za, Jo.zb, Jo.zc] at hK ⊢
      rw [show vs 22 = _ from hd 22 (by decide)] at hK ⊢
      clear hd
      go_simp
      exact hK.out _ _ rfl (Below.refl _ _)
    exact Jo.Steps.nil
  have d5 : (Jo.Fact.num h).P (vs 5) wE := hd 5 (by decide)
  have d14 : (Jo.Fact.num o2).P (vs 14) wE := hd 14 (by decide)
  have d19 : (Jo.Fact.num o1).P (vs 19) wE := hd 19 (by decide)
  have d20 : (Jo.Fact.num hv).P (vs 20) wE := hd 20 (by decide)
  simp only [Jo.putl, Jo.zd, Jo.ze, Act.put, Jo.za, Jo.zb, Jo.zc]
  rw [show vs 1 = _ from hd 1 (by decide), show vs 2 = _ from hd 2 (by decide), show vs 3 = _ from hd 3 (by decide), show vs 4 = _ from hd 4 (by decide), show vs 6 = _ from hd 6 (by decide), show vs 7 = _ from hd 7 (by decide), show vs 8 = _ from hd 8 (by decide), show vs 9 = _ from hd 9 (by decide), show vs 10 = _ from hd 10 (by decide), show vs 11 = _ from hd 11 (by decide), show vs 12 = _ from hd 12 (by decide), show vs 13 = _ from hd 13 (by decide), show vs 15 = _ from hd 15 (by decide), show vs 16 = _ from hd 16 (by decide), show vs 17 = _ from hd 17 (by decide), show vs 18 = _ from hd 18 (by decide), show vs 21 = _ from hd 21 (by decide), show vs 22 = _ from hd 22 (by decide), show vs 23 = _ from hd 23 (by decide)]
  clear hd
  generalize vs 5 = u5 at d5 ⊢
  generalize vs 14 = u14 at d14 ⊢
  generalize vs 19 = u19 at d19 ⊢
  generalize vs 20 = u20 at d20 ⊢
  obtain ⟨K7, s7, M7, E7, rfl, _⟩ := d5
  obtain ⟨K8, s8, M8, E8, rfl, _⟩ := d14
  obtain ⟨K9, s9, M9, E9, rfl, _⟩ := d19
  obtain ⟨K10, s10, M10, E10, rfl, _⟩ := d20
  replace X1 := X1.below hJ
  replace X2 := X2.below hJ
  replace X3 := X3.below hJ
  replace X5 := X5.below hJ
  replace hT := hT.below hJ
  replace HB := Lib.hid (bt HB.out hJ)
  refine Jo.jdone (by kernel_rfl) ?_
  go_wp2
  go_ret
  exact ⟨rfl, HB.out⟩
end Go.Proofs.YtpmakljahhhnfaaDoor

/-
  What QuotHolds and QuotSquares rest on: the two roots of a number not below nought; products of exact numbers, told apart. Plain arithmetic; no Go text.
-/
namespace Go.Proofs.YtpmakljahhhnfaaDoor
open Go.RowKit
set_option linter.unusedVariables false

theorem cmpI_np7 {x y : Int} (h : x ≤ y) : decide (cmpI x y ≤ 0) = true := decide_eq_true (by rcases cmpI_tri x y with ⟨a, b⟩ | ⟨a, b⟩ | ⟨a, b⟩ <;> rw [b] <;> omega)
theorem fq_ne7 {D D' : Int} {s s' : Bool} {M M' E E' r r' : Int} (q : Fq D s M E r) (q' : Fq D' s' M' E' r') (h : r ≠ r') : D = D' → s = s' → M = M' → ¬ E = E' := by
  rintro rfl rfl rfl rfl
  exact h (q.2.2.symm.trans q'.2.2)
end Go.Proofs.YtpmakljahhhnfaaDoor
