/-
  The walk of QuotUnits: for all arguments, where the table lies as it was laid, the call answers true, and nothing that was there has turned.
-/
import Derived.Test.YtpmakljahhhnfaaDoorYAat
import Derived.Test.YtpmakljahhhnfaaDoorYAaw
import Derived.Test.YtpmakljahhhnfaaDoorYAba
import Derived.Test.YtpmakljahhhnfaaDoorYAbh
namespace Go.Proofs.YtpmakljahhhnfaaDoor
open Go.RowKit
set_option linter.unusedVariables false
set_option linter.unusedSimpArgs false
set_option maxRecDepth 100000

theorem ro_square {up : Bool} {n m : Int} (h0 : 0 ≤ n) (h1 : n ≤ 1000000000) (hm : n * n = m) : Ro up (opl m) (opl n) true := by
  have hn : n * n ≤ 1000000000 * 1000000000 := Int.mul_le_mul h1 h1 h0 (by decide)
  subst hm
  by_cases c : n = 0
  · subst c
    exact (ro_it (by decide) (.inl rfl)).2 ⟨rfl, rfl⟩
  · have hp : 0 < n * n := Int.mul_pos (by omega) (by omega)
    obtain ⟨o1, o2⟩ := opl_pos hp (by omega)
    have hi : infp (opl (n * n)) = false := infp_fin (by omega) o2
    refine (ro_fin (by omega) ?_).2 ⟨rt_square (by omega) h1, rfl⟩
    rw [hi]
    rintro (d | d)
    · omega
    · cases d

set_option maxHeartbeats 8000000 in
theorem quotUnits_no (D0 : Int) (s0 : Bool) (M0 E0 : Int) (n1 : Int) (b2 : Bool) (w : World) (hT : Tab w) (hm : decide (MayQ D0 s0 M0 E0) = false) :
    Calls Tryd.prog 6 #[.agg #[.int .i64 D0, .bool s0, .int .u64 M0, .int .i64 E0], .int .i64 n1, .bool b2] w (PB w true) := by
  have HM := Lib.hid hm
  clear hm
  go_enter Tryd.func6, Tryd.ntmps6
  go_upto_region 1 with (fail)
  have X0 := (Bo.newAt w (g := w.heap.size) (by simp) #[.int .i64 D0, .bool s0, .int .u64 M0, .int .i64 E0] 24)
  have HB := Lib.hid (bel1 w (.cells #[.int .i64 D0, .bool s0, .int .u64 M0, .int .i64 E0] 24))
  replace hT := hT.below HB.out
  generalize hW1 : (w.alloc (.cells #[.int .i64 D0, .bool s0, .int .u64 M0, .int .i64 E0] 24)) = w1 at *
  clear hW1
  go_wp2_with fail
  refine (awake7 hT).mono ?_
  rintro ee w2 ⟨rfl, B⟩
  replace X0 := X0.below B
  replace hT := hT.below B
  replace HB := Lib.hid (bt HB.out B)
  clear B
  clear hT
  have xX00 := X0.at (i := 0) (v := .int .i64 D0) rfl
  have xX01 := X0.at (i := 1) (v := .bool s0) rfl
  have xX02 := X0.at (i := 2) (v := .int .u64 M0) rfl
  have xX03 := X0.at (i := 3) (v := .int .i64 E0) rfl
  go_wp2_with fail
  refine (nMay (r := false) HM.out).mono ?_
  rintro ee w3 ⟨rfl, B⟩
  clear xX00 xX01 xX02 xX03
  replace X0 := X0.below B
  replace HB := Lib.hid (bt HB.out B)
  clear B
  have xX00 := X0.at (i := 0) (v := .int .i64 D0) rfl
  have xX01 := X0.at (i := 1) (v := .bool s0) rfl
  have xX02 := X0.at (i := 2) (v := .int .u64 M0) rfl
  have xX03 := X0.at (i := 3) (v := .int .i64 E0) rfl
  go_wp2
  go_ret
  exact ⟨rfl, HB.out⟩
set_option maxHeartbeats 8000000 in
theorem quotUnits_lo (D0 : Int) (s0 : Bool) (M0 E0 : Int) (n1 : Int) (b2 : Bool) (w : World) (hT : Tab w) (hm : decide (MayQ D0 s0 M0 E0) = true) (hf : n1 < 0) :
    Calls Tryd.prog 6 #[.agg #[.int .i64 D0, .bool s0, .int .u64 M0, .int .i64 E0], .int .i64 n1, .bool b2] w (PB w true) := by
  have HM := Lib.hid hm
  clear hm
  go_enter Tryd.func6, Tryd.ntmps6
  go_upto_region 1 with (fail)
  have X0 := (Bo.newAt w (g := w.heap.size) (by simp) #[.int .i64 D0, .bool s0, .int .u64 M0, .int .i64 E0] 24)
  have HB := Lib.hid (bel1 w (.cells #[.int .i64 D0, .bool s0, .int .u64 M0, .int .i64 E0] 24))
  replace hT := hT.below HB.out
  generalize hW1 : (w.alloc (.cells #[.int .i64 D0, .bool s0, .int .u64 M0, .int .i64 E0] 24)) = w1 at *
  clear hW1
  go_wp2_with fail
  refine (awake7 hT).mono ?_
  rintro ee w2 ⟨rfl, B⟩
  replace X0 := X0.below B
  replace hT := hT.below B
  replace HB := Lib.hid (bt HB.out B)
  clear B
  clear hT
  have xX00 := X0.at (i := 0) (v := .int .i64 D0) rfl
  have xX01 := X0.at (i := 1) (v := .bool s0) rfl
  have xX02 := X0.at (i := 2) (v := .int .u64 M0) rfl
  have xX03 := X0.at (i := 3) (v := .int .i64 E0) rfl
  go_wp2_with fail
  refine (nMay (r := true) HM.out).mono ?_
  rintro ee w3 ⟨rfl, B⟩
  clear xX00 xX01 xX02 xX03
  replace X0 := X0.below B
  replace HB := Lib.hid (bt HB.out B)
  clear B
  have xX00 := X0.at (i := 0) (v := .int .i64 D0) rfl
  have xX01 := X0.at (i := 1) (v := .bool s0) rfl
  have xX02 := X0.at (i := 2) (v := .int .u64 M0) rfl
  have xX03 := X0.at (i := 3) (v := .int .i64 E0) rfl
  go_wp2
  go_ret
  exact ⟨rfl, HB.out⟩
set_option maxHeartbeats 8000000 in
theorem quotUnits_hi (D0 : Int) (s0 : Bool) (M0 E0 : Int) (n1 : Int) (b2 : Bool) (w : World) (hT : Tab w) (hm : decide (MayQ D0 s0 M0 E0) = true) (hg : ¬ n1 < 0) (hf : 1000000000 < n1) :
    Calls Tryd.prog 6 #[.agg #[.int .i64 D0, .bool s0, .int .u64 M0, .int .i64 E0], .int .i64 n1, .bool b2] w (PB w true) := by
  have HM := Lib.hid hm
  clear hm
  go_enter Tryd.func6, Tryd.ntmps6
  go_upto_region 1 with (fail)
  have X0 := (Bo.newAt w (g := w.heap.size) (by simp) #[.int .i64 D0, .bool s0, .int .u64 M0, .int .i64 E0] 24)
  have HB := Lib.hid (bel1 w (.cells #[.int .i64 D0, .bool s0, .int .u64 M0, .int .i64 E0] 24))
  replace hT := hT.below HB.out
  generalize hW1 : (w.alloc (.cells #[.int .i64 D0, .bool s0, .int .u64 M0, .int .i64 E0] 24)) = w1 at *
  clear hW1
  go_wp2_with fail
  refine (awake7 hT).mono ?_
  rintro ee w2 ⟨rfl, B⟩
  replace X0 := X0.below B
  replace hT := hT.below B
  replace HB := Lib.hid (bt HB.out B)
  clear B
  clear hT
  have xX00 := X0.at (i := 0) (v := .int .i64 D0) rfl
  have xX01 := X0.at (i := 1) (v := .bool s0) rfl
  have xX02 := X0.at (i := 2) (v := .int .u64 M0) rfl
  have xX03 := X0.at (i := 3) (v := .int .i64 E0) rfl
  go_wp2_with fail
  refine (nMay (r := true) HM.out).mono ?_
  rintro ee w3 ⟨rfl, B⟩
  clear xX00 xX01 xX02 xX03
  replace X0 := X0.below B
  replace HB := Lib.hid (bt HB.out B)
  clear B
  have xX00 := X0.at (i := 0) (v := .int .i64 D0) rfl
  have xX01 := X0.at (i := 1) (v := .bool s0) rfl
  have xX02 := X0.at (i := 2) (v := .int .u64 M0) rfl
  have xX03 := X0.at (i := 3) (v := .int .i64 E0) rfl
  go_wp2
  go_ret
  exact ⟨rfl, HB.out⟩
set_option maxHeartbeats 8000000 in
theorem quotUnits_m0 (s0 : Bool) (M0 E0 x n1 : Int) (b2 : Bool) (w : World) (hT : Tab w) (q : Fq 0 s0 M0 E0 x) (hn0 : ¬ n1 < 0) (hn1 : ¬ 1000000000 < n1) :
    Calls Tryd.prog 6 #[.agg #[.int .i64 0, .bool s0, .int .u64 M0, .int .i64 E0], .int .i64 n1, .bool b2] w (PB w true) := by
  have bx := q.bd
  obtain ⟨o1, ho1⟩ : ∃ o, opl 1 = o := ⟨_, rfl⟩
  have HO1 : Hid (sgi (decide ((1 : Int) < 0)) (lo (1 : Int).natAbs 0) = o1) := Lib.hid ho1
  have HQ1 : Hid (Qt b2 x o1 x) := Lib.hid (by rw [← ho1]; exact qt_one bx.1 bx.2)
  obtain ⟨m, hm⟩ : ∃ m, n1 * n1 = m := ⟨_, rfl⟩
  have hmb : 0 ≤ m ∧ m ≤ 1000000000000000000 := by
    have a : n1 * n1 ≤ 1000000000 * 1000000000 := Int.mul_le_mul (by omega) (by omega) (by omega) (by decide)
    have b : 0 ≤ n1 * n1 := Int.mul_nonneg (by omega) (by omega)
    omega
  obtain ⟨on, hon⟩ : ∃ o, opl n1 = o := ⟨_, rfl⟩
  obtain ⟨om, hom⟩ : ∃ o, opl m = o := ⟨_, rfl⟩
  have HRO : Hid (Ro b2 om on true) := Lib.hid (by rw [← hom, ← hon]; exact ro_square (by omega) (by omega) hm)
  have HW : Hid (wrap64 (n1 * n1) = m) := Lib.hid (by rw [hm]; unfold wrap64; omega)
  have HON : Hid (sgi (decide (n1 < 0)) (lo n1.natAbs 0) = on) := Lib.hid hon
  have HOM : Hid (sgi (decide (m < 0)) (lo m.natAbs 0) = om) := Lib.hid hom
  have HM := Lib.hid (decide_eq_true q.1)
  have HNB := Lib.hid (show -9223372036854775808 ≤ n1 ∧ n1 ≤ 9223372036854775807 by omega)
  have HMB := Lib.hid (show -9223372036854775808 ≤ m ∧ m ≤ 9223372036854775807 by omega)
  clear bx ho1 hm hmb hon hom
  go_enter Tryd.func6, Tryd.ntmps6
  go_upto_region 1 with (fail)
  have X0 := (Bo.newAt w (g := w.heap.size) (by simp) #[.int .i64 0, .bool s0, .int .u64 M0, .int .i64 E0] 24)
  have HB := Lib.hid (bel1 w (.cells #[.int .i64 0, .bool s0, .int .u64 M0, .int .i64 E0] 24))
  replace hT := hT.below HB.out
  generalize hW1 : (w.alloc (.cells #[.int .i64 0, .bool s0, .int .u64 M0, .int .i64 E0] 24)) = w1 at *
  clear hW1
  go_wp2_with fail
  refine (awake7 hT).mono ?_
  rintro ee w2 ⟨rfl, B⟩
  replace X0 := X0.below B
  replace hT := hT.below B
  replace HB := Lib.hid (bt HB.out B)
  clear B
  have xX00 := X0.at (i := 0) (v := .int .i64 0) rfl
  have xX01 := X0.at (i := 1) (v := .bool s0) rfl
  have xX02 := X0.at (i := 2) (v := .int .u64 M0) rfl
  have xX03 := X0.at (i := 3) (v := .int .i64 E0) rfl
  go_wp2_with fail
  refine (nMay (r := true) HM.out).mono ?_
  rintro ee w3 ⟨rfl, B⟩
  clear xX00 xX01 xX02 xX03
  replace X0 := X0.below B
  replace hT := hT.below B
  replace HB := Lib.hid (bt HB.out B)
  clear B
  have xX00 := X0.at (i := 0) (v := .int .i64 0) rfl
  have xX01 := X0.at (i := 1) (v := .bool s0) rfl
  have xX02 := X0.at (i := 2) (v := .int .u64 M0) rfl
  have xX03 := X0.at (i := 3) (v := .int .i64 E0) rfl
  go_wp2_with fail
  refine (nOf _ (by decide) (by decide) HO1.out).mono ?_
  rintro ee w4 ⟨K1, s1, M1, E1, rfl, q1, B⟩
  clear xX00 xX01 xX02 xX03
  replace X0 := X0.below B
  replace hT := hT.below B
  replace HB := Lib.hid (bt HB.out B)
  clear B
  go_upto_region 5 with (fail)
  clear hn0 hn1
  have lX8 := Nat.le_refl (World.heap w4).size
  have nX8X0 := X0.lt
  replace X0 := X0.below (bel1 _ (.cells #[.int .i64 K1, .bool s1, .int .u64 M1, .int .i64 E1] 24))
  replace hT := hT.below (bel1 _ (.cells #[.int .i64 K1, .bool s1, .int .u64 M1, .int .i64 E1] 24))
  replace HB := Lib.hid (bt HB.out (bel1 _ (.cells #[.int .i64 K1, .bool s1, .int .u64 M1, .int .i64 E1] 24)))
  have X8 := Bo.new w4 #[.int .i64 K1, .bool s1, .int .u64 M1, .int .i64 E1] 24
  generalize hWn : World.alloc w4 (.cells #[.int .i64 K1, .bool s1, .int .u64 M1, .int .i64 E1] 24) = w5 at *
  clear hWn
  clear lX8
  go_wp2_with fail
  refine (nOf (r := om) _ (by rw [HW.out]; exact HMB.out.1) (by rw [HW.out]; exact HMB.out.2) (by rw [HW.out]; exact HOM.out)).mono ?_
  rintro ee w6 ⟨K2, s2, M2, E2, rfl, q2, B⟩
  replace X0 := X0.below B
  replace X8 := X8.below B
  replace hT := hT.below B
  replace HB := Lib.hid (bt HB.out B)
  clear B
  go_wp2_with fail
  refine (kRoot hT q2.top q2.rk HRO.out).mono ?_
  rintro ee w7 ⟨K3, s3, M3, E3, rfl, q3, B⟩
  replace X0 := X0.below B
  replace X8 := X8.below B
  replace hT := hT.below B
  replace HB := Lib.hid (bt HB.out B)
  clear B
  clear q2
  go_upto_region 6 with (fail)
  have lX9 := Nat.le_refl (World.heap w7).size
  have nX9X0 := X0.lt
  have nX9X8 := X8.lt
  replace X0 := X0.below (bel1 _ (.cells #[.int .i64 K3, .bool s3, .int .u64 M3, .int .i64 E3] 24))
  replace X8 := X8.below (bel1 _ (.cells #[.int .i64 K3, .bool s3, .int .u64 M3, .int .i64 E3] 24))
  replace hT := hT.below (bel1 _ (.cells #[.int .i64 K3, .bool s3, .int .u64 M3, .int .i64 E3] 24))
  replace HB := Lib.hid (bt HB.out (bel1 _ (.cells #[.int .i64 K3, .bool s3, .int .u64 M3, .int .i64 E3] 24)))
  have X9 := Bo.new w7 #[.int .i64 K3, .bool s3, .int .u64 M3, .int .i64 E3] 24
  generalize hWn : World.alloc w7 (.cells #[.int .i64 K3, .bool s3, .int .u64 M3, .int .i64 E3] 24) = w8 at *
  clear hWn
  clear lX9
  refine Jo.region_joint (T := [0, 1, 2, 3, 4, 5, 6, 7, 8, 9, 10, 11, 12, 13, 14, 15, 16, 17, 18, 19, 20, 21, 22, 23, 24, 25, 26, 27, 28]) (ds := [some 38, some 39, some 40, some 41, some 42, some 43, some 44, some 45, some 46, some 47, some 48, some 49, some 50, some 51, some 52, some 53, some 54, some 55, some 56, some 57, some 58, some 59, some 60, some 61, some 62, some 63, some 64, some 65, some 6]) (ls := [[], [], [], [0, 1, 2], [], [3, 4], [5], [6], [6, 7], [6, 8], [6, 9], [10], [10], [10], [10, 11, 12, 13], [10], [10, 14, 15], [6, 10, 16], [6, 17], [18], [19], [19, 20], [21], [22], [22], [22, 24], [22, 23, 25], [22, 26], [27]]) (k := 29) (L := [(some 38, 0), (some 39, 1), (some 40, 2), (some 41, 3), (some 42, 4), (some 43, 5), (some 44, 6), (some 45, 7), (some 46, 8), (some 47, 9), (some 48, 10), (some 49, 11), (some 50, 12), (some 51, 13), (some 52, 14), (some 53, 15), (some 54, 16), (some 55, 17), (some 56, 18), (some 57, 19), (some 58, 20), (some 59, 21), (some 60, 22), (some 61, 23), (some 62, 24), (some 63, 25), (some 64, 26), (some 65, 27), (some 6, 28)]) (fuel := 0) (J := fun wj => Below (World.heap w8).size w8 wj)
    (F := [Jo.Fact.eq (.agg #[.int .i64 0, .bool s0, .int .u64 M0, .int .i64 E0]), Jo.Fact.eq (.agg #[.int .i64 K1, .bool s1, .int .u64 M1, .int .i64 E1]), Jo.Fact.eq (.bool b2), Jo.Fact.num x, Jo.Fact.eq (.agg #[.int .i64 0, .bool s0, .int .u64 M0, .int .i64 E0]), Jo.Fact.eq (.bool true), Jo.Fact.eq (.bool true), Jo.Fact.eq (.pointer (some ⟨w.heap.size, 0, none⟩)), Jo.Fact.eq (.int .i64 0), Jo.Fact.eq (.bool true), Jo.Fact.eq (.bool true), Jo.Fact.eq undef, Jo.Fact.eq undef, Jo.Fact.eq undef, Jo.Fact.eq undef, Jo.Fact.eq undef, Jo.Fact.eq undef, Jo.Fact.eq (.bool true), Jo.Fact.eq (.bool true), Jo.Fact.eq (.bool true), Jo.Fact.eq (.bool true), Jo.Fact.eq (.bool true), Jo.Fact.eq (.bool true), Jo.Fact.eq (.agg #[.int .i64 K3, .bool s3, .int .u64 M3, .int .i64 E3]), Jo.Fact.eq (.int .i64 n1), Jo.Fact.num on, Jo.Fact.eq (.bool true), Jo.Fact.eq (.bool true), Jo.Fact.eq (.bool true)])
    (by kernel_rfl) (by kernel_rfl) (by decide) rfl rfl (fun _ _ h b => bt h b) ((Below.refl _ _).drew) ?_ (fun vs w9 hJ hd => ?_)
  · refine Jo.jcons (i := 0) (o := ⟨some 38, _, _, _, _, _⟩) (di := some 38) (L := []) (f := Jo.Fact.eq (.agg #[.int .i64 0, .bool s0, .int .u64 M0, .int .i64 E0])) rfl rfl rfl rfl (fun vs wj hJ hd K hK => ?_) ?_
    · clear hd
      simp only [Jo.putl, Jo.ze, Act.put, Jo.za, Jo.zb, Jo.zc] at hK ⊢
      have xX00 : World.cell? wj ⟨w.heap.size, 0, none⟩ = some (.int .i64 0) := (X0.below hJ).cell 0
      have xX01 : World.cell? wj ⟨w.heap.size, 1, none⟩ = some (.bool s0) := (X0.below hJ).cell 1
      have xX02 : World.cell? wj ⟨w.heap.size, 2, none⟩ = some (.int .u64 M0) := (X0.below hJ).cell 2
      have xX03 : World.cell? wj ⟨w.heap.size, 3, none⟩ = some (.int .i64 E0) := (X0.below hJ).cell 3
      go_simp
      exact hK.out _ _ rfl (Below.refl _ _)
    refine Jo.jcons (i := 1) (o := ⟨some 39, _, _, _, _, _⟩) (di := some 39) (L := []) (f := Jo.Fact.eq (.agg #[.int .i64 K1, .bool s1, .int .u64 M1, .int .i64 E1])) rfl rfl rfl rfl (fun vs wj hJ hd K hK => ?_) ?_
    · clear hd
      simp only [Jo.putl, Jo.ze, Act.put, Jo.za, Jo.zb, Jo.zc] at hK ⊢
      have xX80 : World.cell? wj ⟨w4.heap.size, 0, none⟩ = some (.int .i64 K1) := (X8.below hJ).cell 0
      have xX81 : World.cell? wj ⟨w4.heap.size, 1, none⟩ = some (.bool s1) := (X8.below hJ).cell 1
      have xX82 : World.cell? wj ⟨w4.heap.size, 2, none⟩ = some (.int .u64 M1) := (X8.below hJ).cell 2
      have xX83 : World.cell? wj ⟨w4.heap.size, 3, none⟩ = some (.int .i64 E1) := (X8.below hJ).cell 3
      go_simp
      exact hK.out _ _ rfl (Below.refl _ _)
    refine Jo.jcons (i := 2) (o := ⟨some 40, _, _, _, _, _⟩) (di := some 40) (L := []) (f := Jo.Fact.eq (.bool b2)) rfl rfl rfl rfl (fun vs wj hJ hd K hK => ?_) ?_
    · clear hd
      simp only [Jo.putl, Jo.ze, Act.put, Jo.za, Jo.zb, Jo.zc] at hK ⊢
      go_simp
      exact hK.out _ _ rfl (Below.refl _ _)
    refine Jo.jcons (i := 3) (o := ⟨some 41, _, _, _, _, _⟩) (di := some 41) (L := [(some 38, 0), (some 39, 1), (some 40, 2)]) (f := Jo.Fact.num x) rfl rfl rfl rfl (fun vs wj hJ hd K hK => ?_) ?_
    · have d0 : (Jo.Fact.eq (.agg #[.int .i64 0, .bool s0, .int .u64 M0, .int .i64 E0])).P (vs 0) wj := hd 0 (by decide)
      have d1 : (Jo.Fact.eq (.agg #[.int .i64 K1, .bool s1, .int .u64 M1, .int .i64 E1])).P (vs 1) wj := hd 1 (by decide)
      have d2 : (Jo.Fact.eq (.bool b2)).P (vs 2) wj := hd 2 (by decide)
      clear hd
      simp only [Jo.putl, Jo.zd, Jo.ze, Act.put, Jo.za, Jo.zb, Jo.zc] at hK ⊢
      generalize vs 0 = u0 at hK d0 ⊢
      generalize vs 1 = u1 at hK d1 ⊢
      generalize vs 2 = u2 at hK d2 ⊢
      replace d0 : u0 = _ := d0
      subst d0
      replace d1 : u1 = _ := d1
      subst d1
      replace d2 : u2 = _ := d2
      subst d2
      go_simp
      refine (kDiv (hT.below hJ) q.top q1.top q.rk q1.rk HQ1.out).mono ?_
      rintro ee wk ⟨K4, s4, M4, E4, rfl, q4, B⟩
      exact hK.out _ _ ⟨K4, s4, M4, E4, rfl, q4⟩ B
    refine Jo.jcons (i := 4) (o := ⟨some 42, _, _, _, _, _⟩) (di := some 42) (L := []) (f := Jo.Fact.eq (.agg #[.int .i64 0, .bool s0, .int .u64 M0, .int .i64 E0])) rfl rfl rfl rfl (fun vs wj hJ hd K hK => ?_) ?_
    · clear hd
      simp only [Jo.putl, Jo.ze, Act.put, Jo.za, Jo.zb, Jo.zc] at hK ⊢
      have xX00 : World.cell? wj ⟨w.heap.size, 0, none⟩ = some (.int .i64 0) := (X0.below hJ).cell 0
      have xX01 : World.cell? wj ⟨w.heap.size, 1, none⟩ = some (.bool s0) := (X0.below hJ).cell 1
      have xX02 : World.cell? wj ⟨w.heap.size, 2, none⟩ = some (.int .u64 M0) := (X0.below hJ).cell 2
      have xX03 : World.cell? wj ⟨w.heap.size, 3, none⟩ = some (.int .i64 E0) := (X0.below hJ).cell 3
      go_simp
      exact hK.out _ _ rfl (Below.refl _ _)
    refine Jo.jcons (i := 5) (o := ⟨some 43, _, _, _, _, _⟩) (di := some 43) (L := [(some 41, 3), (some 42, 4)]) (f := Jo.Fact.eq (.bool true)) rfl rfl rfl rfl (fun vs wj hJ hd K hK => ?_) ?_
    · have d3 : (Jo.Fact.num x).P (vs 3) wj := hd 3 (by decide)
      have d4 : (Jo.Fact.eq (.agg #[.int .i64 0, .bool s0, .int .u64 M0, .int .i64 E0])).P (vs 4) wj := hd 4 (by decide)
      clear hd
      simp only [Jo.putl, Jo.zd, Jo.ze, Act.put, Jo.za, Jo.zb, Jo.zc] at hK ⊢
      generalize vs 3 = u3 at hK d3 ⊢
      generalize vs 4 = u4 at hK d4 ⊢
      obtain ⟨K4, s4, M4, E4, rfl, q4⟩ := d3
      replace d4 : u4 = _ := d4
      subst d4
      obtain ⟨rfl, rfl, rfl, rfl⟩ := q4.uniq q
      go_simp
      exact hK.out _ _ (by first | rfl | (show Value.bool _ = Value.bool _; simp)) (Below.refl _ _)
    refine Jo.jcons (i := 6) (o := ⟨some 44, _, _, _, _, _⟩) (di := some 44) (L := [(some 43, 5)]) (f := Jo.Fact.eq (.bool true)) rfl rfl rfl rfl (fun vs wj hJ hd K hK => ?_) ?_
    · have d5 : (Jo.Fact.eq (.bool true)).P (vs 5) wj := hd 5 (by decide)
      clear hd
      simp only [Jo.putl, Jo.zd, Jo.ze, Act.put, Jo.za, Jo.zb, Jo.zc] at hK ⊢
      generalize vs 5 = u5 at hK d5 ⊢
      replace d5 : u5 = _ := d5
      subst d5
      go_simp
      exact hK.out _ _ rfl (Below.refl _ _)
    refine Jo.jcons (i := 7) (o := ⟨some 45, _, _, _, _, _⟩) (di := some 45) (L := [(some 44, 6)]) (f := Jo.Fact.eq (.pointer (some ⟨w.heap.size, 0, none⟩))) rfl rfl rfl rfl (fun vs wj hJ hd K hK => ?_) ?_
    · have d6 : (Jo.Fact.eq (.bool true)).P (vs 6) wj := hd 6 (by decide)
      clear hd
      simp only [Jo.putl, Jo.zd, Jo.ze, Act.put, Jo.za, Jo.zb, Jo.zc] at hK ⊢
      generalize vs 6 = u6 at hK d6 ⊢
      replace d6 : u6 = _ := d6
      subst d6
      go_simp
      exact hK.out _ _ rfl (Below.refl _ _)
    refine Jo.jcons (i := 8) (o := ⟨some 46, _, _, _, _, _⟩) (di := some 46) (L := [(some 44, 6), (some 45, 7)]) (f := Jo.Fact.eq (.int .i64 0)) rfl rfl rfl rfl (fun vs wj hJ hd K hK => ?_) ?_
    · have d6 : (Jo.Fact.eq (.bool true)).P (vs 6) wj := hd 6 (by decide)
      have d7 : (Jo.Fact.eq (.pointer (some ⟨w.heap.size, 0, none⟩))).P (vs 7) wj := hd 7 (by decide)
      clear hd
      simp only [Jo.putl, Jo.zd, Jo.ze, Act.put, Jo.za, Jo.zb, Jo.zc] at hK ⊢
      generalize vs 6 = u6 at hK d6 ⊢
      generalize vs 7 = u7 at hK d7 ⊢
      replace d6 : u6 = _ := d6
      subst d6
      replace d7 : u7 = _ := d7
      subst d7
      have xX00 : World.cell? wj ⟨w.heap.size, 0, none⟩ = some (.int .i64 0) := (X0.below hJ).cell 0
      have xX01 : World.cell? wj ⟨w.heap.size, 1, none⟩ = some (.bool s0) := (X0.below hJ).cell 1
      have xX02 : World.cell? wj ⟨w.heap.size, 2, none⟩ = some (.int .u64 M0) := (X0.below hJ).cell 2
      have xX03 : World.cell? wj ⟨w.heap.size, 3, none⟩ = some (.int .i64 E0) := (X0.below hJ).cell 3
      go_simp
      exact hK.out _ _ rfl (Below.refl _ _)
    refine Jo.jcons (i := 9) (o := ⟨some 47, _, _, _, _, _⟩) (di := some 47) (L := [(some 44, 6), (some 46, 8)]) (f := Jo.Fact.eq (.bool true)) rfl rfl rfl rfl (fun vs wj hJ hd K hK => ?_) ?_
    · have d6 : (Jo.Fact.eq (.bool true)).P (vs 6) wj := hd 6 (by decide)
      have d8 : (Jo.Fact.eq (.int .i64 0)).P (vs 8) wj := hd 8 (by decide)
      clear hd
      simp only [Jo.putl, Jo.zd, Jo.ze, Act.put, Jo.za, Jo.zb, Jo.zc] at hK ⊢
      generalize vs 6 = u6 at hK d6 ⊢
      generalize vs 8 = u8 at hK d8 ⊢
      replace d6 : u6 = _ := d6
      subst d6
      replace d8 : u8 = _ := d8
      subst d8
      go_simp
      exact hK.out _ _ (by first | rfl | (show Value.bool _ = Value.bool _; simp)) (Below.refl _ _)
    refine Jo.jcons (i := 10) (o := ⟨some 48, _, _, _, _, _⟩) (di := some 48) (L := [(some 44, 6), (some 47, 9)]) (f := Jo.Fact.eq (.bool true)) rfl rfl rfl rfl (fun vs wj hJ hd K hK => ?_) ?_
    · have d6 : (Jo.Fact.eq (.bool true)).P (vs 6) wj := hd 6 (by decide)
      have d9 : (Jo.Fact.eq (.bool true)).P (vs 9) wj := hd 9 (by decide)
      clear hd
      simp only [Jo.putl, Jo.zd, Jo.ze, Act.put, Jo.za, Jo.zb, Jo.zc] at hK ⊢
      generalize vs 6 = u6 at hK d6 ⊢
      generalize vs 9 = u9 at hK d9 ⊢
      replace d6 : u6 = _ := d6
      subst d6
      replace d9 : u9 = _ := d9
      subst d9
      go_simp
      exact hK.out _ _ rfl (Below.refl _ _)
    refine Jo.jcons (i := 11) (o := ⟨some 49, _, _, _, _, _⟩) (di := some 49) (L := [(some 48, 10)]) (f := Jo.Fact.eq undef) rfl rfl rfl rfl (fun vs wj hJ hd K hK => ?_) ?_
    · have d10 : (Jo.Fact.eq (.bool true)).P (vs 10) wj := hd 10 (by decide)
      clear hd
      simp only [Jo.putl, Jo.zd, Jo.ze, Act.put, Jo.za, Jo.zb, Jo.zc] at hK ⊢
      generalize vs 10 = u10 at hK d10 ⊢
      replace d10 : u10 = _ := d10
      subst d10
      go_simp
      exact hK.out _ _ rfl (Below.refl _ _)
    refine Jo.jcons (i := 12) (o := ⟨some 50, _, _, _, _, _⟩) (di := some 50) (L := [(some 48, 10)]) (f := Jo.Fact.eq undef) rfl rfl rfl rfl (fun vs wj hJ hd K hK => ?_) ?_
    · have d10 : (Jo.Fact.eq (.bool true)).P (vs 10) wj := hd 10 (by decide)
      clear hd
      simp only [Jo.putl, Jo.zd, Jo.ze, Act.put, Jo.za, Jo.zb, Jo.zc] at hK ⊢
      generalize vs 10 = u10 at hK d10 ⊢
      replace d10 : u10 = _ := d10
      subst d10
      go_simp
      exact hK.out _ _ rfl (Below.refl _ _)
    refine Jo.jcons (i := 13) (o := ⟨some 51, _, _, _, _, _⟩) (di := some 51) (L := [(some 48, 10)]) (f := Jo.Fact.eq undef) rfl rfl rfl rfl (fun vs wj hJ hd K hK => ?_) ?_
    · have d10 : (Jo.Fact.eq (.bool true)).P (vs 10) wj := hd 10 (by decide)
      clear hd
      simp only [Jo.putl, Jo.zd, Jo.ze, Act.put, Jo.za, Jo.zb, Jo.zc] at hK ⊢
      generalize vs 10 = u10 at hK d10 ⊢
      replace d10 : u10 = _ := d10
      subst d10
      go_simp
      exact hK.out _ _ rfl (Below.refl _ _)
    refine Jo.jcons (i := 14) (o := ⟨some 52, _, _, _, _, _⟩) (di := some 52) (L := [(some 48, 10), (some 49, 11), (some 50, 12), (some 51, 13)]) (f := Jo.Fact.eq undef) rfl rfl rfl rfl (fun vs wj hJ hd K hK => ?_) ?_
    · have d10 : (Jo.Fact.eq (.bool true)).P (vs 10) wj := hd 10 (by decide)
      have d11 : (Jo.Fact.eq undef).P (vs 11) wj := hd 11 (by decide)
      have d12 : (Jo.Fact.eq undef).P (vs 12) wj := hd 12 (by decide)
      have d13 : (Jo.Fact.eq undef).P (vs 13) wj := hd 13 (by decide)
      clear hd
      simp only [Jo.putl, Jo.zd, Jo.ze, Act.put, Jo.za, Jo.zb, Jo.zc] at hK ⊢
      generalize vs 10 = u10 at hK d10 ⊢
      generalize vs 11 = u11 at hK d11 ⊢
      generalize vs 12 = u12 at hK d12 ⊢
      generalize vs 13 = u13 at hK d13 ⊢
      replace d10 : u10 = _ := d10
      subst d10
      replace d11 : u11 = _ := d11
      subst d11
      replace d12 : u12 = _ := d12
      subst d12
      replace d13 : u13 = _ := d13
      subst d13
      go_simp
      exact hK.out _ _ rfl (Below.refl _ _)
    refine Jo.jcons (i := 15) (o := ⟨some 53, _, _, _, _, _⟩) (di := some 53) (L := [(some 48, 10)]) (f := Jo.Fact.eq undef) rfl rfl rfl rfl (fun vs wj hJ hd K hK => ?_) ?_
    · have d10 : (Jo.Fact.eq (.bool true)).P (vs 10) wj := hd 10 (by decide)
      clear hd
      simp only [Jo.putl, Jo.zd, Jo.ze, Act.put, Jo.za, Jo.zb, Jo.zc] at hK ⊢
      generalize vs 10 = u10 at hK d10 ⊢
      replace d10 : u10 = _ := d10
      subst d10
      go_simp
      exact hK.out _ _ rfl (Below.refl _ _)
    refine Jo.jcons (i := 16) (o := ⟨some 54, _, _, _, _, _⟩) (di := some 54) (L := [(some 48, 10), (some 52, 14), (some 53, 15)]) (f := Jo.Fact.eq undef) rfl rfl rfl rfl (fun vs wj hJ hd K hK => ?_) ?_
    · have d10 : (Jo.Fact.eq (.bool true)).P (vs 10) wj := hd 10 (by decide)
      have d14 : (Jo.Fact.eq undef).P (vs 14) wj := hd 14 (by decide)
      have d15 : (Jo.Fact.eq undef).P (vs 15) wj := hd 15 (by decide)
      clear hd
      simp only [Jo.putl, Jo.zd, Jo.ze, Act.put, Jo.za, Jo.zb, Jo.zc] at hK ⊢
      generalize vs 10 = u10 at hK d10 ⊢
      generalize vs 14 = u14 at hK d14 ⊢
      generalize vs 15 = u15 at hK d15 ⊢
      replace d10 : u10 = _ := d10
      subst d10
      replace d14 : u14 = _ := d14
      subst d14
      replace d15 : u15 = _ := d15
      subst d15
      go_simp
      exact hK.out _ _ rfl (Below.refl _ _)
    refine Jo.jcons (i := 17) (o := ⟨some 55, _, _, _, _, _⟩) (di := some 55) (L := [(some 44, 6), (some 48, 10), (some 54, 16)]) (f := Jo.Fact.eq (.bool true)) rfl rfl rfl rfl (fun vs wj hJ hd K hK => ?_) ?_
    · have d6 : (Jo.Fact.eq (.bool true)).P (vs 6) wj := hd 6 (by decide)
      have d10 : (Jo.Fact.eq (.bool true)).P (vs 10) wj := hd 10 (by decide)
      have d16 : (Jo.Fact.eq undef).P (vs 16) wj := hd 16 (by decide)
      clear hd
      simp only [Jo.putl, Jo.zd, Jo.ze, Act.put, Jo.za, Jo.zb, Jo.zc] at hK ⊢
      generalize vs 6 = u6 at hK d6 ⊢
      generalize vs 10 = u10 at hK d10 ⊢
      generalize vs 16 = u16 at hK d16 ⊢
      replace d6 : u6 = _ := d6
      subst d6
      replace d10 : u10 = _ := d10
      subst d10
      replace d16 : u16 = _ := d16
      subst d16
      go_simp
      exact hK.out _ _ rfl (Below.refl _ _)
    refine Jo.jcons (i := 18) (o := ⟨some 56, _, _, _, _, _⟩) (di := some 56) (L := [(some 44, 6), (some 55, 17)]) (f := Jo.Fact.eq (.bool true)) rfl rfl rfl rfl (fun vs wj hJ hd K hK => ?_) ?_
    · have d6 : (Jo.Fact.eq (.bool true)).P (vs 6) wj := hd 6 (by decide)
      have d17 : (Jo.Fact.eq (.bool true)).P (vs 17) wj := hd 17 (by decide)
      clear hd
      simp only [Jo.putl, Jo.zd, Jo.ze, Act.put, Jo.za, Jo.zb, Jo.zc] at hK ⊢
      generalize vs 6 = u6 at hK d6 ⊢
      generalize vs 17 = u17 at hK d17 ⊢
      replace d6 : u6 = _ := d6
      subst d6
      replace d17 : u17 = _ := d17
      subst d17
      go_simp
      exact hK.out _ _ rfl (Below.refl _ _)
    refine Jo.jcons (i := 19) (o := ⟨some 57, _, _, _, _, _⟩) (di := some 57) (L := [(some 56, 18)]) (f := Jo.Fact.eq (.bool true)) rfl rfl rfl rfl (fun vs wj hJ hd K hK => ?_) ?_
    · have d18 : (Jo.Fact.eq (.bool true)).P (vs 18) wj := hd 18 (by decide)
      clear hd
      simp only [Jo.putl, Jo.zd, Jo.ze, Act.put, Jo.za, Jo.zb, Jo.zc] at hK ⊢
      generalize vs 18 = u18 at hK d18 ⊢
      replace d18 : u18 = _ := d18
      subst d18
      go_simp
      exact hK.out _ _ rfl (Below.refl _ _)
    refine Jo.jcons (i := 20) (o := ⟨some 58, _, _, _, _, _⟩) (di := some 58) (L := [(some 57, 19)]) (f := Jo.Fact.eq (.bool true)) rfl rfl rfl rfl (fun vs wj hJ hd K hK => ?_) ?_
    · have d19 : (Jo.Fact.eq (.bool true)).P (vs 19) wj := hd 19 (by decide)
      clear hd
      simp only [Jo.putl, Jo.zd, Jo.ze, Act.put, Jo.za, Jo.zb, Jo.zc] at hK ⊢
      generalize vs 19 = u19 at hK d19 ⊢
      replace d19 : u19 = _ := d19
      subst d19
      go_simp
      exact hK.out _ _ rfl (Below.refl _ _)
    refine Jo.jcons (i := 21) (o := ⟨some 59, _, _, _, _, _⟩) (di := some 59) (L := [(some 57, 19), (some 58, 20)]) (f := Jo.Fact.eq (.bool true)) rfl rfl rfl rfl (fun vs wj hJ hd K hK => ?_) ?_
    · have d19 : (Jo.Fact.eq (.bool true)).P (vs 19) wj := hd 19 (by decide)
      have d20 : (Jo.Fact.eq (.bool true)).P (vs 20) wj := hd 20 (by decide)
      clear hd
      simp only [Jo.putl, Jo.zd, Jo.ze, Act.put, Jo.za, Jo.zb, Jo.zc] at hK ⊢
      generalize vs 19 = u19 at hK d19 ⊢
      generalize vs 20 = u20 at hK d20 ⊢
      replace d19 : u19 = _ := d19
      subst d19
      replace d20 : u20 = _ := d20
      subst d20
      go_simp
      exact hK.out _ _ rfl (Below.refl _ _)
    refine Jo.jcons (i := 22) (o := ⟨some 60, _, _, _, _, _⟩) (di := some 60) (L := [(some 59, 21)]) (f := Jo.Fact.eq (.bool true)) rfl rfl rfl rfl (fun vs wj hJ hd K hK => ?_) ?_
    · have d21 : (Jo.Fact.eq (.bool true)).P (vs 21) wj := hd 21 (by decide)
      clear hd
      simp only [Jo.putl, Jo.zd, Jo.ze, Act.put, Jo.za, Jo.zb, Jo.zc] at hK ⊢
      generalize vs 21 = u21 at hK d21 ⊢
      replace d21 : u21 = _ := d21
      subst d21
      go_simp
      exact hK.out _ _ rfl (Below.refl _ _)
    refine Jo.jcons (i := 23) (o := ⟨some 61, _, _, _, _, _⟩) (di := some 61) (L := [(some 60, 22)]) (f := Jo.Fact.eq (.agg #[.int .i64 K3, .bool s3, .int .u64 M3, .int .i64 E3])) rfl rfl rfl rfl (fun vs wj hJ hd K hK => ?_) ?_
    · have d22 : (Jo.Fact.eq (.bool true)).P (vs 22) wj := hd 22 (by decide)
      clear hd
      simp only [Jo.putl, Jo.zd, Jo.ze, Act.put, Jo.za, Jo.zb, Jo.zc] at hK ⊢
      generalize vs 22 = u22 at hK d22 ⊢
      replace d22 : u22 = _ := d22
      subst d22
      have xX90 : World.cell? wj ⟨w7.heap.size, 0, none⟩ = some (.int .i64 K3) := (X9.below hJ).cell 0
      have xX91 : World.cell? wj ⟨w7.heap.size, 1, none⟩ = some (.bool s3) := (X9.below hJ).cell 1
      have xX92 : World.cell? wj ⟨w7.heap.size, 2, none⟩ = some (.int .u64 M3) := (X9.below hJ).cell 2
      have xX93 : World.cell? wj ⟨w7.heap.size, 3, none⟩ = some (.int .i64 E3) := (X9.below hJ).cell 3
      go_simp
      exact hK.out _ _ rfl (Below.refl _ _)
    refine Jo.jcons (i := 24) (o := ⟨some 62, _, _, _, _, _⟩) (di := some 62) (L := [(some 60, 22)]) (f := Jo.Fact.eq (.int .i64 n1)) rfl rfl rfl rfl (fun vs wj hJ hd K hK => ?_) ?_
    · have d22 : (Jo.Fact.eq (.bool true)).P (vs 22) wj := hd 22 (by decide)
      clear hd
      simp only [Jo.putl, Jo.zd, Jo.ze, Act.put, Jo.za, Jo.zb, Jo.zc] at hK ⊢
      generalize vs 22 = u22 at hK d22 ⊢
      replace d22 : u22 = _ := d22
      subst d22
      go_simp
      exact hK.out _ _ rfl (Below.refl _ _)
    refine Jo.jcons (i := 25) (o := ⟨some 63, _, _, _, _, _⟩) (di := some 63) (L := [(some 60, 22), (some 62, 24)]) (f := Jo.Fact.num on) rfl rfl rfl rfl (fun vs wj hJ hd K hK => ?_) ?_
    · have d22 : (Jo.Fact.eq (.bool true)).P (vs 22) wj := hd 22 (by decide)
      have d24 : (Jo.Fact.eq (.int .i64 n1)).P (vs 24) wj := hd 24 (by decide)
      clear hd
      simp only [Jo.putl, Jo.zd, Jo.ze, Act.put, Jo.za, Jo.zb, Jo.zc] at hK ⊢
      generalize vs 22 = u22 at hK d22 ⊢
      generalize vs 24 = u24 at hK d24 ⊢
      replace d22 : u22 = _ := d22
      subst d22
      replace d24 : u24 = _ := d24
      subst d24
      go_simp
      refine (nOf _ HNB.out.1 HNB.out.2 HON.out).mono ?_
      rintro ee wk ⟨K6, s6, M6, E6, rfl, q6, B⟩
      exact hK.out _ _ ⟨K6, s6, M6, E6, rfl, q6⟩ B
    refine Jo.jcons (i := 26) (o := ⟨some 64, _, _, _, _, _⟩) (di := some 64) (L := [(some 60, 22), (some 61, 23), (some 63, 25)]) (f := Jo.Fact.eq (.bool true)) rfl rfl rfl rfl (fun vs wj hJ hd K hK => ?_) ?_
    · have d22 : (Jo.Fact.eq (.bool true)).P (vs 22) wj := hd 22 (by decide)
      have d23 : (Jo.Fact.eq (.agg #[.int .i64 K3, .bool s3, .int .u64 M3, .int .i64 E3])).P (vs 23) wj := hd 23 (by decide)
      have d25 : (Jo.Fact.num on).P (vs 25) wj := hd 25 (by decide)
      clear hd
      simp only [Jo.putl, Jo.zd, Jo.ze, Act.put, Jo.za, Jo.zb, Jo.zc] at hK ⊢
      generalize vs 22 = u22 at hK d22 ⊢
      generalize vs 23 = u23 at hK d23 ⊢
      generalize vs 25 = u25 at hK d25 ⊢
      replace d22 : u22 = _ := d22
      subst d22
      replace d23 : u23 = _ := d23
      subst d23
      obtain ⟨K6, s6, M6, E6, rfl, q6⟩ := d25
      obtain ⟨rfl, rfl, rfl, rfl⟩ := q3.uniq q6
      go_simp
      exact hK.out _ _ (by first | rfl | (show Value.bool _ = Value.bool _; simp)) (Below.refl _ _)
    refine Jo.jcons (i := 27) (o := ⟨some 65, _, _, _, _, _⟩) (di := some 65) (L := [(some 60, 22), (some 64, 26)]) (f := Jo.Fact.eq (.bool true)) rfl rfl rfl rfl (fun vs wj hJ hd K hK => ?_) ?_
    · have d22 : (Jo.Fact.eq (.bool true)).P (vs 22) wj := hd 22 (by decide)
      have d26 : (Jo.Fact.eq (.bool true)).P (vs 26) wj := hd 26 (by decide)
      clear hd
      simp only [Jo.putl, Jo.zd, Jo.ze, Act.put, Jo.za, Jo.zb, Jo.zc] at hK ⊢
      generalize vs 22 = u22 at hK d22 ⊢
      generalize vs 26 = u26 at hK d26 ⊢
      replace d22 : u22 = _ := d22
      subst d22
      replace d26 : u26 = _ := d26
      subst d26
      go_simp
      exact hK.out _ _ rfl (Below.refl _ _)
    refine Jo.jcons (i := 28) (o := ⟨some 6, _, _, _, _, _⟩) (di := some 6) (L := [(some 65, 27)]) (f := Jo.Fact.eq (.bool true)) rfl rfl rfl rfl (fun vs wj hJ hd K hK => ?_) ?_
    · have d27 : (Jo.Fact.eq (.bool true)).P (vs 27) wj := hd 27 (by decide)
      clear hd
      simp only [Jo.putl, Jo.zd, Jo.ze, Act.put, Jo.za, Jo.zb, Jo.zc] at hK ⊢
      generalize vs 27 = u27 at hK d27 ⊢
      replace d27 : u27 = _ := d27
      subst d27
      go_simp
      exact hK.out _ _ rfl (Below.refl _ _)
    exact Jo.Steps.nil
  have d0 : (Jo.Fact.eq (.agg #[.int .i64 0, .bool s0, .int .u64 M0, .int .i64 E0])).P (vs 0) w9 := hd 0 (by decide)
  have d1 : (Jo.Fact.eq (.agg #[.int .i64 K1, .bool s1, .int .u64 M1, .int .i64 E1])).P (vs 1) w9 := hd 1 (by decide)
  have d2 : (Jo.Fact.eq (.bool b2)).P (vs 2) w9 := hd 2 (by decide)
  have d3 : (Jo.Fact.num x).P (vs 3) w9 := hd 3 (by decide)
  have d4 : (Jo.Fact.eq (.agg #[.int .i64 0, .bool s0, .int .u64 M0, .int .i64 E0])).P (vs 4) w9 := hd 4 (by decide)
  have d5 : (Jo.Fact.eq (.bool true)).P (vs 5) w9 := hd 5 (by decide)
  have d6 : (Jo.Fact.eq (.bool true)).P (vs 6) w9 := hd 6 (by decide)
  have d7 : (Jo.Fact.eq (.pointer (some ⟨w.heap.size, 0, none⟩))).P (vs 7) w9 := hd 7 (by decide)
  have d8 : (Jo.Fact.eq (.int .i64 0)).P (vs 8) w9 := hd 8 (by decide)
  have d9 : (Jo.Fact.eq (.bool true)).P (vs 9) w9 := hd 9 (by decide)
  have d10 : (Jo.Fact.eq (.bool true)).P (vs 10) w9 := hd 10 (by decide)
  have d11 : (Jo.Fact.eq undef).P (vs 11) w9 := hd 11 (by decide)
  have d12 : (Jo.Fact.eq undef).P (vs 12) w9 := hd 12 (by decide)
  have d13 : (Jo.Fact.eq undef).P (vs 13) w9 := hd 13 (by decide)
  have d14 : (Jo.Fact.eq undef).P (vs 14) w9 := hd 14 (by decide)
  have d15 : (Jo.Fact.eq undef).P (vs 15) w9 := hd 15 (by decide)
  have d16 : (Jo.Fact.eq undef).P (vs 16) w9 := hd 16 (by decide)
  have d17 : (Jo.Fact.eq (.bool true)).P (vs 17) w9 := hd 17 (by decide)
  have d18 : (Jo.Fact.eq (.bool true)).P (vs 18) w9 := hd 18 (by decide)
  have d19 : (Jo.Fact.eq (.bool true)).P (vs 19) w9 := hd 19 (by decide)
  have d20 : (Jo.Fact.eq (.bool true)).P (vs 20) w9 := hd 20 (by decide)
  have d21 : (Jo.Fact.eq (.bool true)).P (vs 21) w9 := hd 21 (by decide)
  have d22 : (Jo.Fact.eq (.bool true)).P (vs 22) w9 := hd 22 (by decide)
  have d23 : (Jo.Fact.eq (.agg #[.int .i64 K3, .bool s3, .int .u64 M3, .int .i64 E3])).P (vs 23) w9 := hd 23 (by decide)
  have d24 : (Jo.Fact.eq (.int .i64 n1)).P (vs 24) w9 := hd 24 (by decide)
  have d25 : (Jo.Fact.num on).P (vs 25) w9 := hd 25 (by decide)
  have d26 : (Jo.Fact.eq (.bool true)).P (vs 26) w9 := hd 26 (by decide)
  have d27 : (Jo.Fact.eq (.bool true)).P (vs 27) w9 := hd 27 (by decide)
  have d28 : (Jo.Fact.eq (.bool true)).P (vs 28) w9 := hd 28 (by decide)
  clear hd
  simp only [Jo.putl, Jo.zd, Jo.ze, Act.put, Jo.za, Jo.zb, Jo.zc]
  generalize vs 0 = u0 at d0 ⊢
  generalize vs 1 = u1 at d1 ⊢
  generalize vs 2 = u2 at d2 ⊢
  generalize vs 3 = u3 at d3 ⊢
  generalize vs 4 = u4 at d4 ⊢
  generalize vs 5 = u5 at d5 ⊢
  generalize vs 6 = u6 at d6 ⊢
  generalize vs 7 = u7 at d7 ⊢
  generalize vs 8 = u8 at d8 ⊢
  generalize vs 9 = u9 at d9 ⊢
  generalize vs 10 = u10 at d10 ⊢
  generalize vs 11 = u11 at d11 ⊢
  generalize vs 12 = u12 at d12 ⊢
  generalize vs 13 = u13 at d13 ⊢
  generalize vs 14 = u14 at d14 ⊢
  generalize vs 15 = u15 at d15 ⊢
  generalize vs 16 = u16 at d16 ⊢
  generalize vs 17 = u17 at d17 ⊢
  generalize vs 18 = u18 at d18 ⊢
  generalize vs 19 = u19 at d19 ⊢
  generalize vs 20 = u20 at d20 ⊢
  generalize vs 21 = u21 at d21 ⊢
  generalize vs 22 = u22 at d22 ⊢
  generalize vs 23 = u23 at d23 ⊢
  generalize vs 24 = u24 at d24 ⊢
  generalize vs 25 = u25 at d25 ⊢
  generalize vs 26 = u26 at d26 ⊢
  generalize vs 27 = u27 at d27 ⊢
  generalize vs 28 = u28 at d28 ⊢
  clear vs
  replace d0 : u0 = _ := d0
  subst d0
  replace d1 : u1 = _ := d1
  subst d1
  replace d2 : u2 = _ := d2
  subst d2
  obtain ⟨K4, s4, M4, E4, rfl, _⟩ := d3
  replace d4 : u4 = _ := d4
  subst d4
  replace d5 : u5 = _ := d5
  subst d5
  replace d6 : u6 = _ := d6
  subst d6
  replace d7 : u7 = _ := d7
  subst d7
  replace d8 : u8 = _ := d8
  subst d8
  replace d9 : u9 = _ := d9
  subst d9
  replace d10 : u10 = _ := d10
  subst d10
  replace d11 : u11 = _ := d11
  subst d11
  replace d12 : u12 = _ := d12
  subst d12
  replace d13 : u13 = _ := d13
  subst d13
  replace d14 : u14 = _ := d14
  subst d14
  replace d15 : u15 = _ := d15
  subst d15
  replace d16 : u16 = _ := d16
  subst d16
  replace d17 : u17 = _ := d17
  subst d17
  replace d18 : u18 = _ := d18
  subst d18
  replace d19 : u19 = _ := d19
  subst d19
  replace d20 : u20 = _ := d20
  subst d20
  replace d21 : u21 = _ := d21
  subst d21
  replace d22 : u22 = _ := d22
  subst d22
  replace d23 : u23 = _ := d23
  subst d23
  replace d24 : u24 = _ := d24
  subst d24
  obtain ⟨K6, s6, M6, E6, rfl, _⟩ := d25
  replace d26 : u26 = _ := d26
  subst d26
  replace d27 : u27 = _ := d27
  subst d27
  replace d28 : u28 = _ := d28
  subst d28
  replace X0 := X0.below hJ
  replace X8 := X8.below hJ
  replace X9 := X9.below hJ
  replace hT := hT.below hJ
  replace HB := Lib.hid (bt HB.out hJ)
  refine Jo.jdone (by kernel_rfl) ?_
  go_wp2
  go_ret
  exact ⟨rfl, HB.out⟩
set_option maxHeartbeats 8000000 in
theorem quotUnits_m1 (s0 : Bool) (M0 E0 x n1 : Int) (b2 : Bool) (w : World) (hT : Tab w) (q : Fq 1 s0 M0 E0 x) (hn0 : ¬ n1 < 0) (hn1 : ¬ 1000000000 < n1) :
    Calls Tryd.prog 6 #[.agg #[.int .i64 1, .bool s0, .int .u64 M0, .int .i64 E0], .int .i64 n1, .bool b2] w (PB w true) := by
  have bx := q.bd
  obtain ⟨o1, ho1⟩ : ∃ o, opl 1 = o := ⟨_, rfl⟩
  have HO1 : Hid (sgi (decide ((1 : Int) < 0)) (lo (1 : Int).natAbs 0) = o1) := Lib.hid ho1
  have HQ1 : Hid (Qt b2 x o1 x) := Lib.hid (by rw [← ho1]; exact qt_one bx.1 bx.2)
  have HSE : Hid (Qt b2 x x o1) := Lib.hid (by
    obtain ⟨_, _, _, _, x1, x2, x0, _⟩ := fq_vr q
    rw [← ho1]
    exact qt_self x0 x1 x2)
  obtain ⟨m, hm⟩ : ∃ m, n1 * n1 = m := ⟨_, rfl⟩
  have hmb : 0 ≤ m ∧ m ≤ 1000000000000000000 := by
    have a : n1 * n1 ≤ 1000000000 * 1000000000 := Int.mul_le_mul (by omega) (by omega) (by omega) (by decide)
    have b : 0 ≤ n1 * n1 := Int.mul_nonneg (by omega) (by omega)
    omega
  obtain ⟨on, hon⟩ : ∃ o, opl n1 = o := ⟨_, rfl⟩
  obtain ⟨om, hom⟩ : ∃ o, opl m = o := ⟨_, rfl⟩
  have HRO : Hid (Ro b2 om on true) := Lib.hid (by rw [← hom, ← hon]; exact ro_square (by omega) (by omega) hm)
  have HW : Hid (wrap64 (n1 * n1) = m) := Lib.hid (by rw [hm]; unfold wrap64; omega)
  have HON : Hid (sgi (decide (n1 < 0)) (lo n1.natAbs 0) = on) := Lib.hid hon
  have HOM : Hid (sgi (decide (m < 0)) (lo m.natAbs 0) = om) := Lib.hid hom
  have HM := Lib.hid (decide_eq_true q.1)
  have HNB := Lib.hid (show -9223372036854775808 ≤ n1 ∧ n1 ≤ 9223372036854775807 by omega)
  have HMB := Lib.hid (show -9223372036854775808 ≤ m ∧ m ≤ 9223372036854775807 by omega)
  clear bx ho1 hm hmb hon hom
  go_enter Tryd.func6, Tryd.ntmps6
  go_upto_region 1 with (fail)
  have X0 := (Bo.newAt w (g := w.heap.size) (by simp) #[.int .i64 1, .bool s0, .int .u64 M0, .int .i64 E0] 24)
  have HB := Lib.hid (bel1 w (.cells #[.int .i64 1, .bool s0, .int .u64 M0, .int .i64 E0] 24))
  replace hT := hT.below HB.out
  generalize hW1 : (w.alloc (.cells #[.int .i64 1, .bool s0, .int .u64 M0, .int .i64 E0] 24)) = w1 at *
  clear hW1
  go_wp2_with fail
  refine (awake7 hT).mono ?_
  rintro ee w2 ⟨rfl, B⟩
  replace X0 := X0.below B
  replace hT := hT.below B
  replace HB := Lib.hid (bt HB.out B)
  clear B
  have xX00 := X0.at (i := 0) (v := .int .i64 1) rfl
  have xX01 := X0.at (i := 1) (v := .bool s0) rfl
  have xX02 := X0.at (i := 2) (v := .int .u64 M0) rfl
  have xX03 := X0.at (i := 3) (v := .int .i64 E0) rfl
  go_wp2_with fail
  refine (nMay (r := true) HM.out).mono ?_
  rintro ee w3 ⟨rfl, B⟩
  clear xX00 xX01 xX02 xX03
  replace X0 := X0.below B
  replace hT := hT.below B
  replace HB := Lib.hid (bt HB.out B)
  clear B
  have xX00 := X0.at (i := 0) (v := .int .i64 1) rfl
  have xX01 := X0.at (i := 1) (v := .bool s0) rfl
  have xX02 := X0.at (i := 2) (v := .int .u64 M0) rfl
  have xX03 := X0.at (i := 3) (v := .int .i64 E0) rfl
  go_wp2_with fail
  refine (nOf _ (by decide) (by decide) HO1.out).mono ?_
  rintro ee w4 ⟨K1, s1, M1, E1, rfl, q1, B⟩
  clear xX00 xX01 xX02 xX03
  replace X0 := X0.below B
  replace hT := hT.below B
  replace HB := Lib.hid (bt HB.out B)
  clear B
  go_upto_region 5 with (fail)
  clear hn0 hn1
  have lX8 := Nat.le_refl (World.heap w4).size
  have nX8X0 := X0.lt
  replace X0 := X0.below (bel1 _ (.cells #[.int .i64 K1, .bool s1, .int .u64 M1, .int .i64 E1] 24))
  replace hT := hT.below (bel1 _ (.cells #[.int .i64 K1, .bool s1, .int .u64 M1, .int .i64 E1] 24))
  replace HB := Lib.hid (bt HB.out (bel1 _ (.cells #[.int .i64 K1, .bool s1, .int .u64 M1, .int .i64 E1] 24)))
  have X8 := Bo.new w4 #[.int .i64 K1, .bool s1, .int .u64 M1, .int .i64 E1] 24
  generalize hWn : World.alloc w4 (.cells #[.int .i64 K1, .bool s1, .int .u64 M1, .int .i64 E1] 24) = w5 at *
  clear hWn
  clear lX8
  go_wp2_with fail
  refine (nOf (r := om) _ (by rw [HW.out]; exact HMB.out.1) (by rw [HW.out]; exact HMB.out.2) (by rw [HW.out]; exact HOM.out)).mono ?_
  rintro ee w6 ⟨K2, s2, M2, E2, rfl, q2, B⟩
  replace X0 := X0.below B
  replace X8 := X8.below B
  replace hT := hT.below B
  replace HB := Lib.hid (bt HB.out B)
  clear B
  go_wp2_with fail
  refine (kRoot hT q2.top q2.rk HRO.out).mono ?_
  rintro ee w7 ⟨K3, s3, M3, E3, rfl, q3, B⟩
  replace X0 := X0.below B
  replace X8 := X8.below B
  replace hT := hT.below B
  replace HB := Lib.hid (bt HB.out B)
  clear B
  clear q2
  go_upto_region 6 with (fail)
  have lX9 := Nat.le_refl (World.heap w7).size
  have nX9X0 := X0.lt
  have nX9X8 := X8.lt
  replace X0 := X0.below (bel1 _ (.cells #[.int .i64 K3, .bool s3, .int .u64 M3, .int .i64 E3] 24))
  replace X8 := X8.below (bel1 _ (.cells #[.int .i64 K3, .bool s3, .int .u64 M3, .int .i64 E3] 24))
  replace hT := hT.below (bel1 _ (.cells #[.int .i64 K3, .bool s3, .int .u64 M3, .int .i64 E3] 24))
  replace HB := Lib.hid (bt HB.out (bel1 _ (.cells #[.int .i64 K3, .bool s3, .int .u64 M3, .int .i64 E3] 24)))
  have X9 := Bo.new w7 #[.int .i64 K3, .bool s3, .int .u64 M3, .int .i64 E3] 24
  generalize hWn : World.alloc w7 (.cells #[.int .i64 K3, .bool s3, .int .u64 M3, .int .i64 E3] 24) = w8 at *
  clear hWn
  clear lX9
  refine Jo.region_joint (T := [0, 1, 2, 3, 4, 5, 6, 7, 8, 9, 10, 11, 12, 13, 14, 15, 16, 17, 18, 19, 20, 21, 22, 23, 24, 25, 26, 27, 28]) (ds := [some 38, some 39, some 40, some 41, some 42, some 43, some 44, some 45, some 46, some 47, some 48, some 49, some 50, some 51, some 52, some 53, some 54, some 55, some 56, some 57, some 58, some 59, some 60, some 61, some 62, some 63, some 64, some 65, some 6]) (ls := [[], [], [], [0, 1, 2], [], [3, 4], [5], [6], [6, 7], [6, 8], [6, 9], [10], [10], [10], [10, 11, 12, 13], [10], [10, 14, 15], [6, 10, 16], [6, 17], [18], [19], [19, 20], [21], [22], [22], [22, 24], [22, 23, 25], [22, 26], [27]]) (k := 29) (L := [(some 38, 0), (some 39, 1), (some 40, 2), (some 41, 3), (some 42, 4), (some 43, 5), (some 44, 6), (some 45, 7), (some 46, 8), (some 47, 9), (some 48, 10), (some 49, 11), (some 50, 12), (some 51, 13), (some 52, 14), (some 53, 15), (some 54, 16), (some 55, 17), (some 56, 18), (some 57, 19), (some 58, 20), (some 59, 21), (some 60, 22), (some 61, 23), (some 62, 24), (some 63, 25), (some 64, 26), (some 65, 27), (some 6, 28)]) (fuel := 0) (J := fun wj => Below (World.heap w8).size w8 wj)
    (F := [Jo.Fact.eq (.agg #[.int .i64 1, .bool s0, .int .u64 M0, .int .i64 E0]), Jo.Fact.eq (.agg #[.int .i64 K1, .bool s1, .int .u64 M1, .int .i64 E1]), Jo.Fact.eq (.bool b2), Jo.Fact.num x, Jo.Fact.eq (.agg #[.int .i64 1, .bool s0, .int .u64 M0, .int .i64 E0]), Jo.Fact.eq (.bool true), Jo.Fact.eq (.bool true), Jo.Fact.eq (.pointer (some ⟨w.heap.size, 0, none⟩)), Jo.Fact.eq (.int .i64 1), Jo.Fact.eq (.bool false), Jo.Fact.eq (.bool false), Jo.Fact.eq (.agg #[.int .i64 1, .bool s0, .int .u64 M0, .int .i64 E0]), Jo.Fact.eq (.agg #[.int .i64 1, .bool s0, .int .u64 M0, .int .i64 E0]), Jo.Fact.eq (.bool b2), Jo.Fact.num o1, Jo.Fact.eq (.agg #[.int .i64 K1, .bool s1, .int .u64 M1, .int .i64 E1]), Jo.Fact.eq (.bool true), Jo.Fact.eq (.bool true), Jo.Fact.eq (.bool true), Jo.Fact.eq (.bool true), Jo.Fact.eq (.bool true), Jo.Fact.eq (.bool true), Jo.Fact.eq (.bool true), Jo.Fact.eq (.agg #[.int .i64 K3, .bool s3, .int .u64 M3, .int .i64 E3]), Jo.Fact.eq (.int .i64 n1), Jo.Fact.num on, Jo.Fact.eq (.bool true), Jo.Fact.eq (.bool true), Jo.Fact.eq (.bool true)])
    (by kernel_rfl) (by kernel_rfl) (by decide) rfl rfl (fun _ _ h b => bt h b) ((Below.refl _ _).drew) ?_ (fun vs w9 hJ hd => ?_)
  · refine Jo.jcons (i := 0) (o := ⟨some 38, _, _, _, _, _⟩) (di := some 38) (L := []) (f := Jo.Fact.eq (.agg #[.int .i64 1, .bool s0, .int .u64 M0, .int .i64 E0])) rfl rfl rfl rfl (fun vs wj hJ hd K hK => ?_) ?_
    · clear hd
      simp only [Jo.putl, Jo.ze, Act.put, Jo.za, Jo.zb, Jo.zc] at hK ⊢
      have xX00 : World.cell? wj ⟨w.heap.size, 0, none⟩ = some (.int .i64 1) := (X0.below hJ).cell 0
      have xX01 : World.cell? wj ⟨w.heap.size, 1, none⟩ = some (.bool s0) := (X0.below hJ).cell 1
      have xX02 : World.cell? wj ⟨w.heap.size, 2, none⟩ = some (.int .u64 M0) := (X0.below hJ).cell 2
      have xX03 : World.cell? wj ⟨w.heap.size, 3, none⟩ = some (.int .i64 E0) := (X0.below hJ).cell 3
      go_simp
      exact hK.out _ _ rfl (Below.refl _ _)
    refine Jo.jcons (i := 1) (o := ⟨some 39, _, _, _, _, _⟩) (di := some 39) (L := []) (f := Jo.Fact.eq (.agg #[.int .i64 K1, .bool s1, .int .u64 M1, .int .i64 E1])) rfl rfl rfl rfl (fun vs wj hJ hd K hK => ?_) ?_
    · clear hd
      simp only [Jo.putl, Jo.ze, Act.put, Jo.za, Jo.zb, Jo.zc] at hK ⊢
      have xX80 : World.cell? wj ⟨w4.heap.size, 0, none⟩ = some (.int .i64 K1) := (X8.below hJ).cell 0
      have xX81 : World.cell? wj ⟨w4.heap.size, 1, none⟩ = some (.bool s1) := (X8.below hJ).cell 1
      have xX82 : World.cell? wj ⟨w4.heap.size, 2, none⟩ = some (.int .u64 M1) := (X8.below hJ).cell 2
      have xX83 : World.cell? wj ⟨w4.heap.size, 3, none⟩ = some (.int .i64 E1) := (X8.below hJ).cell 3
      go_simp
      exact hK.out _ _ rfl (Below.refl _ _)
    refine Jo.jcons (i := 2) (o := ⟨some 40, _, _, _, _, _⟩) (di := some 40) (L := []) (f := Jo.Fact.eq (.bool b2)) rfl rfl rfl rfl (fun vs wj hJ hd K hK => ?_) ?_
    · clear hd
      simp only [Jo.putl, Jo.ze, Act.put, Jo.za, Jo.zb, Jo.zc] at hK ⊢
      go_simp
      exact hK.out _ _ rfl (Below.refl _ _)
    refine Jo.jcons (i := 3) (o := ⟨some 41, _, _, _, _, _⟩) (di := some 41) (L := [(some 38, 0), (some 39, 1), (some 40, 2)]) (f := Jo.Fact.num x) rfl rfl rfl rfl (fun vs wj hJ hd K hK => ?_) ?_
    · have d0 : (Jo.Fact.eq (.agg #[.int .i64 1, .bool s0, .int .u64 M0, .int .i64 E0])).P (vs 0) wj := hd 0 (by decide)
      have d1 : (Jo.Fact.eq (.agg #[.int .i64 K1, .bool s1, .int .u64 M1, .int .i64 E1])).P (vs 1) wj := hd 1 (by decide)
      have d2 : (Jo.Fact.eq (.bool b2)).P (vs 2) wj := hd 2 (by decide)
      clear hd
      simp only [Jo.putl, Jo.zd, Jo.ze, Act.put, Jo.za, Jo.zb, Jo.zc] at hK ⊢
      generalize vs 0 = u0 at hK d0 ⊢
      generalize vs 1 = u1 at hK d1 ⊢
      generalize vs 2 = u2 at hK d2 ⊢
      replace d0 : u0 = _ := d0
      subst d0
      replace d1 : u1 = _ := d1
      subst d1
      replace d2 : u2 = _ := d2
      subst d2
      go_simp
      refine (kDiv (hT.below hJ) q.top q1.top q.rk q1.rk HQ1.out).mono ?_
      rintro ee wk ⟨K4, s4, M4, E4, rfl, q4, B⟩
      exact hK.out _ _ ⟨K4, s4, M4, E4, rfl, q4⟩ B
    refine Jo.jcons (i := 4) (o := ⟨some 42, _, _, _, _, _⟩) (di := some 42) (L := []) (f := Jo.Fact.eq (.agg #[.int .i64 1, .bool s0, .int .u64 M0, .int .i64 E0])) rfl rfl rfl rfl (fun vs wj hJ hd K hK => ?_) ?_
    · clear hd
      simp only [Jo.putl, Jo.ze, Act.put, Jo.za, Jo.zb, Jo.zc] at hK ⊢
      have xX00 : World.cell? wj ⟨w.heap.size, 0, none⟩ = some (.int .i64 1) := (X0.below hJ).cell 0
      have xX01 : World.cell? wj ⟨w.heap.size, 1, none⟩ = some (.bool s0) := (X0.below hJ).cell 1
      have xX02 : World.cell? wj ⟨w.heap.size, 2, none⟩ = some (.int .u64 M0) := (X0.below hJ).cell 2
      have xX03 : World.cell? wj ⟨w.heap.size, 3, none⟩ = some (.int .i64 E0) := (X0.below hJ).cell 3
      go_simp
      exact hK.out _ _ rfl (Below.refl _ _)
    refine Jo.jcons (i := 5) (o := ⟨some 43, _, _, _, _, _⟩) (di := some 43) (L := [(some 41, 3), (some 42, 4)]) (f := Jo.Fact.eq (.bool true)) rfl rfl rfl rfl (fun vs wj hJ hd K hK => ?_) ?_
    · have d3 : (Jo.Fact.num x).P (vs 3) wj := hd 3 (by decide)
      have d4 : (Jo.Fact.eq (.agg #[.int .i64 1, .bool s0, .int .u64 M0, .int .i64 E0])).P (vs 4) wj := hd 4 (by decide)
      clear hd
      simp only [Jo.putl, Jo.zd, Jo.ze, Act.put, Jo.za, Jo.zb, Jo.zc] at hK ⊢
      generalize vs 3 = u3 at hK d3 ⊢
      generalize vs 4 = u4 at hK d4 ⊢
      obtain ⟨K4, s4, M4, E4, rfl, q4⟩ := d3
      replace d4 : u4 = _ := d4
      subst d4
      obtain ⟨rfl, rfl, rfl, rfl⟩ := q4.uniq q
      go_simp
      exact hK.out _ _ (by first | rfl | (show Value.bool _ = Value.bool _; simp)) (Below.refl _ _)
    refine Jo.jcons (i := 6) (o := ⟨some 44, _, _, _, _, _⟩) (di := some 44) (L := [(some 43, 5)]) (f := Jo.Fact.eq (.bool true)) rfl rfl rfl rfl (fun vs wj hJ hd K hK => ?_) ?_
    · have d5 : (Jo.Fact.eq (.bool true)).P (vs 5) wj := hd 5 (by decide)
      clear hd
      simp only [Jo.putl, Jo.zd, Jo.ze, Act.put, Jo.za, Jo.zb, Jo.zc] at hK ⊢
      generalize vs 5 = u5 at hK d5 ⊢
      replace d5 : u5 = _ := d5
      subst d5
      go_simp
      exact hK.out _ _ rfl (Below.refl _ _)
    refine Jo.jcons (i := 7) (o := ⟨some 45, _, _, _, _, _⟩) (di := some 45) (L := [(some 44, 6)]) (f := Jo.Fact.eq (.pointer (some ⟨w.heap.size, 0, none⟩))) rfl rfl rfl rfl (fun vs wj hJ hd K hK => ?_) ?_
    · have d6 : (Jo.Fact.eq (.bool true)).P (vs 6) wj := hd 6 (by decide)
      clear hd
      simp only [Jo.putl, Jo.zd, Jo.ze, Act.put, Jo.za, Jo.zb, Jo.zc] at hK ⊢
      generalize vs 6 = u6 at hK d6 ⊢
      replace d6 : u6 = _ := d6
      subst d6
      go_simp
      exact hK.out _ _ rfl (Below.refl _ _)
    refine Jo.jcons (i := 8) (o := ⟨some 46, _, _, _, _, _⟩) (di := some 46) (L := [(some 44, 6), (some 45, 7)]) (f := Jo.Fact.eq (.int .i64 1)) rfl rfl rfl rfl (fun vs wj hJ hd K hK => ?_) ?_
    · have d6 : (Jo.Fact.eq (.bool true)).P (vs 6) wj := hd 6 (by decide)
      have d7 : (Jo.Fact.eq (.pointer (some ⟨w.heap.size, 0, none⟩))).P (vs 7) wj := hd 7 (by decide)
      clear hd
      simp only [Jo.putl, Jo.zd, Jo.ze, Act.put, Jo.za, Jo.zb, Jo.zc] at hK ⊢
      generalize vs 6 = u6 at hK d6 ⊢
      generalize vs 7 = u7 at hK d7 ⊢
      replace d6 : u6 = _ := d6
      subst d6
      replace d7 : u7 = _ := d7
      subst d7
      have xX00 : World.cell? wj ⟨w.heap.size, 0, none⟩ = some (.int .i64 1) := (X0.below hJ).cell 0
      have xX01 : World.cell? wj ⟨w.heap.size, 1, none⟩ = some (.bool s0) := (X0.below hJ).cell 1
      have xX02 : World.cell? wj ⟨w.heap.size, 2, none⟩ = some (.int .u64 M0) := (X0.below hJ).cell 2
      have xX03 : World.cell? wj ⟨w.heap.size, 3, none⟩ = some (.int .i64 E0) := (X0.below hJ).cell 3
      go_simp
      exact hK.out _ _ rfl (Below.refl _ _)
    refine Jo.jcons (i := 9) (o := ⟨some 47, _, _, _, _, _⟩) (di := some 47) (L := [(some 44, 6), (some 46, 8)]) (f := Jo.Fact.eq (.bool false)) rfl rfl rfl rfl (fun vs wj hJ hd K hK => ?_) ?_
    · have d6 : (Jo.Fact.eq (.bool true)).P (vs 6) wj := hd 6 (by decide)
      have d8 : (Jo.Fact.eq (.int .i64 1)).P (vs 8) wj := hd 8 (by decide)
      clear hd
      simp only [Jo.putl, Jo.zd, Jo.ze, Act.put, Jo.za, Jo.zb, Jo.zc] at hK ⊢
      generalize vs 6 = u6 at hK d6 ⊢
      generalize vs 8 = u8 at hK d8 ⊢
      replace d6 : u6 = _ := d6
      subst d6
      replace d8 : u8 = _ := d8
      subst d8
      go_simp
      exact hK.out _ _ (by first | rfl | (show Value.bool _ = Value.bool _; simp)) (Below.refl _ _)
    refine Jo.jcons (i := 10) (o := ⟨some 48, _, _, _, _, _⟩) (di := some 48) (L := [(some 44, 6), (some 47, 9)]) (f := Jo.Fact.eq (.bool false)) rfl rfl rfl rfl (fun vs wj hJ hd K hK => ?_) ?_
    · have d6 : (Jo.Fact.eq (.bool true)).P (vs 6) wj := hd 6 (by decide)
      have d9 : (Jo.Fact.eq (.bool false)).P (vs 9) wj := hd 9 (by decide)
      clear hd
      simp only [Jo.putl, Jo.zd, Jo.ze, Act.put, Jo.za, Jo.zb, Jo.zc] at hK ⊢
      generalize vs 6 = u6 at hK d6 ⊢
      generalize vs 9 = u9 at hK d9 ⊢
      replace d6 : u6 = _ := d6
      subst d6
      replace d9 : u9 = _ := d9
      subst d9
      go_simp
      exact hK.out _ _ rfl (Below.refl _ _)
    refine Jo.jcons (i := 11) (o := ⟨some 49, _, _, _, _, _⟩) (di := some 49) (L := [(some 48, 10)]) (f := Jo.Fact.eq (.agg #[.int .i64 1, .bool s0, .int .u64 M0, .int .i64 E0])) rfl rfl rfl rfl (fun vs wj hJ hd K hK => ?_) ?_
    · have d10 : (Jo.Fact.eq (.bool false)).P (vs 10) wj := hd 10 (by decide)
      clear hd
      simp only [Jo.putl, Jo.zd, Jo.ze, Act.put, Jo.za, Jo.zb, Jo.zc] at hK ⊢
      generalize vs 10 = u10 at hK d10 ⊢
      replace d10 : u10 = _ := d10
      subst d10
      have xX00 : World.cell? wj ⟨w.heap.size, 0, none⟩ = some (.int .i64 1) := (X0.below hJ).cell 0
      have xX01 : World.cell? wj ⟨w.heap.size, 1, none⟩ = some (.bool s0) := (X0.below hJ).cell 1
      have xX02 : World.cell? wj ⟨w.heap.size, 2, none⟩ = some (.int .u64 M0) := (X0.below hJ).cell 2
      have xX03 : World.cell? wj ⟨w.heap.size, 3, none⟩ = some (.int .i64 E0) := (X0.below hJ).cell 3
      go_simp
      exact hK.out _ _ rfl (Below.refl _ _)
    refine Jo.jcons (i := 12) (o := ⟨some 50, _, _, _, _, _⟩) (di := some 50) (L := [(some 48, 10)]) (f := Jo.Fact.eq (.agg #[.int .i64 1, .bool s0, .int .u64 M0, .int .i64 E0])) rfl rfl rfl rfl (fun vs wj hJ hd K hK => ?_) ?_
    · have d10 : (Jo.Fact.eq (.bool false)).P (vs 10) wj := hd 10 (by decide)
      clear hd
      simp only [Jo.putl, Jo.zd, Jo.ze, Act.put, Jo.za, Jo.zb, Jo.zc] at hK ⊢
      generalize vs 10 = u10 at hK d10 ⊢
      replace d10 : u10 = _ := d10
      subst d10
      have xX00 : World.cell? wj ⟨w.heap.size, 0, none⟩ = some (.int .i64 1) := (X0.below hJ).cell 0
      have xX01 : World.cell? wj ⟨w.heap.size, 1, none⟩ = some (.bool s0) := (X0.below hJ).cell 1
      have xX02 : World.cell? wj ⟨w.heap.size, 2, none⟩ = some (.int .u64 M0) := (X0.below hJ).cell 2
      have xX03 : World.cell? wj ⟨w.heap.size, 3, none⟩ = some (.int .i64 E0) := (X0.below hJ).cell 3
      go_simp
      exact hK.out _ _ rfl (Below.refl _ _)
    refine Jo.jcons (i := 13) (o := ⟨some 51, _, _, _, _, _⟩) (di := some 51) (L := [(some 48, 10)]) (f := Jo.Fact.eq (.bool b2)) rfl rfl rfl rfl (fun vs wj hJ hd K hK => ?_) ?_
    · have d10 : (Jo.Fact.eq (.bool false)).P (vs 10) wj := hd 10 (by decide)
      clear hd
      simp only [Jo.putl, Jo.zd, Jo.ze, Act.put, Jo.za, Jo.zb, Jo.zc] at hK ⊢
      generalize vs 10 = u10 at hK d10 ⊢
      replace d10 : u10 = _ := d10
      subst d10
      go_simp
      exact hK.out _ _ rfl (Below.refl _ _)
    refine Jo.jcons (i := 14) (o := ⟨some 52, _, _, _, _, _⟩) (di := some 52) (L := [(some 48, 10), (some 49, 11), (some 50, 12), (some 51, 13)]) (f := Jo.Fact.num o1) rfl rfl rfl rfl (fun vs wj hJ hd K hK => ?_) ?_
    · have d10 : (Jo.Fact.eq (.bool false)).P (vs 10) wj := hd 10 (by decide)
      have d11 : (Jo.Fact.eq (.agg #[.int .i64 1, .bool s0, .int .u64 M0, .int .i64 E0])).P (vs 11) wj := hd 11 (by decide)
      have d12 : (Jo.Fact.eq (.agg #[.int .i64 1, .bool s0, .int .u64 M0, .int .i64 E0])).P (vs 12) wj := hd 12 (by decide)
      have d13 : (Jo.Fact.eq (.bool b2)).P (vs 13) wj := hd 13 (by decide)
      clear hd
      simp only [Jo.putl, Jo.zd, Jo.ze, Act.put, Jo.za, Jo.zb, Jo.zc] at hK ⊢
      generalize vs 10 = u10 at hK d10 ⊢
      generalize vs 11 = u11 at hK d11 ⊢
      generalize vs 12 = u12 at hK d12 ⊢
      generalize vs 13 = u13 at hK d13 ⊢
      replace d10 : u10 = _ := d10
      subst d10
      replace d11 : u11 = _ := d11
      subst d11
      replace d12 : u12 = _ := d12
      subst d12
      replace d13 : u13 = _ := d13
      subst d13
      go_simp
      refine (kDiv (hT.below hJ) q.top q.top q.rk q.rk HSE.out).mono ?_
      rintro ee wk ⟨K5, s5, M5, E5, rfl, q5, B⟩
      exact hK.out _ _ ⟨K5, s5, M5, E5, rfl, q5⟩ B
    refine Jo.jcons (i := 15) (o := ⟨some 53, _, _, _, _, _⟩) (di := some 53) (L := [(some 48, 10)]) (f := Jo.Fact.eq (.agg #[.int .i64 K1, .bool s1, .int .u64 M1, .int .i64 E1])) rfl rfl rfl rfl (fun vs wj hJ hd K hK => ?_) ?_
    · have d10 : (Jo.Fact.eq (.bool false)).P (vs 10) wj := hd 10 (by decide)
      clear hd
      simp only [Jo.putl, Jo.zd, Jo.ze, Act.put, Jo.za, Jo.zb, Jo.zc] at hK ⊢
      generalize vs 10 = u10 at hK d10 ⊢
      replace d10 : u10 = _ := d10
      subst d10
      have xX80 : World.cell? wj ⟨w4.heap.size, 0, none⟩ = some (.int .i64 K1) := (X8.below hJ).cell 0
      have xX81 : World.cell? wj ⟨w4.heap.size, 1, none⟩ = some (.bool s1) := (X8.below hJ).cell 1
      have xX82 : World.cell? wj ⟨w4.heap.size, 2, none⟩ = some (.int .u64 M1) := (X8.below hJ).cell 2
      have xX83 : World.cell? wj ⟨w4.heap.size, 3, none⟩ = some (.int .i64 E1) := (X8.below hJ).cell 3
      go_simp
      exact hK.out _ _ rfl (Below.refl _ _)
    refine Jo.jcons (i := 16) (o := ⟨some 54, _, _, _, _, _⟩) (di := some 54) (L := [(some 48, 10), (some 52, 14), (some 53, 15)]) (f := Jo.Fact.eq (.bool true)) rfl rfl rfl rfl (fun vs wj hJ hd K hK => ?_) ?_
    · have d10 : (Jo.Fact.eq (.bool false)).P (vs 10) wj := hd 10 (by decide)
      have d14 : (Jo.Fact.num o1).P (vs 14) wj := hd 14 (by decide)
      have d15 : (Jo.Fact.eq (.agg #[.int .i64 K1, .bool s1, .int .u64 M1, .int .i64 E1])).P (vs 15) wj := hd 15 (by decide)
      clear hd
      simp only [Jo.putl, Jo.zd, Jo.ze, Act.put, Jo.za, Jo.zb, Jo.zc] at hK ⊢
      generalize vs 10 = u10 at hK d10 ⊢
      generalize vs 14 = u14 at hK d14 ⊢
      generalize vs 15 = u15 at hK d15 ⊢
      replace d10 : u10 = _ := d10
      subst d10
      obtain ⟨K5, s5, M5, E5, rfl, q5⟩ := d14
      replace d15 : u15 = _ := d15
      subst d15
      obtain ⟨rfl, rfl, rfl, rfl⟩ := q5.uniq q1
      go_simp
      exact hK.out _ _ (by first | rfl | (show Value.bool _ = Value.bool _; simp)) (Below.refl _ _)
    refine Jo.jcons (i := 17) (o := ⟨some 55, _, _, _, _, _⟩) (di := some 55) (L := [(some 44, 6), (some 48, 10), (some 54, 16)]) (f := Jo.Fact.eq (.bool true)) rfl rfl rfl rfl (fun vs wj hJ hd K hK => ?_) ?_
    · have d6 : (Jo.Fact.eq (.bool true)).P (vs 6) wj := hd 6 (by decide)
      have d10 : (Jo.Fact.eq (.bool false)).P (vs 10) wj := hd 10 (by decide)
      have d16 : (Jo.Fact.eq (.bool true)).P (vs 16) wj := hd 16 (by decide)
      clear hd
      simp only [Jo.putl, Jo.zd, Jo.ze, Act.put, Jo.za, Jo.zb, Jo.zc] at hK ⊢
      generalize vs 6 = u6 at hK d6 ⊢
      generalize vs 10 = u10 at hK d10 ⊢
      generalize vs 16 = u16 at hK d16 ⊢
      replace d6 : u6 = _ := d6
      subst d6
      replace d10 : u10 = _ := d10
      subst d10
      replace d16 : u16 = _ := d16
      subst d16
      go_simp
      exact hK.out _ _ rfl (Below.refl _ _)
    refine Jo.jcons (i := 18) (o := ⟨some 56, _, _, _, _, _⟩) (di := some 56) (L := [(some 44, 6), (some 55, 17)]) (f := Jo.Fact.eq (.bool true)) rfl rfl rfl rfl (fun vs wj hJ hd K hK => ?_) ?_
    · have d6 : (Jo.Fact.eq (.bool true)).P (vs 6) wj := hd 6 (by decide)
      have d17 : (Jo.Fact.eq (.bool true)).P (vs 17) wj := hd 17 (by decide)
      clear hd
      simp only [Jo.putl, Jo.zd, Jo.ze, Act.put, Jo.za, Jo.zb, Jo.zc] at hK ⊢
      generalize vs 6 = u6 at hK d6 ⊢
      generalize vs 17 = u17 at hK d17 ⊢
      replace d6 : u6 = _ := d6
      subst d6
      replace d17 : u17 = _ := d17
      subst d17
      go_simp
      exact hK.out _ _ rfl (Below.refl _ _)
    refine Jo.jcons (i := 19) (o := ⟨some 57, _, _, _, _, _⟩) (di := some 57) (L := [(some 56, 18)]) (f := Jo.Fact.eq (.bool true)) rfl rfl rfl rfl (fun vs wj hJ hd K hK => ?_) ?_
    · have d18 : (Jo.Fact.eq (.bool true)).P (vs 18) wj := hd 18 (by decide)
      clear hd
      simp only [Jo.putl, Jo.zd, Jo.ze, Act.put, Jo.za, Jo.zb, Jo.zc] at hK ⊢
      generalize vs 18 = u18 at hK d18 ⊢
      replace d18 : u18 = _ := d18
      subst d18
      go_simp
      exact hK.out _ _ rfl (Below.refl _ _)
    refine Jo.jcons (i := 20) (o := ⟨some 58, _, _, _, _, _⟩) (di := some 58) (L := [(some 57, 19)]) (f := Jo.Fact.eq (.bool true)) rfl rfl rfl rfl (fun vs wj hJ hd K hK => ?_) ?_
    · have d19 : (Jo.Fact.eq (.bool true)).P (vs 19) wj := hd 19 (by decide)
      clear hd
      simp only [Jo.putl, Jo.zd, Jo.ze, Act.put, Jo.za, Jo.zb, Jo.zc] at hK ⊢
      generalize vs 19 = u19 at hK d19 ⊢
      replace d19 : u19 = _ := d19
      subst d19
      go_simp
      exact hK.out _ _ rfl (Below.refl _ _)
    refine Jo.jcons (i := 21) (o := ⟨some 59, _, _, _, _, _⟩) (di := some 59) (L := [(some 57, 19), (some 58, 20)]) (f := Jo.Fact.eq (.bool true)) rfl rfl rfl rfl (fun vs wj hJ hd K hK => ?_) ?_
    · have d19 : (Jo.Fact.eq (.bool true)).P (vs 19) wj := hd 19 (by decide)
      have d20 : (Jo.Fact.eq (.bool true)).P (vs 20) wj := hd 20 (by decide)
      clear hd
      simp only [Jo.putl, Jo.zd, Jo.ze, Act.put, Jo.za, Jo.zb, Jo.zc] at hK ⊢
      generalize vs 19 = u19 at hK d19 ⊢
      generalize vs 20 = u20 at hK d20 ⊢
      replace d19 : u19 = _ := d19
      subst d19
      replace d20 : u20 = _ := d20
      subst d20
      go_simp
      exact hK.out _ _ rfl (Below.refl _ _)
    refine Jo.jcons (i := 22) (o := ⟨some 60, _, _, _, _, _⟩) (di := some 60) (L := [(some 59, 21)]) (f := Jo.Fact.eq (.bool true)) rfl rfl rfl rfl (fun vs wj hJ hd K hK => ?_) ?_
    · have d21 : (Jo.Fact.eq (.bool true)).P (vs 21) wj := hd 21 (by decide)
      clear hd
      simp only [Jo.putl, Jo.zd, Jo.ze, Act.put, Jo.za, Jo.zb, Jo.zc] at hK ⊢
      generalize vs 21 = u21 at hK d21 ⊢
      replace d21 : u21 = _ := d21
      subst d21
      go_simp
      exact hK.out _ _ rfl (Below.refl _ _)
    refine Jo.jcons (i := 23) (o := ⟨some 61, _, _, _, _, _⟩) (di := some 61) (L := [(some 60, 22)]) (f := Jo.Fact.eq (.agg #[.int .i64 K3, .bool s3, .int .u64 M3, .int .i64 E3])) rfl rfl rfl rfl (fun vs wj hJ hd K hK => ?_) ?_
    · have d22 : (Jo.Fact.eq (.bool true)).P (vs 22) wj := hd 22 (by decide)
      clear hd
      simp only [Jo.putl, Jo.zd, Jo.ze, Act.put, Jo.za, Jo.zb, Jo.zc] at hK ⊢
      generalize vs 22 = u22 at hK d22 ⊢
      replace d22 : u22 = _ := d22
      subst d22
      have xX90 : World.cell? wj ⟨w7.heap.size, 0, none⟩ = some (.int .i64 K3) := (X9.below hJ).cell 0
      have xX91 : World.cell? wj ⟨w7.heap.size, 1, none⟩ = some (.bool s3) := (X9.below hJ).cell 1
      have xX92 : World.cell? wj ⟨w7.heap.size, 2, none⟩ = some (.int .u64 M3) := (X9.below hJ).cell 2
      have xX93 : World.cell? wj ⟨w7.heap.size, 3, none⟩ = some (.int .i64 E3) := (X9.below hJ).cell 3
      go_simp
      exact hK.out _ _ rfl (Below.refl _ _)
    refine Jo.jcons (i := 24) (o := ⟨some 62, _, _, _, _, _⟩) (di := some 62) (L := [(some 60, 22)]) (f := Jo.Fact.eq (.int .i64 n1)) rfl rfl rfl rfl (fun vs wj hJ hd K hK => ?_) ?_
    · have d22 : (Jo.Fact.eq (.bool true)).P (vs 22) wj := hd 22 (by decide)
      clear hd
      simp only [Jo.putl, Jo.zd, Jo.ze, Act.put, Jo.za, Jo.zb, Jo.zc] at hK ⊢
      generalize vs 22 = u22 at hK d22 ⊢
      replace d22 : u22 = _ := d22
      subst d22
      go_simp
      exact hK.out _ _ rfl (Below.refl _ _)
    refine Jo.jcons (i := 25) (o := ⟨some 63, _, _, _, _, _⟩) (di := some 63) (L := [(some 60, 22), (some 62, 24)]) (f := Jo.Fact.num on) rfl rfl rfl rfl (fun vs wj hJ hd K hK => ?_) ?_
    · have d22 : (Jo.Fact.eq (.bool true)).P (vs 22) wj := hd 22 (by decide)
      have d24 : (Jo.Fact.eq (.int .i64 n1)).P (vs 24) wj := hd 24 (by decide)
      clear hd
      simp only [Jo.putl, Jo.zd, Jo.ze, Act.put, Jo.za, Jo.zb, Jo.zc] at hK ⊢
      generalize vs 22 = u22 at hK d22 ⊢
      generalize vs 24 = u24 at hK d24 ⊢
      replace d22 : u22 = _ := d22
      subst d22
      replace d24 : u24 = _ := d24
      subst d24
      go_simp
      refine (nOf _ HNB.out.1 HNB.out.2 HON.out).mono ?_
      rintro ee wk ⟨K6, s6, M6, E6, rfl, q6, B⟩
      exact hK.out _ _ ⟨K6, s6, M6, E6, rfl, q6⟩ B
    refine Jo.jcons (i := 26) (o := ⟨some 64, _, _, _, _, _⟩) (di := some 64) (L := [(some 60, 22), (some 61, 23), (some 63, 25)]) (f := Jo.Fact.eq (.bool true)) rfl rfl rfl rfl (fun vs wj hJ hd K hK => ?_) ?_
    · have d22 : (Jo.Fact.eq (.bool true)).P (vs 22) wj := hd 22 (by decide)
      have d23 : (Jo.Fact.eq (.agg #[.int .i64 K3, .bool s3, .int .u64 M3, .int .i64 E3])).P (vs 23) wj := hd 23 (by decide)
      have d25 : (Jo.Fact.num on).P (vs 25) wj := hd 25 (by decide)
      clear hd
      simp only [Jo.putl, Jo.zd, Jo.ze, Act.put, Jo.za, Jo.zb, Jo.zc] at hK ⊢
      generalize vs 22 = u22 at hK d22 ⊢
      generalize vs 23 = u23 at hK d23 ⊢
      generalize vs 25 = u25 at hK d25 ⊢
      replace d22 : u22 = _ := d22
      subst d22
      replace d23 : u23 = _ := d23
      subst d23
      obtain ⟨K6, s6, M6, E6, rfl, q6⟩ := d25
      obtain ⟨rfl, rfl, rfl, rfl⟩ := q3.uniq q6
      go_simp
      exact hK.out _ _ (by first | rfl | (show Value.bool _ = Value.bool _; simp)) (Below.refl _ _)
    refine Jo.jcons (i := 27) (o := ⟨some 65, _, _, _, _, _⟩) (di := some 65) (L := [(some 60, 22), (some 64, 26)]) (f := Jo.Fact.eq (.bool true)) rfl rfl rfl rfl (fun vs wj hJ hd K hK => ?_) ?_
    · have d22 : (Jo.Fact.eq (.bool true)).P (vs 22) wj := hd 22 (by decide)
      have d26 : (Jo.Fact.eq (.bool true)).P (vs 26) wj := hd 26 (by decide)
      clear hd
      simp only [Jo.putl, Jo.zd, Jo.ze, Act.put, Jo.za, Jo.zb, Jo.zc] at hK ⊢
      generalize vs 22 = u22 at hK d22 ⊢
      generalize vs 26 = u26 at hK d26 ⊢
      replace d22 : u22 = _ := d22
      subst d22
      replace d26 : u26 = _ := d26
      subst d26
      go_simp
      exact hK.out _ _ rfl (Below.refl _ _)
    refine Jo.jcons (i := 28) (o := ⟨some 6, _, _, _, _, _⟩) (di := some 6) (L := [(some 65, 27)]) (f := Jo.Fact.eq (.bool true)) rfl rfl rfl rfl (fun vs wj hJ hd K hK => ?_) ?_
    · have d27 : (Jo.Fact.eq (.bool true)).P (vs 27) wj := hd 27 (by decide)
      clear hd
      simp only [Jo.putl, Jo.zd, Jo.ze, Act.put, Jo.za, Jo.zb, Jo.zc] at hK ⊢
      generalize vs 27 = u27 at hK d27 ⊢
      replace d27 : u27 = _ := d27
      subst d27
      go_simp
      exact hK.out _ _ rfl (Below.refl _ _)
    exact Jo.Steps.nil
  have d0 : (Jo.Fact.eq (.agg #[.int .i64 1, .bool s0, .int .u64 M0, .int .i64 E0])).P (vs 0) w9 := hd 0 (by decide)
  have d1 : (Jo.Fact.eq (.agg #[.int .i64 K1, .bool s1, .int .u64 M1, .int .i64 E1])).P (vs 1) w9 := hd 1 (by decide)
  have d2 : (Jo.Fact.eq (.bool b2)).P (vs 2) w9 := hd 2 (by decide)
  have d3 : (Jo.Fact.num x).P (vs 3) w9 := hd 3 (by decide)
  have d4 : (Jo.Fact.eq (.agg #[.int .i64 1, .bool s0, .int .u64 M0, .int .i64 E0])).P (vs 4) w9 := hd 4 (by decide)
  have d5 : (Jo.Fact.eq (.bool true)).P (vs 5) w9 := hd 5 (by decide)
  have d6 : (Jo.Fact.eq (.bool true)).P (vs 6) w9 := hd 6 (by decide)
  have d7 : (Jo.Fact.eq (.pointer (some ⟨w.heap.size, 0, none⟩))).P (vs 7) w9 := hd 7 (by decide)
  have d8 : (Jo.Fact.eq (.int .i64 1)).P (vs 8) w9 := hd 8 (by decide)
  have d9 : (Jo.Fact.eq (.bool false)).P (vs 9) w9 := hd 9 (by decide)
  have d10 : (Jo.Fact.eq (.bool false)).P (vs 10) w9 := hd 10 (by decide)
  have d11 : (Jo.Fact.eq (.agg #[.int .i64 1, .bool s0, .int .u64 M0, .int .i64 E0])).P (vs 11) w9 := hd 11 (by decide)
  have d12 : (Jo.Fact.eq (.agg #[.int .i64 1, .bool s0, .int .u64 M0, .int .i64 E0])).P (vs 12) w9 := hd 12 (by decide)
  have d13 : (Jo.Fact.eq (.bool b2)).P (vs 13) w9 := hd 13 (by decide)
  have d14 : (Jo.Fact.num o1).P (vs 14) w9 := hd 14 (by decide)
  have d15 : (Jo.Fact.eq (.agg #[.int .i64 K1, .bool s1, .int .u64 M1, .int .i64 E1])).P (vs 15) w9 := hd 15 (by decide)
  have d16 : (Jo.Fact.eq (.bool true)).P (vs 16) w9 := hd 16 (by decide)
  have d17 : (Jo.Fact.eq (.bool true)).P (vs 17) w9 := hd 17 (by decide)
  have d18 : (Jo.Fact.eq (.bool true)).P (vs 18) w9 := hd 18 (by decide)
  have d19 : (Jo.Fact.eq (.bool true)).P (vs 19) w9 := hd 19 (by decide)
  have d20 : (Jo.Fact.eq (.bool true)).P (vs 20) w9 := hd 20 (by decide)
  have d21 : (Jo.Fact.eq (.bool true)).P (vs 21) w9 := hd 21 (by decide)
  have d22 : (Jo.Fact.eq (.bool true)).P (vs 22) w9 := hd 22 (by decide)
  have d23 : (Jo.Fact.eq (.agg #[.int .i64 K3, .bool s3, .int .u64 M3, .int .i64 E3])).P (vs 23) w9 := hd 23 (by decide)
  have d24 : (Jo.Fact.eq (.int .i64 n1)).P (vs 24) w9 := hd 24 (by decide)
  have d25 : (Jo.Fact.num on).P (vs 25) w9 := hd 25 (by decide)
  have d26 : (Jo.Fact.eq (.bool true)).P (vs 26) w9 := hd 26 (by decide)
  have d27 : (Jo.Fact.eq (.bool true)).P (vs 27) w9 := hd 27 (by decide)
  have d28 : (Jo.Fact.eq (.bool true)).P (vs 28) w9 := hd 28 (by decide)
  clear hd
  simp only [Jo.putl, Jo.zd, Jo.ze, Act.put, Jo.za, Jo.zb, Jo.zc]
  generalize vs 0 = u0 at d0 ⊢
  generalize vs 1 = u1 at d1 ⊢
  generalize vs 2 = u2 at d2 ⊢
  generalize vs 3 = u3 at d3 ⊢
  generalize vs 4 = u4 at d4 ⊢
  generalize vs 5 = u5 at d5 ⊢
  generalize vs 6 = u6 at d6 ⊢
  generalize vs 7 = u7 at d7 ⊢
  generalize vs 8 = u8 at d8 ⊢
  generalize vs 9 = u9 at d9 ⊢
  generalize vs 10 = u10 at d10 ⊢
  generalize vs 11 = u11 at d11 ⊢
  generalize vs 12 = u12 at d12 ⊢
  generalize vs 13 = u13 at d13 ⊢
  generalize vs 14 = u14 at d14 ⊢
  generalize vs 15 = u15 at d15 ⊢
  generalize vs 16 = u16 at d16 ⊢
  generalize vs 17 = u17 at d17 ⊢
  generalize vs 18 = u18 at d18 ⊢
  generalize vs 19 = u19 at d19 ⊢
  generalize vs 20 = u20 at d20 ⊢
  generalize vs 21 = u21 at d21 ⊢
  generalize vs 22 = u22 at d22 ⊢
  generalize vs 23 = u23 at d23 ⊢
  generalize vs 24 = u24 at d24 ⊢
  generalize vs 25 = u25 at d25 ⊢
  generalize vs 26 = u26 at d26 ⊢
  generalize vs 27 = u27 at d27 ⊢
  generalize vs 28 = u28 at d28 ⊢
  clear vs
  replace d0 : u0 = _ := d0
  subst d0
  replace d1 : u1 = _ := d1
  subst d1
  replace d2 : u2 = _ := d2
  subst d2
  obtain ⟨K4, s4, M4, E4, rfl, _⟩ := d3
  replace d4 : u4 = _ := d4
  subst d4
  replace d5 : u5 = _ := d5
  subst d5
  replace d6 : u6 = _ := d6
  subst d6
  replace d7 : u7 = _ := d7
  subst d7
  replace d8 : u8 = _ := d8
  subst d8
  replace d9 : u9 = _ := d9
  subst d9
  replace d10 : u10 = _ := d10
  subst d10
  replace d11 : u11 = _ := d11
  subst d11
  replace d12 : u12 = _ := d12
  subst d12
  replace d13 : u13 = _ := d13
  subst d13
  obtain ⟨K5, s5, M5, E5, rfl, _⟩ := d14
  replace d15 : u15 = _ := d15
  subst d15
  replace d16 : u16 = _ := d16
  subst d16
  replace d17 : u17 = _ := d17
  subst d17
  replace d18 : u18 = _ := d18
  subst d18
  replace d19 : u19 = _ := d19
  subst d19
  replace d20 : u20 = _ := d20
  subst d20
  replace d21 : u21 = _ := d21
  subst d21
  replace d22 : u22 = _ := d22
  subst d22
  replace d23 : u23 = _ := d23
  subst d23
  replace d24 : u24 = _ := d24
  subst d24
  obtain ⟨K6, s6, M6, E6, rfl, _⟩ := d25
  replace d26 : u26 = _ := d26
  subst d26
  replace d27 : u27 = _ := d27
  subst d27
  replace d28 : u28 = _ := d28
  subst d28
  replace X0 := X0.below hJ
  replace X8 := X8.below hJ
  replace X9 := X9.below hJ
  replace hT := hT.below hJ
  replace HB := Lib.hid (bt HB.out hJ)
  refine Jo.jdone (by kernel_rfl) ?_
  go_wp2
  go_ret
  exact ⟨rfl, HB.out⟩
set_option maxHeartbeats 8000000 in
theorem quotUnits_m2 (s0 : Bool) (M0 E0 x n1 : Int) (b2 : Bool) (w : World) (hT : Tab w) (q : Fq 2 s0 M0 E0 x) (hn0 : ¬ n1 < 0) (hn1 : ¬ 1000000000 < n1) :
    Calls Tryd.prog 6 #[.agg #[.int .i64 2, .bool s0, .int .u64 M0, .int .i64 E0], .int .i64 n1, .bool b2] w (PB w true) := by
  have bx := q.bd
  obtain ⟨o1, ho1⟩ : ∃ o, opl 1 = o := ⟨_, rfl⟩
  have HO1 : Hid (sgi (decide ((1 : Int) < 0)) (lo (1 : Int).natAbs 0) = o1) := Lib.hid ho1
  have HQ1 : Hid (Qt b2 x o1 x) := Lib.hid (by rw [← ho1]; exact qt_one bx.1 bx.2)
  obtain ⟨m, hm⟩ : ∃ m, n1 * n1 = m := ⟨_, rfl⟩
  have hmb : 0 ≤ m ∧ m ≤ 1000000000000000000 := by
    have a : n1 * n1 ≤ 1000000000 * 1000000000 := Int.mul_le_mul (by omega) (by omega) (by omega) (by decide)
    have b : 0 ≤ n1 * n1 := Int.mul_nonneg (by omega) (by omega)
    omega
  obtain ⟨on, hon⟩ : ∃ o, opl n1 = o := ⟨_, rfl⟩
  obtain ⟨om, hom⟩ : ∃ o, opl m = o := ⟨_, rfl⟩
  have HRO : Hid (Ro b2 om on true) := Lib.hid (by rw [← hom, ← hon]; exact ro_square (by omega) (by omega) hm)
  have HW : Hid (wrap64 (n1 * n1) = m) := Lib.hid (by rw [hm]; unfold wrap64; omega)
  have HON : Hid (sgi (decide (n1 < 0)) (lo n1.natAbs 0) = on) := Lib.hid hon
  have HOM : Hid (sgi (decide (m < 0)) (lo m.natAbs 0) = om) := Lib.hid hom
  have HM := Lib.hid (decide_eq_true q.1)
  have HNB := Lib.hid (show -9223372036854775808 ≤ n1 ∧ n1 ≤ 9223372036854775807 by omega)
  have HMB := Lib.hid (show -9223372036854775808 ≤ m ∧ m ≤ 9223372036854775807 by omega)
  clear bx ho1 hm hmb hon hom
  go_enter Tryd.func6, Tryd.ntmps6
  go_upto_region 1 with (fail)
  have X0 := (Bo.newAt w (g := w.heap.size) (by simp) #[.int .i64 2, .bool s0, .int .u64 M0, .int .i64 E0] 24)
  have HB := Lib.hid (bel1 w (.cells #[.int .i64 2, .bool s0, .int .u64 M0, .int .i64 E0] 24))
  replace hT := hT.below HB.out
  generalize hW1 : (w.alloc (.cells #[.int .i64 2, .bool s0, .int .u64 M0, .int .i64 E0] 24)) = w1 at *
  clear hW1
  go_wp2_with fail
  refine (awake7 hT).mono ?_
  rintro ee w2 ⟨rfl, B⟩
  replace X0 := X0.below B
  replace hT := hT.below B
  replace HB := Lib.hid (bt HB.out B)
  clear B
  have xX00 := X0.at (i := 0) (v := .int .i64 2) rfl
  have xX01 := X0.at (i := 1) (v := .bool s0) rfl
  have xX02 := X0.at (i := 2) (v := .int .u64 M0) rfl
  have xX03 := X0.at (i := 3) (v := .int .i64 E0) rfl
  go_wp2_with fail
  refine (nMay (r := true) HM.out).mono ?_
  rintro ee w3 ⟨rfl, B⟩
  clear xX00 xX01 xX02 xX03
  replace X0 := X0.below B
  replace hT := hT.below B
  replace HB := Lib.hid (bt HB.out B)
  clear B
  have xX00 := X0.at (i := 0) (v := .int .i64 2) rfl
  have xX01 := X0.at (i := 1) (v := .bool s0) rfl
  have xX02 := X0.at (i := 2) (v := .int .u64 M0) rfl
  have xX03 := X0.at (i := 3) (v := .int .i64 E0) rfl
  go_wp2_with fail
  refine (nOf _ (by decide) (by decide) HO1.out).mono ?_
  rintro ee w4 ⟨K1, s1, M1, E1, rfl, q1, B⟩
  clear xX00 xX01 xX02 xX03
  replace X0 := X0.below B
  replace hT := hT.below B
  replace HB := Lib.hid (bt HB.out B)
  clear B
  go_upto_region 5 with (fail)
  clear hn0 hn1
  have lX8 := Nat.le_refl (World.heap w4).size
  have nX8X0 := X0.lt
  replace X0 := X0.below (bel1 _ (.cells #[.int .i64 K1, .bool s1, .int .u64 M1, .int .i64 E1] 24))
  replace hT := hT.below (bel1 _ (.cells #[.int .i64 K1, .bool s1, .int .u64 M1, .int .i64 E1] 24))
  replace HB := Lib.hid (bt HB.out (bel1 _ (.cells #[.int .i64 K1, .bool s1, .int .u64 M1, .int .i64 E1] 24)))
  have X8 := Bo.new w4 #[.int .i64 K1, .bool s1, .int .u64 M1, .int .i64 E1] 24
  generalize hWn : World.alloc w4 (.cells #[.int .i64 K1, .bool s1, .int .u64 M1, .int .i64 E1] 24) = w5 at *
  clear hWn
  clear lX8
  go_wp2_with fail
  refine (nOf (r := om) _ (by rw [HW.out]; exact HMB.out.1) (by rw [HW.out]; exact HMB.out.2) (by rw [HW.out]; exact HOM.out)).mono ?_
  rintro ee w6 ⟨K2, s2, M2, E2, rfl, q2, B⟩
  replace X0 := X0.below B
  replace X8 := X8.below B
  replace hT := hT.below B
  replace HB := Lib.hid (bt HB.out B)
  clear B
  go_wp2_with fail
  refine (kRoot hT q2.top q2.rk HRO.out).mono ?_
  rintro ee w7 ⟨K3, s3, M3, E3, rfl, q3, B⟩
  replace X0 := X0.below B
  replace X8 := X8.below B
  replace hT := hT.below B
  replace HB := Lib.hid (bt HB.out B)
  clear B
  clear q2
  go_upto_region 6 with (fail)
  have lX9 := Nat.le_refl (World.heap w7).size
  have nX9X0 := X0.lt
  have nX9X8 := X8.lt
  replace X0 := X0.below (bel1 _ (.cells #[.int .i64 K3, .bool s3, .int .u64 M3, .int .i64 E3] 24))
  replace X8 := X8.below (bel1 _ (.cells #[.int .i64 K3, .bool s3, .int .u64 M3, .int .i64 E3] 24))
  replace hT := hT.below (bel1 _ (.cells #[.int .i64 K3, .bool s3, .int .u64 M3, .int .i64 E3] 24))
  replace HB := Lib.hid (bt HB.out (bel1 _ (.cells #[.int .i64 K3, .bool s3, .int .u64 M3, .int .i64 E3] 24)))
  have X9 := Bo.new w7 #[.int .i64 K3, .bool s3, .int .u64 M3, .int .i64 E3] 24
  generalize hWn : World.alloc w7 (.cells #[.int .i64 K3, .bool s3, .int .u64 M3, .int .i64 E3] 24) = w8 at *
  clear hWn
  clear lX9
  refine Jo.region_joint (T := [0, 1, 2, 3, 4, 5, 6, 7, 8, 9, 10, 11, 12, 13, 14, 15, 16, 17, 18, 19, 20, 21, 22, 23, 24, 25, 26, 27, 28]) (ds := [some 38, some 39, some 40, some 41, some 42, some 43, some 44, some 45, some 46, some 47, some 48, some 49, some 50, some 51, some 52, some 53, some 54, some 55, some 56, some 57, some 58, some 59, some 60, some 61, some 62, some 63, some 64, some 65, some 6]) (ls := [[], [], [], [0, 1, 2], [], [3, 4], [5], [6], [6, 7], [6, 8], [6, 9], [10], [10], [10], [10, 11, 12, 13], [10], [10, 14, 15], [6, 10, 16], [6, 17], [18], [19], [19, 20], [21], [22], [22], [22, 24], [22, 23, 25], [22, 26], [27]]) (k := 29) (L := [(some 38, 0), (some 39, 1), (some 40, 2), (some 41, 3), (some 42, 4), (some 43, 5), (some 44, 6), (some 45, 7), (some 46, 8), (some 47, 9), (some 48, 10), (some 49, 11), (some 50, 12), (some 51, 13), (some 52, 14), (some 53, 15), (some 54, 16), (some 55, 17), (some 56, 18), (some 57, 19), (some 58, 20), (some 59, 21), (some 60, 22), (some 61, 23), (some 62, 24), (some 63, 25), (some 64, 26), (some 65, 27), (some 6, 28)]) (fuel := 0) (J := fun wj => Below (World.heap w8).size w8 wj)
    (F := [Jo.Fact.eq (.agg #[.int .i64 2, .bool s0, .int .u64 M0, .int .i64 E0]), Jo.Fact.eq (.agg #[.int .i64 K1, .bool s1, .int .u64 M1, .int .i64 E1]), Jo.Fact.eq (.bool b2), Jo.Fact.num x, Jo.Fact.eq (.agg #[.int .i64 2, .bool s0, .int .u64 M0, .int .i64 E0]), Jo.Fact.eq (.bool true), Jo.Fact.eq (.bool true), Jo.Fact.eq (.pointer (some ⟨w.heap.size, 0, none⟩)), Jo.Fact.eq (.int .i64 2), Jo.Fact.eq (.bool true), Jo.Fact.eq (.bool true), Jo.Fact.eq undef, Jo.Fact.eq undef, Jo.Fact.eq undef, Jo.Fact.eq undef, Jo.Fact.eq undef, Jo.Fact.eq undef, Jo.Fact.eq (.bool true), Jo.Fact.eq (.bool true), Jo.Fact.eq (.bool true), Jo.Fact.eq (.bool true), Jo.Fact.eq (.bool true), Jo.Fact.eq (.bool true), Jo.Fact.eq (.agg #[.int .i64 K3, .bool s3, .int .u64 M3, .int .i64 E3]), Jo.Fact.eq (.int .i64 n1), Jo.Fact.num on, Jo.Fact.eq (.bool true), Jo.Fact.eq (.bool true), Jo.Fact.eq (.bool true)])
    (by kernel_rfl) (by kernel_rfl) (by decide) rfl rfl (fun _ _ h b => bt h b) ((Below.refl _ _).drew) ?_ (fun vs w9 hJ hd => ?_)
  · refine Jo.jcons (i := 0) (o := ⟨some 38, _, _, _, _, _⟩) (di := some 38) (L := []) (f := Jo.Fact.eq (.agg #[.int .i64 2, .bool s0, .int .u64 M0, .int .i64 E0])) rfl rfl rfl rfl (fun vs wj hJ hd K hK => ?_) ?_
    · clear hd
      simp only [Jo.putl, Jo.ze, Act.put, Jo.za, Jo.zb, Jo.zc] at hK ⊢
      have xX00 : World.cell? wj ⟨w.heap.size, 0, none⟩ = some (.int .i64 2) := (X0.below hJ).cell 0
      have xX01 : World.cell? wj ⟨w.heap.size, 1, none⟩ = some (.bool s0) := (X0.below hJ).cell 1
      have xX02 : World.cell? wj ⟨w.heap.size, 2, none⟩ = some (.int .u64 M0) := (X0.below hJ).cell 2
      have xX03 : World.cell? wj ⟨w.heap.size, 3, none⟩ = some (.int .i64 E0) := (X0.below hJ).cell 3
      go_simp
      exact hK.out _ _ rfl (Below.refl _ _)
    refine Jo.jcons (i := 1) (o := ⟨some 39, _, _, _, _, _⟩) (di := some 39) (L := []) (f := Jo.Fact.eq (.agg #[.int .i64 K1, .bool s1, .int .u64 M1, .int .i64 E1])) rfl rfl rfl rfl (fun vs wj hJ hd K hK => ?_) ?_
    · clear hd
      simp only [Jo.putl, Jo.ze, Act.put, Jo.za, Jo.zb, Jo.zc] at hK ⊢
      have xX80 : World.cell? wj ⟨w4.heap.size, 0, none⟩ = some (.int .i64 K1) := (X8.below hJ).cell 0
      have xX81 : World.cell? wj ⟨w4.heap.size, 1, none⟩ = some (.bool s1) := (X8.below hJ).cell 1
      have xX82 : World.cell? wj ⟨w4.heap.size, 2, none⟩ = some (.int .u64 M1) := (X8.below hJ).cell 2
      have xX83 : World.cell? wj ⟨w4.heap.size, 3, none⟩ = some (.int .i64 E1) := (X8.below hJ).cell 3
      go_simp
      exact hK.out _ _ rfl (Below.refl _ _)
    refine Jo.jcons (i := 2) (o := ⟨some 40, _, _, _, _, _⟩) (di := some 40) (L := []) (f := Jo.Fact.eq (.bool b2)) rfl rfl rfl rfl (fun vs wj hJ hd K hK => ?_) ?_
    · clear hd
      simp only [Jo.putl, Jo.ze, Act.put, Jo.za, Jo.zb, Jo.zc] at hK ⊢
      go_simp
      exact hK.out _ _ rfl (Below.refl _ _)
    refine Jo.jcons (i := 3) (o := ⟨some 41, _, _, _, _, _⟩) (di := some 41) (L := [(some 38, 0), (some 39, 1), (some 40, 2)]) (f := Jo.Fact.num x) rfl rfl rfl rfl (fun vs wj hJ hd K hK => ?_) ?_
    · have d0 : (Jo.Fact.eq (.agg #[.int .i64 2, .bool s0, .int .u64 M0, .int .i64 E0])).P (vs 0) wj := hd 0 (by decide)
      have d1 : (Jo.Fact.eq (.agg #[.int .i64 K1, .bool s1, .int .u64 M1, .int .i64 E1])).P (vs 1) wj := hd 1 (by decide)
      have d2 : (Jo.Fact.eq (.bool b2)).P (vs 2) wj := hd 2 (by decide)
      clear hd
      simp only [Jo.putl, Jo.zd, Jo.ze, Act.put, Jo.za, Jo.zb, Jo.zc] at hK ⊢
      generalize vs 0 = u0 at hK d0 ⊢
      generalize vs 1 = u1 at hK d1 ⊢
      generalize vs 2 = u2 at hK d2 ⊢
      replace d0 : u0 = _ := d0
      subst d0
      replace d1 : u1 = _ := d1
      subst d1
      replace d2 : u2 = _ := d2
      subst d2
      go_simp
      refine (kDiv (hT.below hJ) q.top q1.top q.rk q1.rk HQ1.out).mono ?_
      rintro ee wk ⟨K4, s4, M4, E4, rfl, q4, B⟩
      exact hK.out _ _ ⟨K4, s4, M4, E4, rfl, q4⟩ B
    refine Jo.jcons (i := 4) (o := ⟨some 42, _, _, _, _, _⟩) (di := some 42) (L := []) (f := Jo.Fact.eq (.agg #[.int .i64 2, .bool s0, .int .u64 M0, .int .i64 E0])) rfl rfl rfl rfl (fun vs wj hJ hd K hK => ?_) ?_
    · clear hd
      simp only [Jo.putl, Jo.ze, Act.put, Jo.za, Jo.zb, Jo.zc] at hK ⊢
      have xX00 : World.cell? wj ⟨w.heap.size, 0, none⟩ = some (.int .i64 2) := (X0.below hJ).cell 0
      have xX01 : World.cell? wj ⟨w.heap.size, 1, none⟩ = some (.bool s0) := (X0.below hJ).cell 1
      have xX02 : World.cell? wj ⟨w.heap.size, 2, none⟩ = some (.int .u64 M0) := (X0.below hJ).cell 2
      have xX03 : World.cell? wj ⟨w.heap.size, 3, none⟩ = some (.int .i64 E0) := (X0.below hJ).cell 3
      go_simp
      exact hK.out _ _ rfl (Below.refl _ _)
    refine Jo.jcons (i := 5) (o := ⟨some 43, _, _, _, _, _⟩) (di := some 43) (L := [(some 41, 3), (some 42, 4)]) (f := Jo.Fact.eq (.bool true)) rfl rfl rfl rfl (fun vs wj hJ hd K hK => ?_) ?_
    · have d3 : (Jo.Fact.num x).P (vs 3) wj := hd 3 (by decide)
      have d4 : (Jo.Fact.eq (.agg #[.int .i64 2, .bool s0, .int .u64 M0, .int .i64 E0])).P (vs 4) wj := hd 4 (by decide)
      clear hd
      simp only [Jo.putl, Jo.zd, Jo.ze, Act.put, Jo.za, Jo.zb, Jo.zc] at hK ⊢
      generalize vs 3 = u3 at hK d3 ⊢
      generalize vs 4 = u4 at hK d4 ⊢
      obtain ⟨K4, s4, M4, E4, rfl, q4⟩ := d3
      replace d4 : u4 = _ := d4
      subst d4
      obtain ⟨rfl, rfl, rfl, rfl⟩ := q4.uniq q
      go_simp
      exact hK.out _ _ (by first | rfl | (show Value.bool _ = Value.bool _; simp)) (Below.refl _ _)
    refine Jo.jcons (i := 6) (o := ⟨some 44, _, _, _, _, _⟩) (di := some 44) (L := [(some 43, 5)]) (f := Jo.Fact.eq (.bool true)) rfl rfl rfl rfl (fun vs wj hJ hd K hK => ?_) ?_
    · have d5 : (Jo.Fact.eq (.bool true)).P (vs 5) wj := hd 5 (by decide)
      clear hd
      simp only [Jo.putl, Jo.zd, Jo.ze, Act.put, Jo.za, Jo.zb, Jo.zc] at hK ⊢
      generalize vs 5 = u5 at hK d5 ⊢
      replace d5 : u5 = _ := d5
      subst d5
      go_simp
      exact hK.out _ _ rfl (Below.refl _ _)
    refine Jo.jcons (i := 7) (o := ⟨some 45, _, _, _, _, _⟩) (di := some 45) (L := [(some 44, 6)]) (f := Jo.Fact.eq (.pointer (some ⟨w.heap.size, 0, none⟩))) rfl rfl rfl rfl (fun vs wj hJ hd K hK => ?_) ?_
    · have d6 : (Jo.Fact.eq (.bool true)).P (vs 6) wj := hd 6 (by decide)
      clear hd
      simp only [Jo.putl, Jo.zd, Jo.ze, Act.put, Jo.za, Jo.zb, Jo.zc] at hK ⊢
      generalize vs 6 = u6 at hK d6 ⊢
      replace d6 : u6 = _ := d6
      subst d6
      go_simp
      exact hK.out _ _ rfl (Below.refl _ _)
    refine Jo.jcons (i := 8) (o := ⟨some 46, _, _, _, _, _⟩) (di := some 46) (L := [(some 44, 6), (some 45, 7)]) (f := Jo.Fact.eq (.int .i64 2)) rfl rfl rfl rfl (fun vs wj hJ hd K hK => ?_) ?_
    · have d6 : (Jo.Fact.eq (.bool true)).P (vs 6) wj := hd 6 (by decide)
      have d7 : (Jo.Fact.eq (.pointer (some ⟨w.heap.size, 0, none⟩))).P (vs 7) wj := hd 7 (by decide)
      clear hd
      simp only [Jo.putl, Jo.zd, Jo.ze, Act.put, Jo.za, Jo.zb, Jo.zc] at hK ⊢
      generalize vs 6 = u6 at hK d6 ⊢
      generalize vs 7 = u7 at hK d7 ⊢
      replace d6 : u6 = _ := d6
      subst d6
      replace d7 : u7 = _ := d7
      subst d7
      have xX00 : World.cell? wj ⟨w.heap.size, 0, none⟩ = some (.int .i64 2) := (X0.below hJ).cell 0
      have xX01 : World.cell? wj ⟨w.heap.size, 1, none⟩ = some (.bool s0) := (X0.below hJ).cell 1
      have xX02 : World.cell? wj ⟨w.heap.size, 2, none⟩ = some (.int .u64 M0) := (X0.below hJ).cell 2
      have xX03 : World.cell? wj ⟨w.heap.size, 3, none⟩ = some (.int .i64 E0) := (X0.below hJ).cell 3
      go_simp
      exact hK.out _ _ rfl (Below.refl _ _)
    refine Jo.jcons (i := 9) (o := ⟨some 47, _, _, _, _, _⟩) (di := some 47) (L := [(some 44, 6), (some 46, 8)]) (f := Jo.Fact.eq (.bool true)) rfl rfl rfl rfl (fun vs wj hJ hd K hK => ?_) ?_
    · have d6 : (Jo.Fact.eq (.bool true)).P (vs 6) wj := hd 6 (by decide)
      have d8 : (Jo.Fact.eq (.int .i64 2)).P (vs 8) wj := hd 8 (by decide)
      clear hd
      simp only [Jo.putl, Jo.zd, Jo.ze, Act.put, Jo.za, Jo.zb, Jo.zc] at hK ⊢
      generalize vs 6 = u6 at hK d6 ⊢
      generalize vs 8 = u8 at hK d8 ⊢
      replace d6 : u6 = _ := d6
      subst d6
      replace d8 : u8 = _ := d8
      subst d8
      go_simp
      exact hK.out _ _ (by first | rfl | (show Value.bool _ = Value.bool _; simp)) (Below.refl _ _)
    refine Jo.jcons (i := 10) (o := ⟨some 48, _, _, _, _, _⟩) (di := some 48) (L := [(some 44, 6), (some 47, 9)]) (f := Jo.Fact.eq (.bool true)) rfl rfl rfl rfl (fun vs wj hJ hd K hK => ?_) ?_
    · have d6 : (Jo.Fact.eq (.bool true)).P (vs 6) wj := hd 6 (by decide)
      have d9 : (Jo.Fact.eq (.bool true)).P (vs 9) wj := hd 9 (by decide)
      clear hd
      simp only [Jo.putl, Jo.zd, Jo.ze, Act.put, Jo.za, Jo.zb, Jo.zc] at hK ⊢
      generalize vs 6 = u6 at hK d6 ⊢
      generalize vs 9 = u9 at hK d9 ⊢
      replace d6 : u6 = _ := d6
      subst d6
      replace d9 : u9 = _ := d9
      subst d9
      go_simp
      exact hK.out _ _ rfl (Below.refl _ _)
    refine Jo.jcons (i := 11) (o := ⟨some 49, _, _, _, _, _⟩) (di := some 49) (L := [(some 48, 10)]) (f := Jo.Fact.eq undef) rfl rfl rfl rfl (fun vs wj hJ hd K hK => ?_) ?_
    · have d10 : (Jo.Fact.eq (.bool true)).P (vs 10) wj := hd 10 (by decide)
      clear hd
      simp only [Jo.putl, Jo.zd, Jo.ze, Act.put, Jo.za, Jo.zb, Jo.zc] at hK ⊢
      generalize vs 10 = u10 at hK d10 ⊢
      replace d10 : u10 = _ := d10
      subst d10
      go_simp
      exact hK.out _ _ rfl (Below.refl _ _)
    refine Jo.jcons (i := 12) (o := ⟨some 50, _, _, _, _, _⟩) (di := some 50) (L := [(some 48, 10)]) (f := Jo.Fact.eq undef) rfl rfl rfl rfl (fun vs wj hJ hd K hK => ?_) ?_
    · have d10 : (Jo.Fact.eq (.bool true)).P (vs 10) wj := hd 10 (by decide)
      clear hd
      simp only [Jo.putl, Jo.zd, Jo.ze, Act.put, Jo.za, Jo.zb, Jo.zc] at hK ⊢
      generalize vs 10 = u10 at hK d10 ⊢
      replace d10 : u10 = _ := d10
      subst d10
      go_simp
      exact hK.out _ _ rfl (Below.refl _ _)
    refine Jo.jcons (i := 13) (o := ⟨some 51, _, _, _, _, _⟩) (di := some 51) (L := [(some 48, 10)]) (f := Jo.Fact.eq undef) rfl rfl rfl rfl (fun vs wj hJ hd K hK => ?_) ?_
    · have d10 : (Jo.Fact.eq (.bool true)).P (vs 10) wj := hd 10 (by decide)
      clear hd
      simp only [Jo.putl, Jo.zd, Jo.ze, Act.put, Jo.za, Jo.zb, Jo.zc] at hK ⊢
      generalize vs 10 = u10 at hK d10 ⊢
      replace d10 : u10 = _ := d10
      subst d10
      go_simp
      exact hK.out _ _ rfl (Below.refl _ _)
    refine Jo.jcons (i := 14) (o := ⟨some 52, _, _, _, _, _⟩) (di := some 52) (L := [(some 48, 10), (some 49, 11), (some 50, 12), (some 51, 13)]) (f := Jo.Fact.eq undef) rfl rfl rfl rfl (fun vs wj hJ hd K hK => ?_) ?_
    · have d10 : (Jo.Fact.eq (.bool true)).P (vs 10) wj := hd 10 (by decide)
      have d11 : (Jo.Fact.eq undef).P (vs 11) wj := hd 11 (by decide)
      have d12 : (Jo.Fact.eq undef).P (vs 12) wj := hd 12 (by decide)
      have d13 : (Jo.Fact.eq undef).P (vs 13) wj := hd 13 (by decide)
      clear hd
      simp only [Jo.putl, Jo.zd, Jo.ze, Act.put, Jo.za, Jo.zb, Jo.zc] at hK ⊢
      generalize vs 10 = u10 at hK d10 ⊢
      generalize vs 11 = u11 at hK d11 ⊢
      generalize vs 12 = u12 at hK d12 ⊢
      generalize vs 13 = u13 at hK d13 ⊢
      replace d10 : u10 = _ := d10
      subst d10
      replace d11 : u11 = _ := d11
      subst d11
      replace d12 : u12 = _ := d12
      subst d12
      replace d13 : u13 = _ := d13
      subst d13
      go_simp
      exact hK.out _ _ rfl (Below.refl _ _)
    refine Jo.jcons (i := 15) (o := ⟨some 53, _, _, _, _, _⟩) (di := some 53) (L := [(some 48, 10)]) (f := Jo.Fact.eq undef) rfl rfl rfl rfl (fun vs wj hJ hd K hK => ?_) ?_
    · have d10 : (Jo.Fact.eq (.bool true)).P (vs 10) wj := hd 10 (by decide)
      clear hd
      simp only [Jo.putl, Jo.zd, Jo.ze, Act.put, Jo.za, Jo.zb, Jo.zc] at hK ⊢
      generalize vs 10 = u10 at hK d10 ⊢
      replace d10 : u10 = _ := d10
      subst d10
      go_simp
      exact hK.out _ _ rfl (Below.refl _ _)
    refine Jo.jcons (i := 16) (o := ⟨some 54, _, _, _, _, _⟩) (di := some 54) (L := [(some 48, 10), (some 52, 14), (some 53, 15)]) (f := Jo.Fact.eq undef) rfl rfl rfl rfl (fun vs wj hJ hd K hK => ?_) ?_
    · have d10 : (Jo.Fact.eq (.bool true)).P (vs 10) wj := hd 10 (by decide)
      have d14 : (Jo.Fact.eq undef).P (vs 14) wj := hd 14 (by decide)
      have d15 : (Jo.Fact.eq undef).P (vs 15) wj := hd 15 (by decide)
      clear hd
      simp only [Jo.putl, Jo.zd, Jo.ze, Act.put, Jo.za, Jo.zb, Jo.zc] at hK ⊢
      generalize vs 10 = u10 at hK d10 ⊢
      generalize vs 14 = u14 at hK d14 ⊢
      generalize vs 15 = u15 at hK d15 ⊢
      replace d10 : u10 = _ := d10
      subst d10
      replace d14 : u14 = _ := d14
      subst d14
      replace d15 : u15 = _ := d15
      subst d15
      go_simp
      exact hK.out _ _ rfl (Below.refl _ _)
    refine Jo.jcons (i := 17) (o := ⟨some 55, _, _, _, _, _⟩) (di := some 55) (L := [(some 44, 6), (some 48, 10), (some 54, 16)]) (f := Jo.Fact.eq (.bool true)) rfl rfl rfl rfl (fun vs wj hJ hd K hK => ?_) ?_
    · have d6 : (Jo.Fact.eq (.bool true)).P (vs 6) wj := hd 6 (by decide)
      have d10 : (Jo.Fact.eq (.bool true)).P (vs 10) wj := hd 10 (by decide)
      have d16 : (Jo.Fact.eq undef).P (vs 16) wj := hd 16 (by decide)
      clear hd
      simp only [Jo.putl, Jo.zd, Jo.ze, Act.put, Jo.za, Jo.zb, Jo.zc] at hK ⊢
      generalize vs 6 = u6 at hK d6 ⊢
      generalize vs 10 = u10 at hK d10 ⊢
      generalize vs 16 = u16 at hK d16 ⊢
      replace d6 : u6 = _ := d6
      subst d6
      replace d10 : u10 = _ := d10
      subst d10
      replace d16 : u16 = _ := d16
      subst d16
      go_simp
      exact hK.out _ _ rfl (Below.refl _ _)
    refine Jo.jcons (i := 18) (o := ⟨some 56, _, _, _, _, _⟩) (di := some 56) (L := [(some 44, 6), (some 55, 17)]) (f := Jo.Fact.eq (.bool true)) rfl rfl rfl rfl (fun vs wj hJ hd K hK => ?_) ?_
    · have d6 : (Jo.Fact.eq (.bool true)).P (vs 6) wj := hd 6 (by decide)
      have d17 : (Jo.Fact.eq (.bool true)).P (vs 17) wj := hd 17 (by decide)
      clear hd
      simp only [Jo.putl, Jo.zd, Jo.ze, Act.put, Jo.za, Jo.zb, Jo.zc] at hK ⊢
      generalize vs 6 = u6 at hK d6 ⊢
      generalize vs 17 = u17 at hK d17 ⊢
      replace d6 : u6 = _ := d6
      subst d6
      replace d17 : u17 = _ := d17
      subst d17
      go_simp
      exact hK.out _ _ rfl (Below.refl _ _)
    refine Jo.jcons (i := 19) (o := ⟨some 57, _, _, _, _, _⟩) (di := some 57) (L := [(some 56, 18)]) (f := Jo.Fact.eq (.bool true)) rfl rfl rfl rfl (fun vs wj hJ hd K hK => ?_) ?_
    · have d18 : (Jo.Fact.eq (.bool true)).P (vs 18) wj := hd 18 (by decide)
      clear hd
      simp only [Jo.putl, Jo.zd, Jo.ze, Act.put, Jo.za, Jo.zb, Jo.zc] at hK ⊢
      generalize vs 18 = u18 at hK d18 ⊢
      replace d18 : u18 = _ := d18
      subst d18
      go_simp
      exact hK.out _ _ rfl (Below.refl _ _)
    refine Jo.jcons (i := 20) (o := ⟨some 58, _, _, _, _, _⟩) (di := some 58) (L := [(some 57, 19)]) (f := Jo.Fact.eq (.bool true)) rfl rfl rfl rfl (fun vs wj hJ hd K hK => ?_) ?_
    · have d19 : (Jo.Fact.eq (.bool true)).P (vs 19) wj := hd 19 (by decide)
      clear hd
      simp only [Jo.putl, Jo.zd, Jo.ze, Act.put, Jo.za, Jo.zb, Jo.zc] at hK ⊢
      generalize vs 19 = u19 at hK d19 ⊢
      replace d19 : u19 = _ := d19
      subst d19
      go_simp
      exact hK.out _ _ rfl (Below.refl _ _)
    refine Jo.jcons (i := 21) (o := ⟨some 59, _, _, _, _, _⟩) (di := some 59) (L := [(some 57, 19), (some 58, 20)]) (f := Jo.Fact.eq (.bool true)) rfl rfl rfl rfl (fun vs wj hJ hd K hK => ?_) ?_
    · have d19 : (Jo.Fact.eq (.bool true)).P (vs 19) wj := hd 19 (by decide)
      have d20 : (Jo.Fact.eq (.bool true)).P (vs 20) wj := hd 20 (by decide)
      clear hd
      simp only [Jo.putl, Jo.zd, Jo.ze, Act.put, Jo.za, Jo.zb, Jo.zc] at hK ⊢
      generalize vs 19 = u19 at hK d19 ⊢
      generalize vs 20 = u20 at hK d20 ⊢
      replace d19 : u19 = _ := d19
      subst d19
      replace d20 : u20 = _ := d20
      subst d20
      go_simp
      exact hK.out _ _ rfl (Below.refl _ _)
    refine Jo.jcons (i := 22) (o := ⟨some 60, _, _, _, _, _⟩) (di := some 60) (L := [(some 59, 21)]) (f := Jo.Fact.eq (.bool true)) rfl rfl rfl rfl (fun vs wj hJ hd K hK => ?_) ?_
    · have d21 : (Jo.Fact.eq (.bool true)).P (vs 21) wj := hd 21 (by decide)
      clear hd
      simp only [Jo.putl, Jo.zd, Jo.ze, Act.put, Jo.za, Jo.zb, Jo.zc] at hK ⊢
      generalize vs 21 = u21 at hK d21 ⊢
      replace d21 : u21 = _ := d21
      subst d21
      go_simp
      exact hK.out _ _ rfl (Below.refl _ _)
    refine Jo.jcons (i := 23) (o := ⟨some 61, _, _, _, _, _⟩) (di := some 61) (L := [(some 60, 22)]) (f := Jo.Fact.eq (.agg #[.int .i64 K3, .bool s3, .int .u64 M3, .int .i64 E3])) rfl rfl rfl rfl (fun vs wj hJ hd K hK => ?_) ?_
    · have d22 : (Jo.Fact.eq (.bool true)).P (vs 22) wj := hd 22 (by decide)
      clear hd
      simp only [Jo.putl, Jo.zd, Jo.ze, Act.put, Jo.za, Jo.zb, Jo.zc] at hK ⊢
      generalize vs 22 = u22 at hK d22 ⊢
      replace d22 : u22 = _ := d22
      subst d22
      have xX90 : World.cell? wj ⟨w7.heap.size, 0, none⟩ = some (.int .i64 K3) := (X9.below hJ).cell 0
      have xX91 : World.cell? wj ⟨w7.heap.size, 1, none⟩ = some (.bool s3) := (X9.below hJ).cell 1
      have xX92 : World.cell? wj ⟨w7.heap.size, 2, none⟩ = some (.int .u64 M3) := (X9.below hJ).cell 2
      have xX93 : World.cell? wj ⟨w7.heap.size, 3, none⟩ = some (.int .i64 E3) := (X9.below hJ).cell 3
      go_simp
      exact hK.out _ _ rfl (Below.refl _ _)
    refine Jo.jcons (i := 24) (o := ⟨some 62, _, _, _, _, _⟩) (di := some 62) (L := [(some 60, 22)]) (f := Jo.Fact.eq (.int .i64 n1)) rfl rfl rfl rfl (fun vs wj hJ hd K hK => ?_) ?_
    · have d22 : (Jo.Fact.eq (.bool true)).P (vs 22) wj := hd 22 (by decide)
      clear hd
      simp only [Jo.putl, Jo.zd, Jo.ze, Act.put, Jo.za, Jo.zb, Jo.zc] at hK ⊢
      generalize vs 22 = u22 at hK d22 ⊢
      replace d22 : u22 = _ := d22
      subst d22
      go_simp
      exact hK.out _ _ rfl (Below.refl _ _)
    refine Jo.jcons (i := 25) (o := ⟨some 63, _, _, _, _, _⟩) (di := some 63) (L := [(some 60, 22), (some 62, 24)]) (f := Jo.Fact.num on) rfl rfl rfl rfl (fun vs wj hJ hd K hK => ?_) ?_
    · have d22 : (Jo.Fact.eq (.bool true)).P (vs 22) wj := hd 22 (by decide)
      have d24 : (Jo.Fact.eq (.int .i64 n1)).P (vs 24) wj := hd 24 (by decide)
      clear hd
      simp only [Jo.putl, Jo.zd, Jo.ze, Act.put, Jo.za, Jo.zb, Jo.zc] at hK ⊢
      generalize vs 22 = u22 at hK d22 ⊢
      generalize vs 24 = u24 at hK d24 ⊢
      replace d22 : u22 = _ := d22
      subst d22
      replace d24 : u24 = _ := d24
      subst d24
      go_simp
      refine (nOf _ HNB.out.1 HNB.out.2 HON.out).mono ?_
      rintro ee wk ⟨K6, s6, M6, E6, rfl, q6, B⟩
      exact hK.out _ _ ⟨K6, s6, M6, E6, rfl, q6⟩ B
    refine Jo.jcons (i := 26) (o := ⟨some 64, _, _, _, _, _⟩) (di := some 64) (L := [(some 60, 22), (some 61, 23), (some 63, 25)]) (f := Jo.Fact.eq (.bool true)) rfl rfl rfl rfl (fun vs wj hJ hd K hK => ?_) ?_
    · have d22 : (Jo.Fact.eq (.bool true)).P (vs 22) wj := hd 22 (by decide)
      have d23 : (Jo.Fact.eq (.agg #[.int .i64 K3, .bool s3, .int .u64 M3, .int .i64 E3])).P (vs 23) wj := hd 23 (by decide)
      have d25 : (Jo.Fact.num on).P (vs 25) wj := hd 25 (by decide)
      clear hd
      simp only [Jo.putl, Jo.zd, Jo.ze, Act.put, Jo.za, Jo.zb, Jo.zc] at hK ⊢
      generalize vs 22 = u22 at hK d22 ⊢
      generalize vs 23 = u23 at hK d23 ⊢
      generalize vs 25 = u25 at hK d25 ⊢
      replace d22 : u22 = _ := d22
      subst d22
      replace d23 : u23 = _ := d23
      subst d23
      obtain ⟨K6, s6, M6, E6, rfl, q6⟩ := d25
      obtain ⟨rfl, rfl, rfl, rfl⟩ := q3.uniq q6
      go_simp
      exact hK.out _ _ (by first | rfl | (show Value.bool _ = Value.bool _; simp)) (Below.refl _ _)
    refine Jo.jcons (i := 27) (o := ⟨some 65, _, _, _, _, _⟩) (di := some 65) (L := [(some 60, 22), (some 64, 26)]) (f := Jo.Fact.eq (.bool true)) rfl rfl rfl rfl (fun vs wj hJ hd K hK => ?_) ?_
    · have d22 : (Jo.Fact.eq (.bool true)).P (vs 22) wj := hd 22 (by decide)
      have d26 : (Jo.Fact.eq (.bool true)).P (vs 26) wj := hd 26 (by decide)
      clear hd
      simp only [Jo.putl, Jo.zd, Jo.ze, Act.put, Jo.za, Jo.zb, Jo.zc] at hK ⊢
      generalize vs 22 = u22 at hK d22 ⊢
      generalize vs 26 = u26 at hK d26 ⊢
      replace d22 : u22 = _ := d22
      subst d22
      replace d26 : u26 = _ := d26
      subst d26
      go_simp
      exact hK.out _ _ rfl (Below.refl _ _)
    refine Jo.jcons (i := 28) (o := ⟨some 6, _, _, _, _, _⟩) (di := some 6) (L := [(some 65, 27)]) (f := Jo.Fact.eq (.bool true)) rfl rfl rfl rfl (fun vs wj hJ hd K hK => ?_) ?_
    · have d27 : (Jo.Fact.eq (.bool true)).P (vs 27) wj := hd 27 (by decide)
      clear hd
      simp only [Jo.putl, Jo.zd, Jo.ze, Act.put, Jo.za, Jo.zb, Jo.zc] at hK ⊢
      generalize vs 27 = u27 at hK d27 ⊢
      replace d27 : u27 = _ := d27
      subst d27
      go_simp
      exact hK.out _ _ rfl (Below.refl _ _)
    exact Jo.Steps.nil
  have d0 : (Jo.Fact.eq (.agg #[.int .i64 2, .bool s0, .int .u64 M0, .int .i64 E0])).P (vs 0) w9 := hd 0 (by decide)
  have d1 : (Jo.Fact.eq (.agg #[.int .i64 K1, .bool s1, .int .u64 M1, .int .i64 E1])).P (vs 1) w9 := hd 1 (by decide)
  have d2 : (Jo.Fact.eq (.bool b2)).P (vs 2) w9 := hd 2 (by decide)
  have d3 : (Jo.Fact.num x).P (vs 3) w9 := hd 3 (by decide)
  have d4 : (Jo.Fact.eq (.agg #[.int .i64 2, .bool s0, .int .u64 M0, .int .i64 E0])).P (vs 4) w9 := hd 4 (by decide)
  have d5 : (Jo.Fact.eq (.bool true)).P (vs 5) w9 := hd 5 (by decide)
  have d6 : (Jo.Fact.eq (.bool true)).P (vs 6) w9 := hd 6 (by decide)
  have d7 : (Jo.Fact.eq (.pointer (some ⟨w.heap.size, 0, none⟩))).P (vs 7) w9 := hd 7 (by decide)
  have d8 : (Jo.Fact.eq (.int .i64 2)).P (vs 8) w9 := hd 8 (by decide)
  have d9 : (Jo.Fact.eq (.bool true)).P (vs 9) w9 := hd 9 (by decide)
  have d10 : (Jo.Fact.eq (.bool true)).P (vs 10) w9 := hd 10 (by decide)
  have d11 : (Jo.Fact.eq undef).P (vs 11) w9 := hd 11 (by decide)
  have d12 : (Jo.Fact.eq undef).P (vs 12) w9 := hd 12 (by decide)
  have d13 : (Jo.Fact.eq undef).P (vs 13) w9 := hd 13 (by decide)
  have d14 : (Jo.Fact.eq undef).P (vs 14) w9 := hd 14 (by decide)
  have d15 : (Jo.Fact.eq undef).P (vs 15) w9 := hd 15 (by decide)
  have d16 : (Jo.Fact.eq undef).P (vs 16) w9 := hd 16 (by decide)
  have d17 : (Jo.Fact.eq (.bool true)).P (vs 17) w9 := hd 17 (by decide)
  have d18 : (Jo.Fact.eq (.bool true)).P (vs 18) w9 := hd 18 (by decide)
  have d19 : (Jo.Fact.eq (.bool true)).P (vs 19) w9 := hd 19 (by decide)
  have d20 : (Jo.Fact.eq (.bool true)).P (vs 20) w9 := hd 20 (by decide)
  have d21 : (Jo.Fact.eq (.bool true)).P (vs 21) w9 := hd 21 (by decide)
  have d22 : (Jo.Fact.eq (.bool true)).P (vs 22) w9 := hd 22 (by decide)
  have d23 : (Jo.Fact.eq (.agg #[.int .i64 K3, .bool s3, .int .u64 M3, .int .i64 E3])).P (vs 23) w9 := hd 23 (by decide)
  have d24 : (Jo.Fact.eq (.int .i64 n1)).P (vs 24) w9 := hd 24 (by decide)
  have d25 : (Jo.Fact.num on).P (vs 25) w9 := hd 25 (by decide)
  have d26 : (Jo.Fact.eq (.bool true)).P (vs 26) w9 := hd 26 (by decide)
  have d27 : (Jo.Fact.eq (.bool true)).P (vs 27) w9 := hd 27 (by decide)
  have d28 : (Jo.Fact.eq (.bool true)).P (vs 28) w9 := hd 28 (by decide)
  clear hd
  simp only [Jo.putl, Jo.zd, Jo.ze, Act.put, Jo.za, Jo.zb, Jo.zc]
  generalize vs 0 = u0 at d0 ⊢
  generalize vs 1 = u1 at d1 ⊢
  generalize vs 2 = u2 at d2 ⊢
  generalize vs 3 = u3 at d3 ⊢
  generalize vs 4 = u4 at d4 ⊢
  generalize vs 5 = u5 at d5 ⊢
  generalize vs 6 = u6 at d6 ⊢
  generalize vs 7 = u7 at d7 ⊢
  generalize vs 8 = u8 at d8 ⊢
  generalize vs 9 = u9 at d9 ⊢
  generalize vs 10 = u10 at d10 ⊢
  generalize vs 11 = u11 at d11 ⊢
  generalize vs 12 = u12 at d12 ⊢
  generalize vs 13 = u13 at d13 ⊢
  generalize vs 14 = u14 at d14 ⊢
  generalize vs 15 = u15 at d15 ⊢
  generalize vs 16 = u16 at d16 ⊢
  generalize vs 17 = u17 at d17 ⊢
  generalize vs 18 = u18 at d18 ⊢
  generalize vs 19 = u19 at d19 ⊢
  generalize vs 20 = u20 at d20 ⊢
  generalize vs 21 = u21 at d21 ⊢
  generalize vs 22 = u22 at d22 ⊢
  generalize vs 23 = u23 at d23 ⊢
  generalize vs 24 = u24 at d24 ⊢
  generalize vs 25 = u25 at d25 ⊢
  generalize vs 26 = u26 at d26 ⊢
  generalize vs 27 = u27 at d27 ⊢
  generalize vs 28 = u28 at d28 ⊢
  clear vs
  replace d0 : u0 = _ := d0
  subst d0
  replace d1 : u1 = _ := d1
  subst d1
  replace d2 : u2 = _ := d2
  subst d2
  obtain ⟨K4, s4, M4, E4, rfl, _⟩ := d3
  replace d4 : u4 = _ := d4
  subst d4
  replace d5 : u5 = _ := d5
  subst d5
  replace d6 : u6 = _ := d6
  subst d6
  replace d7 : u7 = _ := d7
  subst d7
  replace d8 : u8 = _ := d8
  subst d8
  replace d9 : u9 = _ := d9
  subst d9
  replace d10 : u10 = _ := d10
  subst d10
  replace d11 : u11 = _ := d11
  subst d11
  replace d12 : u12 = _ := d12
  subst d12
  replace d13 : u13 = _ := d13
  subst d13
  replace d14 : u14 = _ := d14
  subst d14
  replace d15 : u15 = _ := d15
  subst d15
  replace d16 : u16 = _ := d16
  subst d16
  replace d17 : u17 = _ := d17
  subst d17
  replace d18 : u18 = _ := d18
  subst d18
  replace d19 : u19 = _ := d19
  subst d19
  replace d20 : u20 = _ := d20
  subst d20
  replace d21 : u21 = _ := d21
  subst d21
  replace d22 : u22 = _ := d22
  subst d22
  replace d23 : u23 = _ := d23
  subst d23
  replace d24 : u24 = _ := d24
  subst d24
  obtain ⟨K6, s6, M6, E6, rfl, _⟩ := d25
  replace d26 : u26 = _ := d26
  subst d26
  replace d27 : u27 = _ := d27
  subst d27
  replace d28 : u28 = _ := d28
  subst d28
  replace X0 := X0.below hJ
  replace X8 := X8.below hJ
  replace X9 := X9.below hJ
  replace hT := hT.below hJ
  replace HB := Lib.hid (bt HB.out hJ)
  refine Jo.jdone (by kernel_rfl) ?_
  go_wp2
  go_ret
  exact ⟨rfl, HB.out⟩

theorem quotUnits_walk (D0 : Int) (s0 : Bool) (M0 E0 : Int) (n1 : Int) (b2 : Bool) (w : World) (hT : Tab w) (w0 : 0 ≤ M0) (u0 : M0 < 18446744073709551616) (w1 : (Lit.int .i64 n1).wf = true)  :
    Calls Tryd.prog 6 #[.agg #[.int .i64 D0, .bool s0, .int .u64 M0, .int .i64 E0], .int .i64 n1, .bool b2] w fun e w' => e = .returned (.bool true) ∧ Below w.heap.size w w' := by
  by_cases hm : MayQ D0 s0 M0 E0
  · by_cases c1 : n1 < 0
    · exact quotUnits_lo D0 s0 M0 E0 n1 b2 w hT (decide_eq_true hm) c1
    · by_cases c2 : 1000000000 < n1
      · exact quotUnits_hi D0 s0 M0 E0 n1 b2 w hT (decide_eq_true hm) c1 c2
      · have q := rk_fq u0 hm
        have hk : D0 = 0 ∨ D0 = 1 ∨ D0 = 2 := by rcases q.cases with ⟨h, _⟩ | ⟨h, _⟩ | ⟨h, _⟩ <;> omega
        rcases hk with rfl | rfl | rfl
        · exact quotUnits_m0 s0 M0 E0 _ n1 b2 w hT q c1 c2
        · exact quotUnits_m1 s0 M0 E0 _ n1 b2 w hT q c1 c2
        · exact quotUnits_m2 s0 M0 E0 _ n1 b2 w hT q c1 c2
  · exact quotUnits_no D0 s0 M0 E0 n1 b2 w hT (decide_eq_false hm)
end Go.Proofs.YtpmakljahhhnfaaDoor
