/-
  Contracts and words that the statement's proof rests on, several texts in one: Il, In.
-/
import Derived.Test.YtpmakljahhhnfaaDoorYAat
import Derived.Test.YtpmakljahhhnfaaDoorYAbf
import Derived.Test.YtpmakljahhhnfaaDoorYAbg
/-
  What every statement of layer 7 begins with: the chapter's examples.
-/
namespace Go.Proofs.YtpmakljahhhnfaaDoor
open Go.RowKit
set_option linter.unusedVariables false
set_option linter.unusedSimpArgs false
set_option maxRecDepth 100000

theorem lit_five (W : World) : Rd (W.alloc (.cells #[.int .u32 5] 53)) (some ⟨W.heap.size, 0, none⟩) 1 1 5 :=
  ⟨_, [5], (Own.new W [5]).all (Lim.cons (by decide) Lim.nil) (by simp) (Nat.le_refl _), by decide⟩
set_option maxHeartbeats 8000000 in
theorem awake7 {w : World} (hT : Tab w) : Calls Tryd.prog 8 #[] w (PB w true) := by
  obtain ⟨l, h, tl, th, tn, t0, t1⟩ := third
  have h4 := root_four
  have hf := from_half
  have h1 := half_one
  obtain ⟨o1, e1⟩ : ∃ o, opl 1 = o := ⟨_, rfl⟩
  obtain ⟨o3, e3⟩ : ∃ o, opl 3 = o := ⟨_, rfl⟩
  obtain ⟨o4, e4⟩ : ∃ o, opl 4 = o := ⟨_, rfl⟩
  obtain ⟨o2, e2⟩ : ∃ o, opl 2 = o := ⟨_, rfl⟩
  rw [e1, e3] at tl th
  rw [e4, e2] at h4
  rw [e1] at h1
  obtain ⟨hv, ehv⟩ : ∃ v, hlf = v := ⟨_, rfl⟩
  have HHV := Lib.hid ehv
  rw [ehv] at hf
  have h1' : mulp true o1 hlf = hv := h1.trans ehv
  clear h1 ehv HHV
  have HO1 : Hid (sgi (decide ((1 : Int) < 0)) (lo (1 : Int).natAbs 0) = o1) := Lib.hid e1
  have HO3 : Hid (sgi (decide ((3 : Int) < 0)) (lo (3 : Int).natAbs 0) = o3) := Lib.hid e3
  have HO4 : Hid (sgi (decide ((4 : Int) < 0)) (lo (4 : Int).natAbs 0) = o4) := Lib.hid e4
  have HO2 : Hid (sgi (decide ((2 : Int) < 0)) (lo (2 : Int).natAbs 0) = o2) := Lib.hid e2
  have HL := Lib.hid tl
  have HH := Lib.hid th
  have HN := Lib.hid tn
  have HR4 := Lib.hid h4
  have HF : Hid (Fm false true (sg false 5) (-1) hv) := Lib.hid hf
  have HMY := Lib.hid may_half
  have HHF := Lib.hid h1'
  have HT0 := Lib.hid (And.intro t0 t1)
  clear tl th tn h4 hf h1' e1 e2 e3 e4 t0 t1
  go_enter Tryd.func8, Tryd.ntmps8
  have HB := Lib.hid (Below.refl w.heap.size w)
  go_wp2_with fail
  refine (nOf _ (by decide) (by decide) HO1.out).mono ?_
  rintro ee w1 ⟨K1, s1, M1, E1, rfl, q1, B⟩
  replace hT := hT.below B
  replace HB := Lib.hid (bt HB.out B)
  clear B
  go_wp2_with fail
  refine (nOf _ (by decide) (by decide) HO3.out).mono ?_
  rintro ee w2 ⟨K2, s2, M2, E2, rfl, q2, B⟩
  replace hT := hT.below B
  replace HB := Lib.hid (bt HB.out B)
  clear B
  go_wp2_with fail
  refine (kDiv hT q1.top q2.top q1.rk q2.rk HL.out).mono ?_
  rintro ee w3 ⟨K3, s3, M3, E3, rfl, q3, B⟩
  replace hT := hT.below B
  replace HB := Lib.hid (bt HB.out B)
  clear B
  obtain rfl : K3 = 1 := fin_one q3 HT0.out.1 HT0.out.2
  clear q1 q2
  go_upto_region 2 with (fail)
  have lX1 := Nat.le_refl (World.heap w3).size
  replace hT := hT.below (bel1 _ (.cells #[.int .i64 1, .bool s3, .int .u64 M3, .int .i64 E3] 24))
  replace HB := Lib.hid (bt HB.out (bel1 _ (.cells #[.int .i64 1, .bool s3, .int .u64 M3, .int .i64 E3] 24)))
  have X1 := Bo.new w3 #[.int .i64 1, .bool s3, .int .u64 M3, .int .i64 E3] 24
  generalize hWn : World.alloc w3 (.cells #[.int .i64 1, .bool s3, .int .u64 M3, .int .i64 E3] 24) = w4 at *
  clear hWn
  clear lX1
  go_wp2_with fail
  refine (nOf _ (by decide) (by decide) HO1.out).mono ?_
  rintro ee w5 ⟨K1, s1, M1, E1, rfl, q1, B⟩
  replace X1 := X1.below B
  replace hT := hT.below B
  replace HB := Lib.hid (bt HB.out B)
  clear B
  go_wp2_with fail
  refine (nOf _ (by decide) (by decide) HO3.out).mono ?_
  rintro ee w6 ⟨K2, s2, M2, E2, rfl, q2, B⟩
  replace X1 := X1.below B
  replace hT := hT.below B
  replace HB := Lib.hid (bt HB.out B)
  clear B
  go_wp2_with fail
  refine (kDiv hT q1.top q2.top q1.rk q2.rk HH.out).mono ?_
  rintro ee w7 ⟨K4, s4, M4, E4, rfl, q4, B⟩
  replace X1 := X1.below B
  replace hT := hT.below B
  replace HB := Lib.hid (bt HB.out B)
  clear B
  clear q1 q2
  go_upto_region 3 with (fail)
  have lX2 := Nat.le_refl (World.heap w7).size
  have nX2X1 := X1.lt
  replace X1 := X1.below (bel1 _ (.cells #[.int .i64 K4, .bool s4, .int .u64 M4, .int .i64 E4] 24))
  replace hT := hT.below (bel1 _ (.cells #[.int .i64 K4, .bool s4, .int .u64 M4, .int .i64 E4] 24))
  replace HB := Lib.hid (bt HB.out (bel1 _ (.cells #[.int .i64 K4, .bool s4, .int .u64 M4, .int .i64 E4] 24)))
  have X2 := Bo.new w7 #[.int .i64 K4, .bool s4, .int .u64 M4, .int .i64 E4] 24
  generalize hWn : World.alloc w7 (.cells #[.int .i64 K4, .bool s4, .int .u64 M4, .int .i64 E4] 24) = w8 at *
  clear hWn
  clear lX2
  go_wp2_with fail
  refine (nOf _ (by decide) (by decide) HO4.out).mono ?_
  rintro ee w9 ⟨K1, s1, M1, E1, rfl, q1, B⟩
  replace X1 := X1.below B
  replace X2 := X2.below B
  replace hT := hT.below B
  replace HB := Lib.hid (bt HB.out B)
  clear B
  go_wp2_with fail
  refine (kRoot hT q1.top q1.rk HR4.out).mono ?_
  rintro ee wA ⟨K5, s5, M5, E5, rfl, q5, B⟩
  replace X1 := X1.below B
  replace X2 := X2.below B
  replace hT := hT.below B
  replace HB := Lib.hid (bt HB.out B)
  clear B
  clear q1
  go_upto_region 4 with (fail)
  have lX3 := Nat.le_refl (World.heap wA).size
  have nX3X1 := X1.lt
  have nX3X2 := X2.lt
  replace X1 := X1.below (bel1 _ (.cells #[.int .i64 K5, .bool s5, .int .u64 M5, .int .i64 E5] 24))
  replace X2 := X2.below (bel1 _ (.cells #[.int .i64 K5, .bool s5, .int .u64 M5, .int .i64 E5] 24))
  replace hT := hT.below (bel1 _ (.cells #[.int .i64 K5, .bool s5, .int .u64 M5, .int .i64 E5] 24))
  replace HB := Lib.hid (bt HB.out (bel1 _ (.cells #[.int .i64 K5, .bool s5, .int .u64 M5, .int .i64 E5] 24)))
  have X3 := Bo.new wA #[.int .i64 K5, .bool s5, .int .u64 M5, .int .i64 E5] 24
  generalize hWn : World.alloc wA (.cells #[.int .i64 K5, .bool s5, .int .u64 M5, .int .i64 E5] 24) = wB at *
  clear hWn
  clear lX3
  go_wp2_with fail
  refine (kFrom (m := true) (hT.below (bel1 _ _)) (lit_five wB) (by decide) HMY.out HF.out).mono ?_
  rintro ee wC ⟨K6, s6, M6, E6, rfl, q6, B⟩
  replace B := bt (bel1 _ _) B
  replace X1 := X1.below B
  replace X2 := X2.below B
  replace X3 := X3.below B
  replace hT := hT.below B
  replace HB := Lib.hid (bt HB.out B)
  clear B
  go_upto_region 5 with (fail)
  have lX5 := Nat.le_refl (World.heap wC).size
  have nX5X1 := X1.lt
  have nX5X2 := X2.lt
  have nX5X3 := X3.lt
  replace X1 := X1.below (bel1 _ (.cells #[.int .i64 K6, .bool s6, .int .u64 M6, .int .i64 E6] 24))
  replace X2 := X2.below (bel1 _ (.cells #[.int .i64 K6, .bool s6, .int .u64 M6, .int .i64 E6] 24))
  replace X3 := X3.below (bel1 _ (.cells #[.int .i64 K6, .bool s6, .int .u64 M6, .int .i64 E6] 24))
  replace hT := hT.below (bel1 _ (.cells #[.int .i64 K6, .bool s6, .int .u64 M6, .int .i64 E6] 24))
  replace HB := Lib.hid (bt HB.out (bel1 _ (.cells #[.int .i64 K6, .bool s6, .int .u64 M6, .int .i64 E6] 24)))
  have X5 := Bo.new wC #[.int .i64 K6, .bool s6, .int .u64 M6, .int .i64 E6] 24
  generalize hWn : World.alloc wC (.cells #[.int .i64 K6, .bool s6, .int .u64 M6, .int .i64 E6] 24) = wD at *
  clear hWn
  clear lX5
  refine Jo.region_joint (T := [0, 1, 2, 3, 4, 5, 6, 7, 8, 9, 10, 11, 12, 13, 14, 15, 16, 17, 18, 19, 20, 21, 22, 23]) (ds := [some 21, some 22, some 23, some 24, some 25, some 26, some 27, some 28, some 29, some 30, some 31, some 32, some 33, some 34, some 35, some 36, some 37, some 38, some 39, some 40, some 41, some 42, some 43, some 0]) (ls := [[], [0], [1], [2], [3], [3, 4], [3], [3, 5, 6], [3, 7], [8], [9], [9, 10], [11], [12], [12], [12, 13, 14], [12, 15], [16], [17], [17], [17, 19], [17, 18, 20], [17, 21], [22]]) (k := 24) (L := [(some 21, 0), (some 22, 1), (some 23, 2), (some 24, 3), (some 25, 4), (some 26, 5), (some 27, 6), (some 28, 7), (some 29, 8), (some 30, 9), (some 31, 10), (some 32, 11), (some 33, 12), (some 34, 13), (some 35, 14), (some 36, 15), (some 37, 16), (some 38, 17), (some 39, 18), (some 40, 19), (some 41, 20), (some 42, 21), (some 43, 22), (some 0, 23)]) (fuel := 0) (J := fun wj => Below (World.heap wD).size wD wj)
    (F := [Jo.Fact.eq (.pointer (some ⟨w3.heap.size, 0, none⟩)), Jo.Fact.eq (.int .i64 1), Jo.Fact.eq (.bool true), Jo.Fact.eq (.bool true), Jo.Fact.eq (.agg #[.int .i64 1, .bool s3, .int .u64 M3, .int .i64 E3]), Jo.Fact.num h, Jo.Fact.eq (.agg #[.int .i64 K4, .bool s4, .int .u64 M4, .int .i64 E4]), Jo.Fact.eq (.bool true), Jo.Fact.eq (.bool true), Jo.Fact.eq (.bool true), Jo.Fact.eq (.bool true), Jo.Fact.eq (.bool true), Jo.Fact.eq (.bool true), Jo.Fact.eq (.agg #[.int .i64 K5, .bool s5, .int .u64 M5, .int .i64 E5]), Jo.Fact.num o2, Jo.Fact.eq (.bool true), Jo.Fact.eq (.bool true), Jo.Fact.eq (.bool true), Jo.Fact.eq (.agg #[.int .i64 K6, .bool s6, .int .u64 M6, .int .i64 E6]), Jo.Fact.num o1, Jo.Fact.num hv, Jo.Fact.eq (.bool true), Jo.Fact.eq (.bool true), Jo.Fact.eq (.bool true)])
    (by kernel_rfl) (by kernel_rfl) (by decide) rfl rfl (fun _ _ h b => bt h b) ((Below.refl _ _).drew) ?_ (fun vs wE hJ hd => ?_)
  · refine Jo.jcons (i := 0) (o := ⟨some 21, _, _, _, _, _⟩) (di := some 21) (L := []) (f := Jo.Fact.eq (.pointer (some ⟨w3.heap.size, 0, none⟩))) rfl rfl rfl rfl (fun vs wj hJ hd K hK => ?_) ?_
    · clear hd
      simp only [Jo.putl, Jo.ze, Act.put, Jo.za, Jo.zb, Jo.zc] at hK ⊢
      go_simp
      exact hK.out _ _ rfl (Below.refl _ _)
    refine Jo.jcons (i := 1) (o := ⟨some 22, _, _, _, _, _⟩) (di := some 22) (L := [(some 21, 0)]) (f := Jo.Fact.eq (.int .i64 1)) rfl rfl rfl rfl (fun vs wj hJ hd K hK => ?_) ?_
    · have d0 : (Jo.Fact.eq (.pointer (some ⟨w3.heap.size, 0, none⟩))).P (vs 0) wj := hd 0 (by decide)
      clear hd
      simp only [Jo.putl, Jo.zd, Jo.ze, Act.put, Jo.za, Jo.zb, Jo.zc] at hK ⊢
      generalize vs 0 = u0 at hK d0 ⊢
      replace d0 : u0 = _ := d0
      subst d0
      have xX10 : World.cell? wj ⟨w3.heap.size, 0, none⟩ = some (.int .i64 1) := (X1.below hJ).cell 0
      have xX11 : World.cell? wj ⟨w3.heap.size, 1, none⟩ = some (.bool s3) := (X1.below hJ).cell 1
      have xX12 : World.cell? wj ⟨w3.heap.size, 2, none⟩ = some (.int .u64 M3) := (X1.below hJ).cell 2
      have xX13 : World.cell? wj ⟨w3.heap.size, 3, none⟩ = some (.int .i64 E3) := (X1.below hJ).cell 3
      go_simp
      exact hK.out _ _ rfl (Below.refl _ _)
    refine Jo.jcons (i := 2) (o := ⟨some 23, _, _, _, _, _⟩) (di := some 23) (L := [(some 22, 1)]) (f := Jo.Fact.eq (.bool true)) rfl rfl rfl rfl (fun vs wj hJ hd K hK => ?_) ?_
    · have d1 : (Jo.Fact.eq (.int .i64 1)).P (vs 1) wj := hd 1 (by decide)
      clear hd
      simp only [Jo.putl, Jo.zd, Jo.ze, Act.put, Jo.za, Jo.zb, Jo.zc] at hK ⊢
      generalize vs 1 = u1 at hK d1 ⊢
      replace d1 : u1 = _ := d1
      subst d1
      go_simp
      exact hK.out _ _ (by first | rfl | (show Value.bool _ = Value.bool _; simp)) (Below.refl _ _)
    refine Jo.jcons (i := 3) (o := ⟨some 24, _, _, _, _, _⟩) (di := some 24) (L := [(some 23, 2)]) (f := Jo.Fact.eq (.bool true)) rfl rfl rfl rfl (fun vs wj hJ hd K hK => ?_) ?_
    · have d2 : (Jo.Fact.eq (.bool true)).P (vs 2) wj := hd 2 (by decide)
      clear hd
      simp only [Jo.putl, Jo.zd, Jo.ze, Act.put, Jo.za, Jo.zb, Jo.zc] at hK ⊢
      generalize vs 2 = u2 at hK d2 ⊢
      replace d2 : u2 = _ := d2
      subst d2
      go_simp
      exact hK.out _ _ rfl (Below.refl _ _)
    refine Jo.jcons (i := 4) (o := ⟨some 25, _, _, _, _, _⟩) (di := some 25) (L := [(some 24, 3)]) (f := Jo.Fact.eq (.agg #[.int .i64 1, .bool s3, .int .u64 M3, .int .i64 E3])) rfl rfl rfl rfl (fun vs wj hJ hd K hK => ?_) ?_
    · have d3 : (Jo.Fact.eq (.bool true)).P (vs 3) wj := hd 3 (by decide)
      clear hd
      simp only [Jo.putl, Jo.zd, Jo.ze, Act.put, Jo.za, Jo.zb, Jo.zc] at hK ⊢
      generalize vs 3 = u3 at hK d3 ⊢
      replace d3 : u3 = _ := d3
      subst d3
      have xX10 : World.cell? wj ⟨w3.heap.size, 0, none⟩ = some (.int .i64 1) := (X1.below hJ).cell 0
      have xX11 : World.cell? wj ⟨w3.heap.size, 1, none⟩ = some (.bool s3) := (X1.below hJ).cell 1
      have xX12 : World.cell? wj ⟨w3.heap.size, 2, none⟩ = some (.int .u64 M3) := (X1.below hJ).cell 2
      have xX13 : World.cell? wj ⟨w3.heap.size, 3, none⟩ = some (.int .i64 E3) := (X1.below hJ).cell 3
      go_simp
      exact hK.out _ _ rfl (Below.refl _ _)
    refine Jo.jcons (i := 5) (o := ⟨some 26, _, _, _, _, _⟩) (di := some 26) (L := [(some 24, 3), (some 25, 4)]) (f := Jo.Fact.num h) rfl rfl rfl rfl (fun vs wj hJ hd K hK => ?_) ?_
    · have d3 : (Jo.Fact.eq (.bool true)).P (vs 3) wj := hd 3 (by decide)
      have d4 : (Jo.Fact.eq (.agg #[.int .i64 1, .bool s3, .int .u64 M3, .int .i64 E3])).P (vs 4) wj := hd 4 (by decide)
      clear hd
      simp only [Jo.putl, Jo.zd, Jo.ze, Act.put, Jo.za, Jo.zb, Jo.zc] at hK ⊢
      generalize vs 3 = u3 at hK d3 ⊢
      generalize vs 4 = u4 at hK d4 ⊢
      replace d3 : u3 = _ := d3
      subst d3
      replace d4 : u4 = _ := d4
      subst d4
      go_simp
      refine (nNext (r := h) q3.top (by rw [q3.rk]; exact HN.out)).mono ?_
      rintro ee wk ⟨K7, s7, M7, E7, rfl, q7, B⟩
      exact hK.out _ _ ⟨K7, s7, M7, E7, rfl, q7⟩ B
    refine Jo.jcons (i := 6) (o := ⟨some 27, _, _, _, _, _⟩) (di := some 27) (L := [(some 24, 3)]) (f := Jo.Fact.eq (.agg #[.int .i64 K4, .bool s4, .int .u64 M4, .int .i64 E4])) rfl rfl rfl rfl (fun vs wj hJ hd K hK => ?_) ?_
    · have d3 : (Jo.Fact.eq (.bool true)).P (vs 3) wj := hd 3 (by decide)
      clear hd
      simp only [Jo.putl, Jo.zd, Jo.ze, Act.put, Jo.za, Jo.zb, Jo.zc] at hK ⊢
      generalize vs 3 = u3 at hK d3 ⊢
      replace d3 : u3 = _ := d3
      subst d3
      have xX20 : World.cell? wj ⟨w7.heap.size, 0, none⟩ = some (.int .i64 K4) := (X2.below hJ).cell 0
      have xX21 : World.cell? wj ⟨w7.heap.size, 1, none⟩ = some (.bool s4) := (X2.below hJ).cell 1
      have xX22 : World.cell? wj ⟨w7.heap.size, 2, none⟩ = some (.int .u64 M4) := (X2.below hJ).cell 2
      have xX23 : World.cell? wj ⟨w7.heap.size, 3, none⟩ = some (.int .i64 E4) := (X2.below hJ).cell 3
      go_simp
      exact hK.out _ _ rfl (Below.refl _ _)
    refine Jo.jcons (i := 7) (o := ⟨some 28, _, _, _, _, _⟩) (di := some 28) (L := [(some 24, 3), (some 26, 5), (some 27, 6)]) (f := Jo.Fact.eq (.bool true)) rfl rfl rfl rfl (fun vs wj hJ hd K hK => ?_) ?_
    · have d3 : (Jo.Fact.eq (.bool true)).P (vs 3) wj := hd 3 (by decide)
      have d5 : (Jo.Fact.num h).P (vs 5) wj := hd 5 (by decide)
      have d6 : (Jo.Fact.eq (.agg #[.int .i64 K4, .bool s4, .int .u64 M4, .int .i64 E4])).P (vs 6) wj := hd 6 (by decide)
      clear hd
      simp only [Jo.putl, Jo.zd, Jo.ze, Act.put, Jo.za, Jo.zb, Jo.zc] at hK ⊢
      generalize vs 3 = u3 at hK d3 ⊢
      generalize vs 5 = u5 at hK d5 ⊢
      generalize vs 6 = u6 at hK d6 ⊢
      replace d3 : u3 = _ := d3
      subst d3
      obtain ⟨K7, s7, M7, E7, rfl, q7⟩ := d5
      replace d6 : u6 = _ := d6
      subst d6
      obtain ⟨rfl, rfl, rfl, rfl⟩ := q7.uniq q4
      go_simp
      exact hK.out _ _ (by first | rfl | (show Value.bool _ = Value.bool _; simp)) (Below.refl _ _)
    refine Jo.jcons (i := 8) (o := ⟨some 29, _, _, _, _, _⟩) (di := some 29) (L := [(some 24, 3), (some 28, 7)]) (f := Jo.Fact.eq (.bool true)) rfl rfl rfl rfl (fun vs wj hJ hd K hK => ?_) ?_
    · have d3 : (Jo.Fact.eq (.bool true)).P (vs 3) wj := hd 3 (by decide)
      have d7 : (Jo.Fact.eq (.bool true)).P (vs 7) wj := hd 7 (by decide)
      clear hd
      simp only [Jo.putl, Jo.zd, Jo.ze, Act.put, Jo.za, Jo.zb, Jo.zc] at hK ⊢
      generalize vs 3 = u3 at hK d3 ⊢
      generalize vs 7 = u7 at hK d7 ⊢
      replace d3 : u3 = _ := d3
      subst d3
      replace d7 : u7 = _ := d7
      subst d7
      go_simp
      exact hK.out _ _ rfl (Below.refl _ _)
    refine Jo.jcons (i := 9) (o := ⟨some 30, _, _, _, _, _⟩) (di := some 30) (L := [(some 29, 8)]) (f := Jo.Fact.eq (.bool true)) rfl rfl rfl rfl (fun vs wj hJ hd K hK => ?_) ?_
    · have d8 : (Jo.Fact.eq (.bool true)).P (vs 8) wj := hd 8 (by decide)
      clear hd
      simp only [Jo.putl, Jo.zd, Jo.ze, Act.put, Jo.za, Jo.zb, Jo.zc] at hK ⊢
      generalize vs 8 = u8 at hK d8 ⊢
      replace d8 : u8 = _ := d8
      subst d8
      go_simp
      exact hK.out _ _ rfl (Below.refl _ _)
    refine Jo.jcons (i := 10) (o := ⟨some 31, _, _, _, _, _⟩) (di := some 31) (L := [(some 30, 9)]) (f := Jo.Fact.eq (.bool true)) rfl rfl rfl rfl (fun vs wj hJ hd K hK => ?_) ?_
    · have d9 : (Jo.Fact.eq (.bool true)).P (vs 9) wj := hd 9 (by decide)
      clear hd
      simp only [Jo.putl, Jo.zd, Jo.ze, Act.put, Jo.za, Jo.zb, Jo.zc] at hK ⊢
      generalize vs 9 = u9 at hK d9 ⊢
      replace d9 : u9 = _ := d9
      subst d9
      go_simp
      exact hK.out _ _ rfl (Below.refl _ _)
    refine Jo.jcons (i := 11) (o := ⟨some 32, _, _, _, _, _⟩) (di := some 32) (L := [(some 30, 9), (some 31, 10)]) (f := Jo.Fact.eq (.bool true)) rfl rfl rfl rfl (fun vs wj hJ hd K hK => ?_) ?_
    · have d9 : (Jo.Fact.eq (.bool true)).P (vs 9) wj := hd 9 (by decide)
      have d10 : (Jo.Fact.eq (.bool true)).P (vs 10) wj := hd 10 (by decide)
      clear hd
      simp only [Jo.putl, Jo.zd, Jo.ze, Act.put, Jo.za, Jo.zb, Jo.zc] at hK ⊢
      generalize vs 9 = u9 at hK d9 ⊢
      generalize vs 10 = u10 at hK d10 ⊢
      replace d9 : u9 = _ := d9
      subst d9
      replace d10 : u10 = _ := d10
      subst d10
      go_simp
      exact hK.out _ _ rfl (Below.refl _ _)
    refine Jo.jcons (i := 12) (o := ⟨some 33, _, _, _, _, _⟩) (di := some 33) (L := [(some 32, 11)]) (f := Jo.Fact.eq (.bool true)) rfl rfl rfl rfl (fun vs wj hJ hd K hK => ?_) ?_
    · have d11 : (Jo.Fact.eq (.bool true)).P (vs 11) wj := hd 11 (by decide)
      clear hd
      simp only [Jo.putl, Jo.zd, Jo.ze, Act.put, Jo.za, Jo.zb, Jo.zc] at hK ⊢
      generalize vs 11 = u11 at hK d11 ⊢
      replace d11 : u11 = _ := d11
      subst d11
      go_simp
      exact hK.out _ _ rfl (Below.refl _ _)
    refine Jo.jcons (i := 13) (o := ⟨some 34, _, _, _, _, _⟩) (di := some 34) (L := [(some 33, 12)]) (f := Jo.Fact.eq (.agg #[.int .i64 K5, .bool s5, .int .u64 M5, .int .i64 E5])) rfl rfl rfl rfl (fun vs wj hJ hd K hK => ?_) ?_
    · have d12 : (Jo.Fact.eq (.bool true)).P (vs 12) wj := hd 12 (by decide)
      clear hd
      simp only [Jo.putl, Jo.zd, Jo.ze, Act.put, Jo.za, Jo.zb, Jo.zc] at hK ⊢
      generalize vs 12 = u12 at hK d12 ⊢
      replace d12 : u12 = _ := d12
      subst d12
      have xX30 : World.cell? wj ⟨wA.heap.size, 0, none⟩ = some (.int .i64 K5) := (X3.below hJ).cell 0
      have xX31 : World.cell? wj ⟨wA.heap.size, 1, none⟩ = some (.bool s5) := (X3.below hJ).cell 1
      have xX32 : World.cell? wj ⟨wA.heap.size, 2, none⟩ = some (.int .u64 M5) := (X3.below hJ).cell 2
      have xX33 : World.cell? wj ⟨wA.heap.size, 3, none⟩ = some (.int .i64 E5) := (X3.below hJ).cell 3
      go_simp
      exact hK.out _ _ rfl (Below.refl _ _)
    refine Jo.jcons (i := 14) (o := ⟨some 35, _, _, _, _, _⟩) (di := some 35) (L := [(some 33, 12)]) (f := Jo.Fact.num o2) rfl rfl rfl rfl (fun vs wj hJ hd K hK => ?_) ?_
    · have d12 : (Jo.Fact.eq (.bool true)).P (vs 12) wj := hd 12 (by decide)
      clear hd
      simp only [Jo.putl, Jo.zd, Jo.ze, Act.put, Jo.za, Jo.zb, Jo.zc] at hK ⊢
      generalize vs 12 = u12 at hK d12 ⊢
      replace d12 : u12 = _ := d12
      subst d12
      go_simp
      refine (nOf _ (by decide) (by decide) HO2.out).mono ?_
      rintro ee wk ⟨K8, s8, M8, E8, rfl, q8, B⟩
      exact hK.out _ _ ⟨K8, s8, M8, E8, rfl, q8⟩ B
    refine Jo.jcons (i := 15) (o := ⟨some 36, _, _, _, _, _⟩) (di := some 36) (L := [(some 33, 12), (some 34, 13), (some 35, 14)]) (f := Jo.Fact.eq (.bool true)) rfl rfl rfl rfl (fun vs wj hJ hd K hK => ?_) ?_
    · have d12 : (Jo.Fact.eq (.bool true)).P (vs 12) wj := hd 12 (by decide)
      have d13 : (Jo.Fact.eq (.agg #[.int .i64 K5, .bool s5, .int .u64 M5, .int .i64 E5])).P (vs 13) wj := hd 13 (by decide)
      have d14 : (Jo.Fact.num o2).P (vs 14) wj := hd 14 (by decide)
      clear hd
      simp only [Jo.putl, Jo.zd, Jo.ze, Act.put, Jo.za, Jo.zb, Jo.zc] at hK ⊢
      generalize vs 12 = u12 at hK d12 ⊢
      generalize vs 13 = u13 at hK d13 ⊢
      generalize vs 14 = u14 at hK d14 ⊢
      replace d12 : u12 = _ := d12
      subst d12
      replace d13 : u13 = _ := d13
      subst d13
      obtain ⟨K8, s8, M8, E8, rfl, q8⟩ := d14
      obtain ⟨rfl, rfl, rfl, rfl⟩ := q5.uniq q8
      go_simp
      exact hK.out _ _ (by first | rfl | (show Value.bool _ = Value.bool _; simp)) (Below.refl _ _)
    refine Jo.jcons (i := 16) (o := ⟨some 37, _, _, _, _, _⟩) (di := some 37) (L := [(some 33, 12), (some 36, 15)]) (f := Jo.Fact.eq (.bool true)) rfl rfl rfl rfl (fun vs wj hJ hd K hK => ?_) ?_
    · have d12 : (Jo.Fact.eq (.bool true)).P (vs 12) wj := hd 12 (by decide)
      have d15 : (Jo.Fact.eq (.bool true)).P (vs 15) wj := hd 15 (by decide)
      clear hd
      simp only [Jo.putl, Jo.zd, Jo.ze, Act.put, Jo.za, Jo.zb, Jo.zc] at hK ⊢
      generalize vs 12 = u12 at hK d12 ⊢
      generalize vs 15 = u15 at hK d15 ⊢
      replace d12 : u12 = _ := d12
      subst d12
      replace d15 : u15 = _ := d15
      subst d15
      go_simp
      exact hK.out _ _ rfl (Below.refl _ _)
    refine Jo.jcons (i := 17) (o := ⟨some 38, _, _, _, _, _⟩) (di := some 38) (L := [(some 37, 16)]) (f := Jo.Fact.eq (.bool true)) rfl rfl rfl rfl (fun vs wj hJ hd K hK => ?_) ?_
    · have d16 : (Jo.Fact.eq (.bool true)).P (vs 16) wj := hd 16 (by decide)
      clear hd
      simp only [Jo.putl, Jo.zd, Jo.ze, Act.put, Jo.za, Jo.zb, Jo.zc] at hK ⊢
      generalize vs 16 = u16 at hK d16 ⊢
      replace d16 : u16 = _ := d16
      subst d16
      go_simp
      exact hK.out _ _ rfl (Below.refl _ _)
    refine Jo.jcons (i := 18) (o := ⟨some 39, _, _, _, _, _⟩) (di := some 39) (L := [(some 38, 17)]) (f := Jo.Fact.eq (.agg #[.int .i64 K6, .bool s6, .int .u64 M6, .int .i64 E6])) rfl rfl rfl rfl (fun vs wj hJ hd K hK => ?_) ?_
    · have d17 : (Jo.Fact.eq (.bool true)).P (vs 17) wj := hd 17 (by decide)
      clear hd
      simp only [Jo.putl, Jo.zd, Jo.ze, Act.put, Jo.za, Jo.zb, Jo.zc] at hK ⊢
      generalize vs 17 = u17 at hK d17 ⊢
      replace d17 : u17 = _ := d17
      subst d17
      have xX50 : World.cell? wj ⟨wC.heap.size, 0, none⟩ = some (.int .i64 K6) := (X5.below hJ).cell 0
      have xX51 : World.cell? wj ⟨wC.heap.size, 1, none⟩ = some (.bool s6) := (X5.below hJ).cell 1
      have xX52 : World.cell? wj ⟨wC.heap.size, 2, none⟩ = some (.int .u64 M6) := (X5.below hJ).cell 2
      have xX53 : World.cell? wj ⟨wC.heap.size, 3, none⟩ = some (.int .i64 E6) := (X5.below hJ).cell 3
      go_simp
      exact hK.out _ _ rfl (Below.refl _ _)
    refine Jo.jcons (i := 19) (o := ⟨some 40, _, _, _, _, _⟩) (di := some 40) (L := [(some 38, 17)]) (f := Jo.Fact.num o1) rfl rfl rfl rfl (fun vs wj hJ hd K hK => ?_) ?_
    · have d17 : (Jo.Fact.eq (.bool true)).P (vs 17) wj := hd 17 (by decide)
      clear hd
      simp only [Jo.putl, Jo.zd, Jo.ze, Act.put, Jo.za, Jo.zb, Jo.zc] at hK ⊢
      generalize vs 17 = u17 at hK d17 ⊢
      replace d17 : u17 = _ := d17
      subst d17
      go_simp
      refine (nOf _ (by decide) (by decide) HO1.out).mono ?_
      rintro ee wk ⟨K9, s9, M9, E9, rfl, q9, B⟩
      exact hK.out _ _ ⟨K9, s9, M9, E9, rfl, q9⟩ B
    refine Jo.jcons (i := 20) (o := ⟨some 41, _, _, _, _, _⟩) (di := some 41) (L := [(some 38, 17), (some 40, 19)]) (f := Jo.Fact.num hv) rfl rfl rfl rfl (fun vs wj hJ hd K hK => ?_) ?_
    · have d17 : (Jo.Fact.eq (.bool true)).P (vs 17) wj := hd 17 (by decide)
      have d19 : (Jo.Fact.num o1).P (vs 19) wj := hd 19 (by decide)
      clear hd
      simp only [Jo.putl, Jo.zd, Jo.ze, Act.put, Jo.za, Jo.zb, Jo.zc] at hK ⊢
      generalize vs 17 = u17 at hK d17 ⊢
      generalize vs 19 = u19 at hK d19 ⊢
      replace d17 : u17 = _ := d17
      subst d17
      obtain ⟨K9, s9, M9, E9, rfl, q9⟩ := d19
      go_simp
      refine (aHalf q9.top q9.rk HHF.out).mono ?_
      rintro ee wk ⟨K10, s10, M10, E10, rfl, q10, B⟩
      exact hK.out _ _ ⟨K10, s10, M10, E10, rfl, q10⟩ B
    refine Jo.jcons (i := 21) (o := ⟨some 42, _, _, _, _, _⟩) (di := some 42) (L := [(some 38, 17), (some 39, 18), (some 41, 20)]) (f := Jo.Fact.eq (.bool true)) rfl rfl rfl rfl (fun vs wj hJ hd K hK => ?_) ?_
    · have d17 : (Jo.Fact.eq (.bool true)).P (vs 17) wj := hd 17 (by decide)
      have d18 : (Jo.Fact.eq (.agg #[.int .i64 K6, .bool s6, .int .u64 M6, .int .i64 E6])).P (vs 18) wj := hd 18 (by decide)
      have d20 : (Jo.Fact.num hv).P (vs 20) wj := hd 20 (by decide)
      clear hd
      simp only [Jo.putl, Jo.zd, Jo.ze, Act.put, Jo.za, Jo.zb, Jo.zc] at hK ⊢
      generalize vs 17 = u17 at hK d17 ⊢
      generalize vs 18 = u18 at hK d18 ⊢
      generalize vs 20 = u20 at hK d20 ⊢
      replace d17 : u17 = _ := d17
      subst d17
      replace d18 : u18 = _ := d18
      subst d18
      obtain ⟨K10, s10, M10, E10, rfl, q10⟩ := d20
      obtain ⟨rfl, rfl, rfl, rfl⟩ := q6.uniq q10
      go_simp
      exact hK.out _ _ (by first | rfl | (show Value.bool _ = Value.bool _; simp)) (Below.refl _ _)
    refine Jo.jcons (i := 22) (o := ⟨some 43, _, _, _, _, _⟩) (di := some 43) (L := [(some 38, 17), (some 42, 21)]) (f := Jo.Fact.eq (.bool true)) rfl rfl rfl rfl (fun vs wj hJ hd K hK => ?_) ?_
    · have d17 : (Jo.Fact.eq (.bool true)).P (vs 17) wj := hd 17 (by decide)
      have d21 : (Jo.Fact.eq (.bool true)).P (vs 21) wj := hd 21 (by decide)
      clear hd
      simp only [Jo.putl, Jo.zd, Jo.ze, Act.put, Jo.za, Jo.zb, Jo.zc] at hK ⊢
      generalize vs 17 = u17 at hK d17 ⊢
      generalize vs 21 = u21 at hK d21 ⊢
      replace d17 : u17 = _ := d17
      subst d17
      replace d21 : u21 = _ := d21
      subst d21
      go_simp
      exact hK.out _ _ rfl (Below.refl _ _)
    refine Jo.jcons (i := 23) (o := ⟨some 0, _, _, _, _, _⟩) (di := some 0) (L := [(some 43, 22)]) (f := Jo.Fact.eq (.bool true)) rfl rfl rfl rfl (fun vs wj hJ hd K hK => ?_) ?_
    · have d22 : (Jo.Fact.eq (.bool true)).P (vs 22) wj := hd 22 (by decide)
      clear hd
      simp only [Jo.putl, Jo.zd, Jo.ze, Act.put, Jo.za, Jo.zb, Jo.zc] at hK ⊢
      generalize vs 22 = u22 at hK d22 ⊢
      replace d22 : u22 = _ := d22
      subst d22
      go_simp
      exact hK.out _ _ rfl (Below.refl _ _)
    exact Jo.Steps.nil
  have d0 : (Jo.Fact.eq (.pointer (some ⟨w3.heap.size, 0, none⟩))).P (vs 0) wE := hd 0 (by decide)
  have d1 : (Jo.Fact.eq (.int .i64 1)).P (vs 1) wE := hd 1 (by decide)
  have d2 : (Jo.Fact.eq (.bool true)).P (vs 2) wE := hd 2 (by decide)
  have d3 : (Jo.Fact.eq (.bool true)).P (vs 3) wE := hd 3 (by decide)
  have d4 : (Jo.Fact.eq (.agg #[.int .i64 1, .bool s3, .int .u64 M3, .int .i64 E3])).P (vs 4) wE := hd 4 (by decide)
  have d5 : (Jo.Fact.num h).P (vs 5) wE := hd 5 (by decide)
  have d6 : (Jo.Fact.eq (.agg #[.int .i64 K4, .bool s4, .int .u64 M4, .int .i64 E4])).P (vs 6) wE := hd 6 (by decide)
  have d7 : (Jo.Fact.eq (.bool true)).P (vs 7) wE := hd 7 (by decide)
  have d8 : (Jo.Fact.eq (.bool true)).P (vs 8) wE := hd 8 (by decide)
  have d9 : (Jo.Fact.eq (.bool true)).P (vs 9) wE := hd 9 (by decide)
  have d10 : (Jo.Fact.eq (.bool true)).P (vs 10) wE := hd 10 (by decide)
  have d11 : (Jo.Fact.eq (.bool true)).P (vs 11) wE := hd 11 (by decide)
  have d12 : (Jo.Fact.eq (.bool true)).P (vs 12) wE := hd 12 (by decide)
  have d13 : (Jo.Fact.eq (.agg #[.int .i64 K5, .bool s5, .int .u64 M5, .int .i64 E5])).P (vs 13) wE := hd 13 (by decide)
  have d14 : (Jo.Fact.num o2).P (vs 14) wE := hd 14 (by decide)
  have d15 : (Jo.Fact.eq (.bool true)).P (vs 15) wE := hd 15 (by decide)
  have d16 : (Jo.Fact.eq (.bool true)).P (vs 16) wE := hd 16 (by decide)
  have d17 : (Jo.Fact.eq (.bool true)).P (vs 17) wE := hd 17 (by decide)
  have d18 : (Jo.Fact.eq (.agg #[.int .i64 K6, .bool s6, .int .u64 M6, .int .i64 E6])).P (vs 18) wE := hd 18 (by decide)
  have d19 : (Jo.Fact.num o1).P (vs 19) wE := hd 19 (by decide)
  have d20 : (Jo.Fact.num hv).P (vs 20) wE := hd 20 (by decide)
  have d21 : (Jo.Fact.eq (.bool true)).P (vs 21) wE := hd 21 (by decide)
  have d22 : (Jo.Fact.eq (.bool true)).P (vs 22) wE := hd 22 (by decide)
  have d23 : (Jo.Fact.eq (.bool true)).P (vs 23) wE := hd 23 (by decide)
  clear hd
  simp only [Jo.putl, Jo.zd, Jo.ze, Act.put, Jo.za, Jo.zb, Jo.zc]
  generalize vs 0 = u0 at d0 ⊢
  generalize vs 1 = u1 at d1 ⊢
  generalize vs 2 = u2 at d2 ⊢
  generalize vs 3 = u3 at d3 ⊢
  generalize vs 4 = u4 at d4 ⊢
  generalize vs 5 = u5 at d5 ⊢
  generalize vs 6 = u6 at d6 ⊢
  generalize vs 7 = u7 at d7 ⊢
  generalize vs 8 = u8 at d8 ⊢
  generalize vs 9 = u9 at d9 ⊢
  generalize vs 10 = u10 at d10 ⊢
  generalize vs 11 = u11 at d11 ⊢
  generalize vs 12 = u12 at d12 ⊢
  generalize vs 13 = u13 at d13 ⊢
  generalize vs 14 = u14 at d14 ⊢
  generalize vs 15 = u15 at d15 ⊢
  generalize vs 16 = u16 at d16 ⊢
  generalize vs 17 = u17 at d17 ⊢
  generalize vs 18 = u18 at d18 ⊢
  generalize vs 19 = u19 at d19 ⊢
  generalize vs 20 = u20 at d20 ⊢
  generalize vs 21 = u21 at d21 ⊢
  generalize vs 22 = u22 at d22 ⊢
  generalize vs 23 = u23 at d23 ⊢
  clear vs
  replace d0 : u0 = _ := d0
  subst d0
  replace d1 : u1 = _ := d1
  subst d1
  replace d2 : u2 = _ := d2
  subst d2
  replace d3 : u3 = _ := d3
  subst d3
  replace d4 : u4 = _ := d4
  subst d4
  obtain ⟨K7, s7, M7, E7, rfl, _⟩ := d5
  replace d6 : u6 = _ := d6
  subst d6
  replace d7 : u7 = _ := d7
  subst d7
  replace d8 : u8 = _ := d8
  subst d8
  replace d9 : u9 = _ := d9
  subst d9
  replace d10 : u10 = _ := d10
  subst d10
  replace d11 : u11 = _ := d11
  subst d11
  replace d12 : u12 = _ := d12
  subst d12
  replace d13 : u13 = _ := d13
  subst d13
  obtain ⟨K8, s8, M8, E8, rfl, _⟩ := d14
  replace d15 : u15 = _ := d15
  subst d15
  replace d16 : u16 = _ := d16
  subst d16
  replace d17 : u17 = _ := d17
  subst d17
  replace d18 : u18 = _ := d18
  subst d18
  obtain ⟨K9, s9, M9, E9, rfl, _⟩ := d19
  obtain ⟨K10, s10, M10, E10, rfl, _⟩ := d20
  replace d21 : u21 = _ := d21
  subst d21
  replace d22 : u22 = _ := d22
  subst d22
  replace d23 : u23 = _ := d23
  subst d23
  replace X1 := X1.below hJ
  replace X2 := X2.below hJ
  replace X3 := X3.below hJ
  replace X5 := X5.below hJ
  replace hT := hT.below hJ
  replace HB := Lib.hid (bt HB.out hJ)
  refine Jo.jdone (by kernel_rfl) ?_
  go_wp2
  go_ret
  exact ⟨rfl, HB.out⟩
end Go.Proofs.YtpmakljahhhnfaaDoor

/-
  What QuotHolds and QuotSquares rest on: the two roots of a number not below nought; products of exact numbers, told apart. Plain arithmetic; no Go text.
-/
namespace Go.Proofs.YtpmakljahhhnfaaDoor
open Go.RowKit
set_option linter.unusedVariables false

theorem cmpI_np7 {x y : Int} (h : x ≤ y) : decide (cmpI x y ≤ 0) = true := decide_eq_true (by rcases cmpI_tri x y with ⟨a, b⟩ | ⟨a, b⟩ | ⟨a, b⟩ <;> rw [b] <;> omega)
theorem cmpI_nn7 {x y : Int} (h : y ≤ x) : decide (0 ≤ cmpI x y) = true := decide_eq_true (by rcases cmpI_tri x y with ⟨a, b⟩ | ⟨a, b⟩ | ⟨a, b⟩ <;> rw [b] <;> omega)
theorem nn_of_sign {x σ : Int} (h : cmpI x 0 = σ) (k : ¬ σ < 0) : 0 ≤ x := by rcases cmpI_tri x 0 with ⟨a, b⟩ | ⟨a, b⟩ | ⟨a, b⟩ <;> omega
theorem pos_of_sign {x σ : Int} (h : cmpI x 0 = σ) (k : ¬ σ ≤ 0) : 0 < x := by rcases cmpI_tri x 0 with ⟨a, b⟩ | ⟨a, b⟩ | ⟨a, b⟩ <;> omega
theorem neg_of_sign {x σ : Int} (h : cmpI x 0 = σ) (k : σ < 0) : x < 0 := by rcases cmpI_tri x 0 with ⟨a, b⟩ | ⟨a, b⟩ | ⟨a, b⟩ <;> omega
/-- A number that is exact, its exponent small: its place, its pair. -/
theorem few_exact {D : Int} {s : Bool} {M E x : Int} (hM : M < 18446744073709551616) (hx : rk D s M E = x) (ha : exb D s M E = true) (h1 : ¬ 1500 < E) (h2 : ¬ E < -1500) :
    -19342822337206103650074625 < x ∧ x < 19342822337206103650074625 ∧ Fit 1600 (ep x) ∧ exq D s M E = ep x := by
  have m0 : MayQ D s M E ∧ D ≠ 2 := by
    unfold exb at ha
    simpa using ha
  have q := rk_fq hM m0.1
  rw [hx] at q
  have hi : infp x = false := by rw [fq_inf q]; simpa using m0.2
  obtain ⟨x1, x2⟩ := infp_false q.bd.1 q.bd.2 hi
  have f : Fz x 1600 := by
    rw [← hx]
    refine few_fz hM ?_
    unfold fewq
    rw [decide_eq_true (show -1500 ≤ E by omega), decide_eq_true (show E ≤ 1500 by omega)]
    simp
  exact ⟨x1, x2, fz_fit f hi, exq_ep q ha⟩
/-- The two roots of a number that is not below nought. -/
theorem ro_holds {x r t : Int} (hx : 0 ≤ x) (x2 : x < 19342822337206103650074625) (fx : Fit 1600 (ep x)) (h : Ro false x r true) (k : Ro true x t true) :
    0 ≤ r ∧ r < 19342822337206103650074625 ∧ 0 ≤ t ∧ t < 19342822337206103650074625 ∧ vr r * vr r ≤ vr x * 2 ^ KK ∧ vr x * 2 ^ KK ≤ vr t * vr t ∧ (t = r ∨ t = r + 1) := by
  by_cases h0 : x = 0
  · subst h0
    obtain ⟨rfl, _⟩ := (ro_it (by decide) (.inl rfl)).1 h
    obtain ⟨rfl, _⟩ := (ro_it (by decide) (.inl rfl)).1 k
    rw [show vr 0 = 0 from rfl, Int.zero_mul, Int.zero_mul]
    exact ⟨by decide, by decide, by decide, by decide, by decide, by decide, .inl rfl⟩
  · have hn : ¬ (x = 0 ∨ infp x = true) := by
      rw [infp_fin (by omega) x2]
      rintro (c | c)
      · exact h0 c
      · cases c
    exact rt_holds (by omega) x2 fx ((ro_fin (by omega) hn).1 h).1 ((ro_fin (by omega) hn).1 k).1
theorem ro_t {up : Bool} {x : Int} (h1 : -19342822337206103650074625 ≤ x) (hx : 0 ≤ x) (r : Int) (t : Bool) (h : Ro up x r t) : t = true := by
  by_cases c : x = 0 ∨ infp x = true
  · exact ((ro_it (by omega) c).1 h).2
  · exact ((ro_fin (by omega) c).1 h).2
theorem rt_ex (up : Bool) {X : Int} (hX : 0 < X) : ∃ r, Rt up X r := by
  obtain ⟨n, hn⟩ : ∃ n : Nat, (n : Int) = 19342822337206103650074625 := ⟨19342822337206103650074625, rfl⟩
  obtain ⟨k, hk, a, b⟩ := last_yes (fun k => (k : Int) ≤ 19342822337206103650074624 ∧ vr (k : Int) * vr (k : Int) ≤ X) ⟨by decide, by rw [show vr ((0 : Nat) : Int) = 0 from rfl]; omega⟩ n (by omega)
  have b' : (k : Int) < 19342822337206103650074624 → X < vr ((k : Int) + 1) * vr ((k : Int) + 1) := fun c => by
    have d : ¬ vr ((k + 1 : Nat) : Int) * vr ((k + 1 : Nat) : Int) ≤ X := fun d => b ⟨by omega, d⟩
    rw [show ((k + 1 : Nat) : Int) = (k : Int) + 1 by omega] at d
    omega
  cases up
  · exact ⟨k, rt_f.2 ⟨by omega, a.1, a.2, b'⟩⟩
  · by_cases e : vr (k : Int) * vr (k : Int) = X
    · have k0 : 0 < (k : Int) := by
        rcases Int.lt_or_le 0 (k : Int) with q | q
        · exact q
        · exfalso
          rw [show (k : Int) = 0 by omega, show vr 0 = 0 from rfl] at e
          omega
      have s := sq_lt (vr_nn (x := (k : Int) - 1) (by omega)) (vr_lt (show (k : Int) - 1 < k by omega))
      exact ⟨k, rt_t.2 ⟨k0, by omega, fun _ => by omega, by omega⟩⟩
    · refine ⟨(k : Int) + 1, rt_t.2 ⟨by omega, by omega, fun c => Int.le_of_lt (b' (by omega)), ?_⟩⟩
      rw [show (k : Int) + 1 - 1 = k by omega]
      omega
theorem ro_ex (up : Bool) (x : Int) : ∃ r t, Ro up x r t := by
  by_cases c : x < 0
  · exact ⟨0, false, (ro_neg c).2 ⟨rfl, rfl⟩⟩
  · by_cases c2 : x = 0 ∨ infp x = true
    · exact ⟨x, true, (ro_it c c2).2 ⟨rfl, rfl⟩⟩
    · have hx : 0 < x := by omega
      obtain ⟨r, hr⟩ := rt_ex up (Int.mul_pos (vr_pos hx) (p2pos KK))
      exact ⟨r, true, (ro_fin c c2).2 ⟨hr, rfl⟩⟩
theorem ro_ex7 (up : Bool) {x : Int} (hx : 0 ≤ x) : ∃ r t, Ro up x r t := ro_ex up x
/-- A product of exact numbers next to an exact one, as Cmp tells it of pairs. -/
theorem pair_le {a y x A B N F : Int} (a1 : -19342822337206103650074625 < a) (a2 : a < 19342822337206103650074625) (y1 : -19342822337206103650074625 < y) (y2 : y < 19342822337206103650074625) (x1 : -19342822337206103650074625 < x) (x2 : x < 19342822337206103650074625)
    (h : vr a * vr y ≤ vr x * 2 ^ KK) (hA : (ml (ep a) (ep y)).1 = A) (hB : (ml (ep a) (ep y)).2 = B) (hx : mk N F = ep x) : decide (cmpI (vl (mk A B)) (vl (mk N F)) ≤ 0) = true := by
  rw [← hA, ← hB, hx]
  refine cmpI_np7 ?_
  have e : mk (ml (ep a) (ep y)).1 (ml (ep a) (ep y)).2 = ml (ep a) (ep y) := mk_nf _ _
  rw [e]
  exact mul_le_exact a1 a2 y1 y2 x1 x2 h
theorem pair_ge {a y x A B N F : Int} (a1 : -19342822337206103650074625 < a) (a2 : a < 19342822337206103650074625) (y1 : -19342822337206103650074625 < y) (y2 : y < 19342822337206103650074625) (x1 : -19342822337206103650074625 < x) (x2 : x < 19342822337206103650074625)
    (h : vr x * 2 ^ KK ≤ vr a * vr y) (hA : (ml (ep a) (ep y)).1 = A) (hB : (ml (ep a) (ep y)).2 = B) (hx : mk N F = ep x) : decide (0 ≤ cmpI (vl (mk A B)) (vl (mk N F))) = true := by
  rw [← hA, ← hB, hx]
  refine cmpI_nn7 ?_
  have e : mk (ml (ep a) (ep y)).1 (ml (ep a) (ep y)).2 = ml (ep a) (ep y) := mk_nf _ _
  rw [e]
  exact mul_ge_exact a1 a2 y1 y2 x1 x2 h
theorem exq_two {D : Int} {s : Bool} {M E r N F : Int} (q : Fq D s M E r) (h1 : -19342822337206103650074625 < r) (h2 : r < 19342822337206103650074625) (hN : (ep r).1 = N) (hF : (ep r).2 = F) : exb D s M E = true ∧ (exq D s M E).1 = N ∧ (exq D s M E).2 = F ∧ 0 ≤ M := by
  obtain ⟨a, _⟩ := exq_vl q h1 h2
  rw [exq_ep q a]
  exact ⟨a, hN, hF, by rcases q.cases with ⟨_, _, h, _⟩ | ⟨_, h, _⟩ | ⟨_, h, _⟩ <;> omega⟩
theorem fq_ne7 {D D' : Int} {s s' : Bool} {M M' E E' r r' : Int} (q : Fq D s M E r) (q' : Fq D' s' M' E' r') (h : r ≠ r') : D = D' → s = s' → M = M' → ¬ E = E' := by
  rintro rfl rfl rfl rfl
  exact h (q.2.2.symm.trans q'.2.2)
end Go.Proofs.YtpmakljahhhnfaaDoor
