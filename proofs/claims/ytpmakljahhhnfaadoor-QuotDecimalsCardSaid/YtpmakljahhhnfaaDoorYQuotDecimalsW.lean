/-
  The walk of QuotDecimals: for all arguments, where the table lies as it was laid, the call answers true, and nothing that was there has turned.
-/
import Derived.Test.YtpmakljahhhnfaaDoorYBay
import Derived.Test.YtpmakljahhhnfaaDoorYBbf
import Derived.Test.YtpmakljahhhnfaaDoorYBbg
namespace Go.Proofs.YtpmakljahhhnfaaDoor
open Go.RowKit
set_option linter.unusedVariables false
set_option linter.unusedSimpArgs false
set_option maxRecDepth 100000

set_option maxHeartbeats 8000000 in
theorem quotDecimals_psame (s0 : Bool) (a0 : Option Addr) (len0 cap0 : Nat) (e0 : Int) (s1 : Bool) (a1 : Option Addr) (len1 cap1 : Nat) (e1 : Int) (w : World) (a b : Nat) (l h lb hb κ : Int) (hT : Tab w) (h0 : Rd w a0 len0 cap0 a) (h1 : Rd w a1 len1 cap1 b) (k0 : len0 ≤ 10) (k1 : len1 ≤ 10) (m0 : mayC s0 len0 a e0 = true) (m1 : mayC s1 len1 b e1 = true)
    (hl : Fm false true (sg s0 a) e0 l) (hh : Fm true true (sg s0 a) e0 h) (hlb : Fm false true (sg s1 b) e1 lb) (hhb : Fm true true (sg s1 b) e1 hb) (hκ : cmpC true true (sg s0 a) e0 (sg s1 b) e1 = κ) (z0 : 0 < len0) (ht : h = l) :
    Calls Tryd.prog 5 #[.agg #[.bool s0, .slice a0 len0 cap0, .int .i64 e0], .agg #[.bool s1, .slice a1 len1 cap1, .int .i64 e1]] w (PB w true) := by
  have t0 : ¬ (10 : Int) < len0 := by omega
  have t1 : ¬ (10 : Int) < len1 := by omega
  obtain ⟨mo, eo⟩ := may_turn m0 h0.bound
  have hs : (decide (0 < len0) && !s0) = (!s0) := by
    rw [decide_eq_true z0, Bool.true_and]
  rw [hs] at mo eo
  have fo : Fm true true (sg (!s0) a) e0 (-l) := by
    rw [eo]
    exact fm_neg hl
  obtain ⟨c1, hc1⟩ : ∃ c, cmpI l h = c := ⟨_, rfl⟩
  obtain ⟨c2, hc2⟩ : ∃ c, cmpI l lb = c := ⟨_, rfl⟩
  obtain ⟨c3, hc3⟩ : ∃ c, cmpI h hb = c := ⟨_, rfl⟩
  have t3 : decide (0 < c1) = false := by
    rw [← hc1]
    refine decide_eq_false ?_
    rcases cmpI_tri l h with ⟨a, b⟩ | ⟨a, b⟩ | ⟨a, b⟩ <;> omega
  have t4 : κ ≤ 0 → decide (c2 ≤ 0) = true ∧ decide (c3 ≤ 0) = true := fun k => by
    have ks := cmpC_le hκ (by omega)
    rw [← hc2, ← hc3]
    exact ⟨cmpI_np7 (fm_mono ks hl hlb), cmpI_np7 (fm_mono ks hh hhb)⟩
  have ht2 := ht.symm
  subst ht2
  have HK : Hid (cmpC (mayC s0 len0 a e0) (mayC s1 len1 b e1) (sg s0 a) e0 (sg s1 b) e1 = κ) := Lib.hid (by rw [m0, m1, hκ])
  have HZ0 := Lib.hid z0
  have HM0 := Lib.hid m0
  have HM1 := Lib.hid m1
  have HMO := Lib.hid mo
  have HFO := Lib.hid fo
  have HL := Lib.hid hl
  have HH := Lib.hid hh
  have HLB := Lib.hid hlb
  have HHB_ := Lib.hid hhb
  have HC1 := Lib.hid hc1
  have HC2 := Lib.hid hc2
  have HC3 := Lib.hid hc3
  have HT3 := Lib.hid t3
  have HT4 := Lib.hid t4
  clear z0 m0 m1 hl hh hlb hhb hκ mo eo hs fo hc1 hc2 hc3 t3 t4
  go_enter Tryd.func5, Tryd.ntmps5
  go_upto_region 1 with (fail)
  have X0 := (Bo.newAt w (g := w.heap.size) (by simp) #[.bool s0, .slice a0 len0 cap0, .int .i64 e0] 43).below (bel1 _ (.cells #[.bool s1, .slice a1 len1 cap1, .int .i64 e1] 43))
  have X1 := (Bo.newAt (w.alloc (.cells #[.bool s0, .slice a0 len0 cap0, .int .i64 e0] 43)) (g := w.heap.size + 1) (by simp) #[.bool s1, .slice a1 len1 cap1, .int .i64 e1] 43)
  have HB := Lib.hid (bel2 w (.cells #[.bool s0, .slice a0 len0 cap0, .int .i64 e0] 43) (.cells #[.bool s1, .slice a1 len1 cap1, .int .i64 e1] 43))
  replace hT := hT.below HB.out
  replace h0 := h0.below HB.out
  replace h1 := h1.below HB.out
  generalize hW1 : ((w.alloc (.cells #[.bool s0, .slice a0 len0 cap0, .int .i64 e0] 43)).alloc (.cells #[.bool s1, .slice a1 len1 cap1, .int .i64 e1] 43)) = w1 at *
  clear hW1
  go_wp2_with fail
  refine (awake7 hT).mono ?_
  rintro ee w2 ⟨rfl, B⟩
  replace X0 := X0.below B
  replace X1 := X1.below B
  replace hT := hT.below B
  replace h0 := h0.below B
  replace h1 := h1.below B
  replace HB := Lib.hid (bt HB.out B)
  clear B
  have xX00 := X0.a 0 (.bool s0) rfl
  have xX01 := X0.a 1 (.slice a0 len0 cap0) rfl
  have xX02 := X0.a 2 (.int .i64 e0) rfl
  have xX10 := X1.a 0 (.bool s1) rfl
  have xX11 := X1.a 1 (.slice a1 len1 cap1) rfl
  have xX12 := X1.a 2 (.int .i64 e1) rfl
  go_upto_region 4 with (fail)
  clear t0 t1
  clear xX00 xX01 xX02 xX10 xX11 xX12
  have xX00 := X0.a 0 (.bool s0) rfl
  have xX01 := X0.a 1 (.slice a0 len0 cap0) rfl
  have xX02 := X0.a 2 (.int .i64 e0) rfl
  have xX10 := X1.a 0 (.bool s1) rfl
  have xX11 := X1.a 1 (.slice a1 len1 cap1) rfl
  have xX12 := X1.a 2 (.int .i64 e1) rfl
  go_wp2_with fail
  refine (vMayD h0 (by omega) HM0.out).mono ?_
  rintro ee w3 ⟨rfl, B⟩
  clear xX00 xX01 xX02 xX10 xX11 xX12
  replace X0 := X0.below B
  replace X1 := X1.below B
  replace hT := hT.below B
  replace h0 := h0.below B
  replace h1 := h1.below B
  replace HB := Lib.hid (bt HB.out B)
  clear B
  have xX00 := X0.a 0 (.bool s0) rfl
  have xX01 := X0.a 1 (.slice a0 len0 cap0) rfl
  have xX02 := X0.a 2 (.int .i64 e0) rfl
  have xX10 := X1.a 0 (.bool s1) rfl
  have xX11 := X1.a 1 (.slice a1 len1 cap1) rfl
  have xX12 := X1.a 2 (.int .i64 e1) rfl
  go_wp2_with fail
  refine (vMayD h1 (by omega) HM1.out).mono ?_
  rintro ee w4 ⟨rfl, B⟩
  clear xX00 xX01 xX02 xX10 xX11 xX12
  replace X0 := X0.below B
  replace X1 := X1.below B
  replace hT := hT.below B
  replace h0 := h0.below B
  replace h1 := h1.below B
  replace HB := Lib.hid (bt HB.out B)
  clear B
  have xX00 := X0.a 0 (.bool s0) rfl
  have xX01 := X0.a 1 (.slice a0 len0 cap0) rfl
  have xX02 := X0.a 2 (.int .i64 e0) rfl
  go_wp2_with fail
  refine (kFrom hT h0 (by omega) HM0.out HL.out).mono ?_
  rintro ee w5 ⟨K3, s3, M3, E3, rfl, q3, B⟩
  clear xX00 xX01 xX02
  replace X0 := X0.below B
  replace X1 := X1.below B
  replace hT := hT.below B
  replace h0 := h0.below B
  replace h1 := h1.below B
  replace HB := Lib.hid (bt HB.out B)
  clear B
  go_upto_region 7 with (fail)
  have lX6 := Nat.le_refl (World.heap w5).size
  have nX6X0 := X0.lt
  have nX6X1 := X1.lt
  replace X0 := X0.below (bel1 _ (.cells #[.int .i64 K3, .bool s3, .int .u64 M3, .int .i64 E3] 24))
  replace X1 := X1.below (bel1 _ (.cells #[.int .i64 K3, .bool s3, .int .u64 M3, .int .i64 E3] 24))
  replace hT := hT.below (bel1 _ (.cells #[.int .i64 K3, .bool s3, .int .u64 M3, .int .i64 E3] 24))
  replace h0 := h0.below (bel1 _ (.cells #[.int .i64 K3, .bool s3, .int .u64 M3, .int .i64 E3] 24))
  replace h1 := h1.below (bel1 _ (.cells #[.int .i64 K3, .bool s3, .int .u64 M3, .int .i64 E3] 24))
  replace HB := Lib.hid (bt HB.out (bel1 _ (.cells #[.int .i64 K3, .bool s3, .int .u64 M3, .int .i64 E3] 24)))
  have X6 := Bo.new w5 #[.int .i64 K3, .bool s3, .int .u64 M3, .int .i64 E3] 24
  generalize hWn : World.alloc w5 (.cells #[.int .i64 K3, .bool s3, .int .u64 M3, .int .i64 E3] 24) = w6 at *
  clear hWn
  clear lX6
  have xX00 := X0.a 0 (.bool s0) rfl
  have xX01 := X0.a 1 (.slice a0 len0 cap0) rfl
  have xX02 := X0.a 2 (.int .i64 e0) rfl
  go_wp2_with fail
  refine (kFrom hT h0 (by omega) HM0.out HH.out).mono ?_
  rintro ee w7 ⟨K4, s4, M4, E4, rfl, q4, B⟩
  clear xX00 xX01 xX02
  replace X0 := X0.below B
  replace X1 := X1.below B
  replace X6 := X6.below B
  replace hT := hT.below B
  replace h0 := h0.below B
  replace h1 := h1.below B
  replace HB := Lib.hid (bt HB.out B)
  clear B
  obtain ⟨rfl, rfl, rfl, rfl⟩ := q3.uniq q4
  clear q4
  go_upto_region 8 with (fail)
  have lX7 := Nat.le_refl (World.heap w7).size
  have nX7X0 := X0.lt
  have nX7X1 := X1.lt
  have nX7X6 := X6.lt
  replace X0 := X0.below (bel1 _ (.cells #[.int .i64 K3, .bool s3, .int .u64 M3, .int .i64 E3] 24))
  replace X1 := X1.below (bel1 _ (.cells #[.int .i64 K3, .bool s3, .int .u64 M3, .int .i64 E3] 24))
  replace X6 := X6.below (bel1 _ (.cells #[.int .i64 K3, .bool s3, .int .u64 M3, .int .i64 E3] 24))
  replace hT := hT.below (bel1 _ (.cells #[.int .i64 K3, .bool s3, .int .u64 M3, .int .i64 E3] 24))
  replace h0 := h0.below (bel1 _ (.cells #[.int .i64 K3, .bool s3, .int .u64 M3, .int .i64 E3] 24))
  replace h1 := h1.below (bel1 _ (.cells #[.int .i64 K3, .bool s3, .int .u64 M3, .int .i64 E3] 24))
  replace HB := Lib.hid (bt HB.out (bel1 _ (.cells #[.int .i64 K3, .bool s3, .int .u64 M3, .int .i64 E3] 24)))
  have X7 := Bo.new w7 #[.int .i64 K3, .bool s3, .int .u64 M3, .int .i64 E3] 24
  generalize hWn : World.alloc w7 (.cells #[.int .i64 K3, .bool s3, .int .u64 M3, .int .i64 E3] 24) = w8 at *
  clear hWn
  clear lX7
  have xX00 := X0.a 0 (.bool s0) rfl
  have xX01 := X0.a 1 (.slice a0 len0 cap0) rfl
  have xX02 := X0.a 2 (.int .i64 e0) rfl
  have xX10 := X1.a 0 (.bool s1) rfl
  have xX11 := X1.a 1 (.slice a1 len1 cap1) rfl
  have xX12 := X1.a 2 (.int .i64 e1) rfl
  go_wp2_with fail
  refine (vCmpD h0 h1 (by omega) (by omega) HK.out).mono ?_
  rintro ee w9 ⟨rfl, B⟩
  clear xX00 xX01 xX02 xX10 xX11 xX12
  replace X0 := X0.below B
  replace X1 := X1.below B
  replace X6 := X6.below B
  replace X7 := X7.below B
  replace hT := hT.below B
  replace h0 := h0.below B
  replace h1 := h1.below B
  replace HB := Lib.hid (bt HB.out B)
  clear B
  have xX00 := X0.a 0 (.bool s0) rfl
  have xX01 := X0.a 1 (.slice a0 len0 cap0) rfl
  have xX02 := X0.a 2 (.int .i64 e0) rfl
  go_upto_region 10 with (fail)
  clear xX00 xX01 xX02
  have lX9 := Nat.le_refl (World.heap w9).size
  have nX9X0 := X0.lt
  have nX9X1 := X1.lt
  have nX9X6 := X6.lt
  have nX9X7 := X7.lt
  replace X0 := X0.below (bel1 _ (.cells #[.bool s0, .slice a0 len0 cap0, .int .i64 e0] 43))
  replace X1 := X1.below (bel1 _ (.cells #[.bool s0, .slice a0 len0 cap0, .int .i64 e0] 43))
  replace X6 := X6.below (bel1 _ (.cells #[.bool s0, .slice a0 len0 cap0, .int .i64 e0] 43))
  replace X7 := X7.below (bel1 _ (.cells #[.bool s0, .slice a0 len0 cap0, .int .i64 e0] 43))
  replace hT := hT.below (bel1 _ (.cells #[.bool s0, .slice a0 len0 cap0, .int .i64 e0] 43))
  replace h0 := h0.below (bel1 _ (.cells #[.bool s0, .slice a0 len0 cap0, .int .i64 e0] 43))
  replace h1 := h1.below (bel1 _ (.cells #[.bool s0, .slice a0 len0 cap0, .int .i64 e0] 43))
  replace HB := Lib.hid (bt HB.out (bel1 _ (.cells #[.bool s0, .slice a0 len0 cap0, .int .i64 e0] 43)))
  have X9 := Bo.new w9 #[.bool s0, .slice a0 len0 cap0, .int .i64 e0] 43
  generalize hWn : World.alloc w9 (.cells #[.bool s0, .slice a0 len0 cap0, .int .i64 e0] 43) = w10 at *
  clear hWn
  clear lX9
  have z1 : (0 : Int) < len0 := by
    have := HZ0.out
    omega
  have xX90 := X9.a 0 (.bool s0) rfl
  have zX90 := X9.frozen 0
  have xX91 := X9.a 1 (.slice a0 len0 cap0) rfl
  have zX91 := X9.frozen 1
  have xX92 := X9.a 2 (.int .i64 e0) rfl
  have zX92 := X9.frozen 2
  go_upto_region 11 with (fail)
  clear z1
  clear xX90 zX90 xX91 zX91 xX92 zX92
  have SX : StN w10 (World.setCell w10 ⟨w9.heap.size, 0, none⟩ (.bool (!s0))) _ _ #[.bool (!s0), .slice a0 len0 cap0, .int .i64 e0] _ := StN.at4 X9 0 (.bool (!s0))
  replace X0 := X0.stn SX (by omega)
  replace X1 := X1.stn SX (by omega)
  replace X6 := X6.stn SX (by omega)
  replace X7 := X7.stn SX (by omega)
  replace hT := hT.stn SX (by simp [no8])
  replace h0 := h0.stn SX (by simp [no32])
  replace h1 := h1.stn SX (by simp [no32])
  replace HB := Lib.hid (SX.below HB.out (by omega))
  replace X9 := SX.box
  clear SX
  generalize World.setCell w10 ⟨w9.heap.size, 0, none⟩ (.bool (!s0)) = w11 at *
  refine Jo.region_joint (T := [0, 1, 2, 3, 4, 5, 6, 7, 8, 9, 10, 11, 12, 13, 14, 15, 16, 17, 18, 19, 20, 21]) (ds := [some 57, some 58, some 59, some 60, some 61, some 62, some 63, some 64, some 65, some 66, some 67, some 68, some 69, some 70, some 71, some 72, some 73, some 74, some 75, some 76, some 77, some 78]) (ls := [[], [], [0, 1], [2], [3], [4], [4], [4, 5, 6], [4, 7], [8], [8, 9], [8], [8, 10, 11], [4, 8, 12], [4, 13], [14], [15], [15, 16], [15, 17], [15], [15, 18, 19], [15, 20]]) (k := 22) (L := [(some 57, 0), (some 58, 1), (some 59, 2), (some 60, 3), (some 61, 4), (some 62, 5), (some 63, 6), (some 64, 7), (some 65, 8), (some 66, 9), (some 67, 10), (some 68, 11), (some 69, 12), (some 70, 13), (some 71, 14), (some 72, 15), (some 73, 16), (some 74, 17), (some 75, 18), (some 76, 19), (some 77, 20), (some 78, 21)]) (fuel := 0) (J := fun wj => Below (World.heap w11).size w11 wj)
    (F := [Jo.Fact.eq (.agg #[.int .i64 K3, .bool s3, .int .u64 M3, .int .i64 E3]), Jo.Fact.eq (.agg #[.int .i64 K3, .bool s3, .int .u64 M3, .int .i64 E3]), Jo.Fact.eq (.int .i64 c1), Jo.Fact.eq (.bool false), Jo.Fact.eq (.bool false), Jo.Fact.eq (.agg #[.int .i64 K3, .bool s3, .int .u64 M3, .int .i64 E3]), Jo.Fact.eq (.agg #[.int .i64 K3, .bool s3, .int .u64 M3, .int .i64 E3]), Jo.Fact.eq (.bool false), Jo.Fact.eq (.bool false), Jo.Fact.eq undef, Jo.Fact.eq undef, Jo.Fact.eq undef, Jo.Fact.eq undef, Jo.Fact.eq (.bool false), Jo.Fact.eq (.bool false), Jo.Fact.eq (.bool false), Jo.Fact.eq (.agg #[.bool (!s0), .slice a0 len0 cap0, .int .i64 e0]), Jo.Fact.num (-l), Jo.Fact.num l, Jo.Fact.eq (.agg #[.int .i64 K3, .bool s3, .int .u64 M3, .int .i64 E3]), Jo.Fact.eq (.bool false), Jo.Fact.eq (.bool false)])
    (by kernel_rfl) (by kernel_rfl) (by decide) rfl rfl (fun _ _ h b => bt h b) ((Below.refl _ _).drew) ?_ (fun vs w12 hJ hd => ?_)
  · refine Jo.jd 0 (some 57) [] (Jo.Fact.eq (.agg #[.int .i64 K3, .bool s3, .int .u64 M3, .int .i64 E3])) rfl rfl rfl rfl (fun vs wj hJ hd K hK => ?_) ?_
    · simp only [Jo.putl, Jo.ze, Act.put, Jo.za, Jo.zb, Jo.zc] at hK ⊢
      clear hd
      have xX60 := (X6.below hJ).a 0 (.int .i64 K3) rfl
      have xX61 := (X6.below hJ).a 1 (.bool s3) rfl
      have xX62 := (X6.below hJ).a 2 (.int .u64 M3) rfl
      have xX63 := (X6.below hJ).a 3 (.int .i64 E3) rfl
      go_simp
      exact hK.out _ _ rfl (Below.refl _ _)
    refine Jo.jd 1 (some 58) [] (Jo.Fact.eq (.agg #[.int .i64 K3, .bool s3, .int .u64 M3, .int .i64 E3])) rfl rfl rfl rfl (fun vs wj hJ hd K hK => ?_) ?_
    · simp only [Jo.putl, Jo.ze, Act.put, Jo.za, Jo.zb, Jo.zc] at hK ⊢
      clear hd
      have xX70 := (X7.below hJ).a 0 (.int .i64 K3) rfl
      have xX71 := (X7.below hJ).a 1 (.bool s3) rfl
      have xX72 := (X7.below hJ).a 2 (.int .u64 M3) rfl
      have xX73 := (X7.below hJ).a 3 (.int .i64 E3) rfl
      go_simp
      exact hK.out _ _ rfl (Below.refl _ _)
    refine Jo.jd 2 (some 59) [(some 57, 0), (some 58, 1)] (Jo.Fact.eq (.int .i64 c1)) rfl rfl rfl rfl (fun vs wj hJ hd K hK => ?_) ?_
    · simp only [Jo.putl, Jo.zd, Jo.ze, Act.put, Jo.za, Jo.zb, Jo.zc] at hK ⊢
      rw [show vs 0 = _ from hd 0 (by decide), show vs 1 = _ from hd 1 (by decide)] at hK ⊢
      clear hd
      go_simp
      refine (nCmp (z := c1) q3.top q3.top (by rw [q3.rk]; exact HC1.out)).mono ?_
      rintro ee wk ⟨rfl, B⟩
      exact hK.out _ _ rfl B
    refine Jo.jd 3 (some 60) [(some 59, 2)] (Jo.Fact.eq (.bool false)) rfl rfl rfl rfl (fun vs wj hJ hd K hK => ?_) ?_
    · simp only [Jo.putl, Jo.zd, Jo.ze, Act.put, Jo.za, Jo.zb, Jo.zc] at hK ⊢
      rw [show vs 2 = _ from hd 2 (by decide)] at hK ⊢
      clear hd
      have ht := HT3.out
      go_simp
      exact hK.out _ _ (by first | rfl | (show Value.bool _ = Value.bool _; simp only [ht])) (Below.refl _ _)
    refine Jo.jd 4 (some 61) [(some 60, 3)] (Jo.Fact.eq (.bool false)) rfl rfl rfl rfl (fun vs wj hJ hd K hK => ?_) ?_
    · simp only [Jo.putl, Jo.zd, Jo.ze, Act.put, Jo.za, Jo.zb, Jo.zc] at hK ⊢
      rw [show vs 3 = _ from hd 3 (by decide)] at hK ⊢
      clear hd
      go_simp
      exact hK.out _ _ rfl (Below.refl _ _)
    refine Jo.jd 5 (some 62) [(some 61, 4)] (Jo.Fact.eq (.agg #[.int .i64 K3, .bool s3, .int .u64 M3, .int .i64 E3])) rfl rfl rfl rfl (fun vs wj hJ hd K hK => ?_) ?_
    · simp only [Jo.putl, Jo.zd, Jo.ze, Act.put, Jo.za, Jo.zb, Jo.zc] at hK ⊢
      rw [show vs 4 = _ from hd 4 (by decide)] at hK ⊢
      clear hd
      have xX60 := (X6.below hJ).a 0 (.int .i64 K3) rfl
      have xX61 := (X6.below hJ).a 1 (.bool s3) rfl
      have xX62 := (X6.below hJ).a 2 (.int .u64 M3) rfl
      have xX63 := (X6.below hJ).a 3 (.int .i64 E3) rfl
      go_simp
      exact hK.out _ _ rfl (Below.refl _ _)
    refine Jo.jd 6 (some 63) [(some 61, 4)] (Jo.Fact.eq (.agg #[.int .i64 K3, .bool s3, .int .u64 M3, .int .i64 E3])) rfl rfl rfl rfl (fun vs wj hJ hd K hK => ?_) ?_
    · simp only [Jo.putl, Jo.zd, Jo.ze, Act.put, Jo.za, Jo.zb, Jo.zc] at hK ⊢
      rw [show vs 4 = _ from hd 4 (by decide)] at hK ⊢
      clear hd
      have xX70 := (X7.below hJ).a 0 (.int .i64 K3) rfl
      have xX71 := (X7.below hJ).a 1 (.bool s3) rfl
      have xX72 := (X7.below hJ).a 2 (.int .u64 M3) rfl
      have xX73 := (X7.below hJ).a 3 (.int .i64 E3) rfl
      go_simp
      exact hK.out _ _ rfl (Below.refl _ _)
    refine Jo.jd 7 (some 64) [(some 61, 4), (some 62, 5), (some 63, 6)] (Jo.Fact.eq (.bool false)) rfl rfl rfl rfl (fun vs wj hJ hd K hK => ?_) ?_
    · simp only [Jo.putl, Jo.zd, Jo.ze, Act.put, Jo.za, Jo.zb, Jo.zc] at hK ⊢
      rw [show vs 4 = _ from hd 4 (by decide), show vs 5 = _ from hd 5 (by decide), show vs 6 = _ from hd 6 (by decide)] at hK ⊢
      clear hd
      go_simp
      exact hK.out _ _ (by first | rfl | (show Value.bool _ = Value.bool _; simp)) (Below.refl _ _)
    refine Jo.jd 8 (some 65) [(some 61, 4), (some 64, 7)] (Jo.Fact.eq (.bool false)) rfl rfl rfl rfl (fun vs wj hJ hd K hK => ?_) ?_
    · simp only [Jo.putl, Jo.zd, Jo.ze, Act.put, Jo.za, Jo.zb, Jo.zc] at hK ⊢
      rw [show vs 4 = _ from hd 4 (by decide), show vs 7 = _ from hd 7 (by decide)] at hK ⊢
      clear hd
      go_simp
      exact hK.out _ _ rfl (Below.refl _ _)
    refine Jo.jd 9 (some 66) [(some 65, 8)] (Jo.Fact.eq undef) rfl rfl rfl rfl (fun vs wj hJ hd K hK => ?_) ?_
    · simp only [Jo.putl, Jo.zd, Jo.ze, Act.put, Jo.za, Jo.zb, Jo.zc] at hK ⊢
      rw [show vs 8 = _ from hd 8 (by decide)] at hK ⊢
      clear hd
      go_simp
      exact hK.out _ _ rfl (Below.refl _ _)
    refine Jo.jd 10 (some 67) [(some 65, 8), (some 66, 9)] (Jo.Fact.eq undef) rfl rfl rfl rfl (fun vs wj hJ hd K hK => ?_) ?_
    · have d9 : (Jo.Fact.eq undef).P (vs 9) wj := hd 9 (by decide)
      simp only [Jo.putl, Jo.zd, Jo.ze, Act.put, Jo.za, Jo.zb, Jo.zc] at hK ⊢
      rw [show vs 8 = _ from hd 8 (by decide)] at hK ⊢
      clear hd
      generalize vs 9 = u9 at hK d9 ⊢
      replace d9 : u9 = _ := d9
      subst d9
      go_simp
      exact hK.out _ _ rfl (Below.refl _ _)
    refine Jo.jd 11 (some 68) [(some 65, 8)] (Jo.Fact.eq undef) rfl rfl rfl rfl (fun vs wj hJ hd K hK => ?_) ?_
    · simp only [Jo.putl, Jo.zd, Jo.ze, Act.put, Jo.za, Jo.zb, Jo.zc] at hK ⊢
      rw [show vs 8 = _ from hd 8 (by decide)] at hK ⊢
      clear hd
      go_simp
      exact hK.out _ _ rfl (Below.refl _ _)
    refine Jo.jd 12 (some 69) [(some 65, 8), (some 67, 10), (some 68, 11)] (Jo.Fact.eq undef) rfl rfl rfl rfl (fun vs wj hJ hd K hK => ?_) ?_
    · have d10 : (Jo.Fact.eq undef).P (vs 10) wj := hd 10 (by decide)
      have d11 : (Jo.Fact.eq undef).P (vs 11) wj := hd 11 (by decide)
      simp only [Jo.putl, Jo.zd, Jo.ze, Act.put, Jo.za, Jo.zb, Jo.zc] at hK ⊢
      rw [show vs 8 = _ from hd 8 (by decide)] at hK ⊢
      clear hd
      generalize vs 10 = u10 at hK d10 ⊢
      generalize vs 11 = u11 at hK d11 ⊢
      replace d10 : u10 = _ := d10
      subst d10
      replace d11 : u11 = _ := d11
      subst d11
      go_simp
      exact hK.out _ _ rfl (Below.refl _ _)
    refine Jo.jd 13 (some 70) [(some 61, 4), (some 65, 8), (some 69, 12)] (Jo.Fact.eq (.bool false)) rfl rfl rfl rfl (fun vs wj hJ hd K hK => ?_) ?_
    · have d12 : (Jo.Fact.eq undef).P (vs 12) wj := hd 12 (by decide)
      simp only [Jo.putl, Jo.zd, Jo.ze, Act.put, Jo.za, Jo.zb, Jo.zc] at hK ⊢
      rw [show vs 4 = _ from hd 4 (by decide), show vs 8 = _ from hd 8 (by decide)] at hK ⊢
      clear hd
      generalize vs 12 = u12 at hK d12 ⊢
      replace d12 : u12 = _ := d12
      subst d12
      go_simp
      exact hK.out _ _ rfl (Below.refl _ _)
    refine Jo.jd 14 (some 71) [(some 61, 4), (some 70, 13)] (Jo.Fact.eq (.bool false)) rfl rfl rfl rfl (fun vs wj hJ hd K hK => ?_) ?_
    · simp only [Jo.putl, Jo.zd, Jo.ze, Act.put, Jo.za, Jo.zb, Jo.zc] at hK ⊢
      rw [show vs 4 = _ from hd 4 (by decide), show vs 13 = _ from hd 13 (by decide)] at hK ⊢
      clear hd
      go_simp
      exact hK.out _ _ rfl (Below.refl _ _)
    refine Jo.jd 15 (some 72) [(some 71, 14)] (Jo.Fact.eq (.bool false)) rfl rfl rfl rfl (fun vs wj hJ hd K hK => ?_) ?_
    · simp only [Jo.putl, Jo.zd, Jo.ze, Act.put, Jo.za, Jo.zb, Jo.zc] at hK ⊢
      rw [show vs 14 = _ from hd 14 (by decide)] at hK ⊢
      clear hd
      go_simp
      exact hK.out _ _ rfl (Below.refl _ _)
    refine Jo.jd 16 (some 73) [(some 72, 15)] (Jo.Fact.eq (.agg #[.bool (!s0), .slice a0 len0 cap0, .int .i64 e0])) rfl rfl rfl rfl (fun vs wj hJ hd K hK => ?_) ?_
    · simp only [Jo.putl, Jo.zd, Jo.ze, Act.put, Jo.za, Jo.zb, Jo.zc] at hK ⊢
      rw [show vs 15 = _ from hd 15 (by decide)] at hK ⊢
      clear hd
      have xX90 := (X9.below hJ).a 0 (.bool (!s0)) rfl
      have xX91 := (X9.below hJ).a 1 (.slice a0 len0 cap0) rfl
      have xX92 := (X9.below hJ).a 2 (.int .i64 e0) rfl
      go_simp
      exact hK.out _ _ rfl (Below.refl _ _)
    refine Jo.jd 17 (some 74) [(some 72, 15), (some 73, 16)] (Jo.Fact.num (-l)) rfl rfl rfl rfl (fun vs wj hJ hd K hK => ?_) ?_
    · simp only [Jo.putl, Jo.zd, Jo.ze, Act.put, Jo.za, Jo.zb, Jo.zc] at hK ⊢
      rw [show vs 15 = _ from hd 15 (by decide), show vs 16 = _ from hd 16 (by decide)] at hK ⊢
      clear hd
      go_simp
      refine (kFrom (hT.below hJ) (h0.below hJ) (by omega) HMO.out HFO.out).mono ?_
      rintro ee wk ⟨K6, s6, M6, E6, rfl, q6, B⟩
      exact hK.out _ _ ⟨K6, s6, M6, E6, rfl, q6⟩ B
    refine Jo.jd 18 (some 75) [(some 72, 15), (some 74, 17)] (Jo.Fact.num l) rfl rfl rfl rfl (fun vs wj hJ hd K hK => ?_) ?_
    · have d17 : (Jo.Fact.num (-l)).P (vs 17) wj := hd 17 (by decide)
      simp only [Jo.putl, Jo.zd, Jo.ze, Act.put, Jo.za, Jo.zb, Jo.zc] at hK ⊢
      rw [show vs 15 = _ from hd 15 (by decide)] at hK ⊢
      clear hd
      generalize vs 17 = u17 at hK d17 ⊢
      obtain ⟨K6, s6, M6, E6, rfl, q6⟩ := d17
      go_simp
      refine (nNeg (r := l) q6.top (by rw [q6.rk]; omega)).mono ?_
      rintro ee wk ⟨K7, s7, M7, E7, rfl, q7, B⟩
      exact hK.out _ _ ⟨K7, s7, M7, E7, rfl, q7⟩ B
    refine Jo.jd 19 (some 76) [(some 72, 15)] (Jo.Fact.eq (.agg #[.int .i64 K3, .bool s3, .int .u64 M3, .int .i64 E3])) rfl rfl rfl rfl (fun vs wj hJ hd K hK => ?_) ?_
    · simp only [Jo.putl, Jo.zd, Jo.ze, Act.put, Jo.za, Jo.zb, Jo.zc] at hK ⊢
      rw [show vs 15 = _ from hd 15 (by decide)] at hK ⊢
      clear hd
      have xX60 := (X6.below hJ).a 0 (.int .i64 K3) rfl
      have xX61 := (X6.below hJ).a 1 (.bool s3) rfl
      have xX62 := (X6.below hJ).a 2 (.int .u64 M3) rfl
      have xX63 := (X6.below hJ).a 3 (.int .i64 E3) rfl
      go_simp
      exact hK.out _ _ rfl (Below.refl _ _)
    refine Jo.jd 20 (some 77) [(some 72, 15), (some 75, 18), (some 76, 19)] (Jo.Fact.eq (.bool false)) rfl rfl rfl rfl (fun vs wj hJ hd K hK => ?_) ?_
    · have d18 : (Jo.Fact.num l).P (vs 18) wj := hd 18 (by decide)
      simp only [Jo.putl, Jo.zd, Jo.ze, Act.put, Jo.za, Jo.zb, Jo.zc] at hK ⊢
      rw [show vs 15 = _ from hd 15 (by decide), show vs 19 = _ from hd 19 (by decide)] at hK ⊢
      clear hd
      generalize vs 18 = u18 at hK d18 ⊢
      obtain ⟨K7, s7, M7, E7, rfl, q7⟩ := d18
      obtain ⟨rfl, rfl, rfl, rfl⟩ := q7.uniq q3
      go_simp
      exact hK.out _ _ (by first | rfl | (show Value.bool _ = Value.bool _; simp)) (Below.refl _ _)
    refine Jo.jd 21 (some 78) [(some 72, 15), (some 77, 20)] (Jo.Fact.eq (.bool false)) rfl rfl rfl rfl (fun vs wj hJ hd K hK => ?_) ?_
    · simp only [Jo.putl, Jo.zd, Jo.ze, Act.put, Jo.za, Jo.zb, Jo.zc] at hK ⊢
      rw [show vs 15 = _ from hd 15 (by decide), show vs 20 = _ from hd 20 (by decide)] at hK ⊢
      clear hd
      go_simp
      exact hK.out _ _ rfl (Below.refl _ _)
    exact Jo.Steps.nil
  have d0 : (Jo.Fact.eq (.agg #[.int .i64 K3, .bool s3, .int .u64 M3, .int .i64 E3])).P (vs 0) w12 := hd 0 (by decide)
  have d1 : (Jo.Fact.eq (.agg #[.int .i64 K3, .bool s3, .int .u64 M3, .int .i64 E3])).P (vs 1) w12 := hd 1 (by decide)
  have d2 : (Jo.Fact.eq (.int .i64 c1)).P (vs 2) w12 := hd 2 (by decide)
  have d3 : (Jo.Fact.eq (.bool false)).P (vs 3) w12 := hd 3 (by decide)
  have d4 : (Jo.Fact.eq (.bool false)).P (vs 4) w12 := hd 4 (by decide)
  have d5 : (Jo.Fact.eq (.agg #[.int .i64 K3, .bool s3, .int .u64 M3, .int .i64 E3])).P (vs 5) w12 := hd 5 (by decide)
  have d6 : (Jo.Fact.eq (.agg #[.int .i64 K3, .bool s3, .int .u64 M3, .int .i64 E3])).P (vs 6) w12 := hd 6 (by decide)
  have d7 : (Jo.Fact.eq (.bool false)).P (vs 7) w12 := hd 7 (by decide)
  have d8 : (Jo.Fact.eq (.bool false)).P (vs 8) w12 := hd 8 (by decide)
  have d9 : (Jo.Fact.eq undef).P (vs 9) w12 := hd 9 (by decide)
  have d10 : (Jo.Fact.eq undef).P (vs 10) w12 := hd 10 (by decide)
  have d11 : (Jo.Fact.eq undef).P (vs 11) w12 := hd 11 (by decide)
  have d12 : (Jo.Fact.eq undef).P (vs 12) w12 := hd 12 (by decide)
  have d13 : (Jo.Fact.eq (.bool false)).P (vs 13) w12 := hd 13 (by decide)
  have d14 : (Jo.Fact.eq (.bool false)).P (vs 14) w12 := hd 14 (by decide)
  have d15 : (Jo.Fact.eq (.bool false)).P (vs 15) w12 := hd 15 (by decide)
  have d17 : (Jo.Fact.num (-l)).P (vs 17) w12 := hd 17 (by decide)
  have d18 : (Jo.Fact.num l).P (vs 18) w12 := hd 18 (by decide)
  simp only [Jo.putl, Jo.zd, Jo.ze, Act.put, Jo.za, Jo.zb, Jo.zc]
  rw [show vs 16 = _ from hd 16 (by decide), show vs 19 = _ from hd 19 (by decide), show vs 20 = _ from hd 20 (by decide), show vs 21 = _ from hd 21 (by decide)]
  clear hd
  generalize vs 0 = u0 at d0 ⊢
  generalize vs 1 = u1 at d1 ⊢
  generalize vs 2 = u2 at d2 ⊢
  generalize vs 3 = u3 at d3 ⊢
  generalize vs 4 = u4 at d4 ⊢
  generalize vs 5 = u5 at d5 ⊢
  generalize vs 6 = u6 at d6 ⊢
  generalize vs 7 = u7 at d7 ⊢
  generalize vs 8 = u8 at d8 ⊢
  generalize vs 9 = u9 at d9 ⊢
  generalize vs 10 = u10 at d10 ⊢
  generalize vs 11 = u11 at d11 ⊢
  generalize vs 12 = u12 at d12 ⊢
  generalize vs 13 = u13 at d13 ⊢
  generalize vs 14 = u14 at d14 ⊢
  generalize vs 15 = u15 at d15 ⊢
  generalize vs 17 = u17 at d17 ⊢
  generalize vs 18 = u18 at d18 ⊢
  replace d0 : u0 = _ := d0
  subst d0
  replace d1 : u1 = _ := d1
  subst d1
  replace d2 : u2 = _ := d2
  subst d2
  replace d3 : u3 = _ := d3
  subst d3
  replace d4 : u4 = _ := d4
  subst d4
  replace d5 : u5 = _ := d5
  subst d5
  replace d6 : u6 = _ := d6
  subst d6
  replace d7 : u7 = _ := d7
  subst d7
  replace d8 : u8 = _ := d8
  subst d8
  replace d9 : u9 = _ := d9
  subst d9
  replace d10 : u10 = _ := d10
  subst d10
  replace d11 : u11 = _ := d11
  subst d11
  replace d12 : u12 = _ := d12
  subst d12
  replace d13 : u13 = _ := d13
  subst d13
  replace d14 : u14 = _ := d14
  subst d14
  replace d15 : u15 = _ := d15
  subst d15
  obtain ⟨K6, s6, M6, E6, rfl, _⟩ := d17
  obtain ⟨K7, s7, M7, E7, rfl, _⟩ := d18
  replace X0 := X0.below hJ
  replace X1 := X1.below hJ
  replace X6 := X6.below hJ
  replace X7 := X7.below hJ
  replace X9 := X9.below hJ
  replace hT := hT.below hJ
  replace h0 := h0.below hJ
  replace h1 := h1.below hJ
  replace HB := Lib.hid (bt HB.out hJ)
  refine Jo.jdone (by kernel_rfl) ?_
  go_upto_region 13 with (fail)
  by_cases hc : 0 < κ
  · refine Jo.region_joint (T := [0, 1, 2, 3, 4, 5, 6, 7, 8, 9, 10, 11, 12, 13, 14, 15, 16]) (ds := [some 79, some 80, some 81, some 82, some 83, some 84, some 85, some 86, some 87, some 88, some 89, some 90, some 91, some 92, some 93, some 94, some 4]) (ls := [[], [0], [1], [2], [2], [2, 4], [2, 3, 5], [2, 6], [2, 7], [8], [8], [8, 10], [8, 9, 11], [8, 12], [2, 8, 13], [2, 14], [15]]) (k := 17) (L := [(some 79, 0), (some 80, 1), (some 81, 2), (some 82, 3), (some 83, 4), (some 84, 5), (some 85, 6), (some 86, 7), (some 87, 8), (some 88, 9), (some 89, 10), (some 90, 11), (some 91, 12), (some 92, 13), (some 93, 14), (some 94, 15), (some 4, 16)]) (fuel := 0) (J := fun wj => Below (World.heap w12).size w12 wj)
      (F := [Jo.Fact.eq (.int .i64 κ), Jo.Fact.eq (.bool true), Jo.Fact.eq (.bool true), Jo.Fact.eq undef, Jo.Fact.eq undef, Jo.Fact.eq undef, Jo.Fact.eq undef, Jo.Fact.eq undef, Jo.Fact.eq undef, Jo.Fact.eq undef, Jo.Fact.eq undef, Jo.Fact.eq undef, Jo.Fact.eq undef, Jo.Fact.eq undef, Jo.Fact.eq undef, Jo.Fact.eq (.bool true), Jo.Fact.eq (.bool true)])
      (by kernel_rfl) (by kernel_rfl) (by decide) rfl rfl (fun _ _ h b => bt h b) ((Below.refl _ _).drew) ?_ (fun vs w13 hJ hd => ?_)
    · refine Jo.jd 0 (some 79) [] (Jo.Fact.eq (.int .i64 κ)) rfl rfl rfl rfl (fun vs wj hJ hd K hK => ?_) ?_
      · simp only [Jo.putl, Jo.ze, Act.put, Jo.za, Jo.zb, Jo.zc] at hK ⊢
        clear hd
        go_simp
        exact hK.out _ _ rfl (Below.refl _ _)
      refine Jo.jd 1 (some 80) [(some 79, 0)] (Jo.Fact.eq (.bool true)) rfl rfl rfl rfl (fun vs wj hJ hd K hK => ?_) ?_
      · simp only [Jo.putl, Jo.zd, Jo.ze, Act.put, Jo.za, Jo.zb, Jo.zc] at hK ⊢
        rw [show vs 0 = _ from hd 0 (by decide)] at hK ⊢
        clear hd
        have ht := decide_eq_true hc
        go_simp
        exact hK.out _ _ (by first | rfl | (show Value.bool _ = Value.bool _; simp only [ht])) (Below.refl _ _)
      refine Jo.jd 2 (some 81) [(some 80, 1)] (Jo.Fact.eq (.bool true)) rfl rfl rfl rfl (fun vs wj hJ hd K hK => ?_) ?_
      · simp only [Jo.putl, Jo.zd, Jo.ze, Act.put, Jo.za, Jo.zb, Jo.zc] at hK ⊢
        rw [show vs 1 = _ from hd 1 (by decide)] at hK ⊢
        clear hd
        go_simp
        exact hK.out _ _ rfl (Below.refl _ _)
      refine Jo.jd 3 (some 82) [(some 81, 2)] (Jo.Fact.eq undef) rfl rfl rfl rfl (fun vs wj hJ hd K hK => ?_) ?_
      · simp only [Jo.putl, Jo.zd, Jo.ze, Act.put, Jo.za, Jo.zb, Jo.zc] at hK ⊢
        rw [show vs 2 = _ from hd 2 (by decide)] at hK ⊢
        clear hd
        go_simp
        exact hK.out _ _ rfl (Below.refl _ _)
      refine Jo.jd 4 (some 83) [(some 81, 2)] (Jo.Fact.eq undef) rfl rfl rfl rfl (fun vs wj hJ hd K hK => ?_) ?_
      · simp only [Jo.putl, Jo.zd, Jo.ze, Act.put, Jo.za, Jo.zb, Jo.zc] at hK ⊢
        rw [show vs 2 = _ from hd 2 (by decide)] at hK ⊢
        clear hd
        go_simp
        exact hK.out _ _ rfl (Below.refl _ _)
      refine Jo.jd 5 (some 84) [(some 81, 2), (some 83, 4)] (Jo.Fact.eq undef) rfl rfl rfl rfl (fun vs wj hJ hd K hK => ?_) ?_
      · have d4 : (Jo.Fact.eq undef).P (vs 4) wj := hd 4 (by decide)
        simp only [Jo.putl, Jo.zd, Jo.ze, Act.put, Jo.za, Jo.zb, Jo.zc] at hK ⊢
        rw [show vs 2 = _ from hd 2 (by decide)] at hK ⊢
        clear hd
        generalize vs 4 = u4 at hK d4 ⊢
        replace d4 : u4 = _ := d4
        subst d4
        go_simp
        exact hK.out _ _ rfl (Below.refl _ _)
      refine Jo.jd 6 (some 85) [(some 81, 2), (some 82, 3), (some 84, 5)] (Jo.Fact.eq undef) rfl rfl rfl rfl (fun vs wj hJ hd K hK => ?_) ?_
      · have d3 : (Jo.Fact.eq undef).P (vs 3) wj := hd 3 (by decide)
        have d5 : (Jo.Fact.eq undef).P (vs 5) wj := hd 5 (by decide)
        simp only [Jo.putl, Jo.zd, Jo.ze, Act.put, Jo.za, Jo.zb, Jo.zc] at hK ⊢
        rw [show vs 2 = _ from hd 2 (by decide)] at hK ⊢
        clear hd
        generalize vs 3 = u3 at hK d3 ⊢
        generalize vs 5 = u5 at hK d5 ⊢
        replace d3 : u3 = _ := d3
        subst d3
        replace d5 : u5 = _ := d5
        subst d5
        go_simp
        exact hK.out _ _ rfl (Below.refl _ _)
      refine Jo.jd 7 (some 86) [(some 81, 2), (some 85, 6)] (Jo.Fact.eq undef) rfl rfl rfl rfl (fun vs wj hJ hd K hK => ?_) ?_
      · have d6 : (Jo.Fact.eq undef).P (vs 6) wj := hd 6 (by decide)
        simp only [Jo.putl, Jo.zd, Jo.ze, Act.put, Jo.za, Jo.zb, Jo.zc] at hK ⊢
        rw [show vs 2 = _ from hd 2 (by decide)] at hK ⊢
        clear hd
        generalize vs 6 = u6 at hK d6 ⊢
        replace d6 : u6 = _ := d6
        subst d6
        go_simp
        exact hK.out _ _ rfl (Below.refl _ _)
      refine Jo.jd 8 (some 87) [(some 81, 2), (some 86, 7)] (Jo.Fact.eq undef) rfl rfl rfl rfl (fun vs wj hJ hd K hK => ?_) ?_
      · have d7 : (Jo.Fact.eq undef).P (vs 7) wj := hd 7 (by decide)
        simp only [Jo.putl, Jo.zd, Jo.ze, Act.put, Jo.za, Jo.zb, Jo.zc] at hK ⊢
        rw [show vs 2 = _ from hd 2 (by decide)] at hK ⊢
        clear hd
        generalize vs 7 = u7 at hK d7 ⊢
        replace d7 : u7 = _ := d7
        subst d7
        go_simp
        exact hK.out _ _ rfl (Below.refl _ _)
      refine Jo.jd 9 (some 88) [(some 87, 8)] (Jo.Fact.eq undef) rfl rfl rfl rfl (fun vs wj hJ hd K hK => ?_) ?_
      · have d8 : (Jo.Fact.eq undef).P (vs 8) wj := hd 8 (by decide)
        simp only [Jo.putl, Jo.zd, Jo.ze, Act.put, Jo.za, Jo.zb, Jo.zc] at hK ⊢
        clear hd
        generalize vs 8 = u8 at hK d8 ⊢
        replace d8 : u8 = _ := d8
        subst d8
        go_simp
        exact hK.out _ _ rfl (Below.refl _ _)
      refine Jo.jd 10 (some 89) [(some 87, 8)] (Jo.Fact.eq undef) rfl rfl rfl rfl (fun vs wj hJ hd K hK => ?_) ?_
      · have d8 : (Jo.Fact.eq undef).P (vs 8) wj := hd 8 (by decide)
        simp only [Jo.putl, Jo.zd, Jo.ze, Act.put, Jo.za, Jo.zb, Jo.zc] at hK ⊢
        clear hd
        generalize vs 8 = u8 at hK d8 ⊢
        replace d8 : u8 = _ := d8
        subst d8
        go_simp
        exact hK.out _ _ rfl (Below.refl _ _)
      refine Jo.jd 11 (some 90) [(some 87, 8), (some 89, 10)] (Jo.Fact.eq undef) rfl rfl rfl rfl (fun vs wj hJ hd K hK => ?_) ?_
      · have d8 : (Jo.Fact.eq undef).P (vs 8) wj := hd 8 (by decide)
        have d10 : (Jo.Fact.eq undef).P (vs 10) wj := hd 10 (by decide)
        simp only [Jo.putl, Jo.zd, Jo.ze, Act.put, Jo.za, Jo.zb, Jo.zc] at hK ⊢
        clear hd
        generalize vs 8 = u8 at hK d8 ⊢
        generalize vs 10 = u10 at hK d10 ⊢
        replace d8 : u8 = _ := d8
        subst d8
        replace d10 : u10 = _ := d10
        subst d10
        go_simp
        exact hK.out _ _ rfl (Below.refl _ _)
      refine Jo.jd 12 (some 91) [(some 87, 8), (some 88, 9), (some 90, 11)] (Jo.Fact.eq undef) rfl rfl rfl rfl (fun vs wj hJ hd K hK => ?_) ?_
      · have d8 : (Jo.Fact.eq undef).P (vs 8) wj := hd 8 (by decide)
        have d9 : (Jo.Fact.eq undef).P (vs 9) wj := hd 9 (by decide)
        have d11 : (Jo.Fact.eq undef).P (vs 11) wj := hd 11 (by decide)
        simp only [Jo.putl, Jo.zd, Jo.ze, Act.put, Jo.za, Jo.zb, Jo.zc] at hK ⊢
        clear hd
        generalize vs 8 = u8 at hK d8 ⊢
        generalize vs 9 = u9 at hK d9 ⊢
        generalize vs 11 = u11 at hK d11 ⊢
        replace d8 : u8 = _ := d8
        subst d8
        replace d9 : u9 = _ := d9
        subst d9
        replace d11 : u11 = _ := d11
        subst d11
        go_simp
        exact hK.out _ _ rfl (Below.refl _ _)
      refine Jo.jd 13 (some 92) [(some 87, 8), (some 91, 12)] (Jo.Fact.eq undef) rfl rfl rfl rfl (fun vs wj hJ hd K hK => ?_) ?_
      · have d8 : (Jo.Fact.eq undef).P (vs 8) wj := hd 8 (by decide)
        have d12 : (Jo.Fact.eq undef).P (vs 12) wj := hd 12 (by decide)
        simp only [Jo.putl, Jo.zd, Jo.ze, Act.put, Jo.za, Jo.zb, Jo.zc] at hK ⊢
        clear hd
        generalize vs 8 = u8 at hK d8 ⊢
        generalize vs 12 = u12 at hK d12 ⊢
        replace d8 : u8 = _ := d8
        subst d8
        replace d12 : u12 = _ := d12
        subst d12
        go_simp
        exact hK.out _ _ rfl (Below.refl _ _)
      refine Jo.jd 14 (some 93) [(some 81, 2), (some 87, 8), (some 92, 13)] (Jo.Fact.eq undef) rfl rfl rfl rfl (fun vs wj hJ hd K hK => ?_) ?_
      · have d8 : (Jo.Fact.eq undef).P (vs 8) wj := hd 8 (by decide)
        have d13 : (Jo.Fact.eq undef).P (vs 13) wj := hd 13 (by decide)
        simp only [Jo.putl, Jo.zd, Jo.ze, Act.put, Jo.za, Jo.zb, Jo.zc] at hK ⊢
        rw [show vs 2 = _ from hd 2 (by decide)] at hK ⊢
        clear hd
        generalize vs 8 = u8 at hK d8 ⊢
        generalize vs 13 = u13 at hK d13 ⊢
        replace d8 : u8 = _ := d8
        subst d8
        replace d13 : u13 = _ := d13
        subst d13
        go_simp
        exact hK.out _ _ rfl (Below.refl _ _)
      refine Jo.jd 15 (some 94) [(some 81, 2), (some 93, 14)] (Jo.Fact.eq (.bool true)) rfl rfl rfl rfl (fun vs wj hJ hd K hK => ?_) ?_
      · have d14 : (Jo.Fact.eq undef).P (vs 14) wj := hd 14 (by decide)
        simp only [Jo.putl, Jo.zd, Jo.ze, Act.put, Jo.za, Jo.zb, Jo.zc] at hK ⊢
        rw [show vs 2 = _ from hd 2 (by decide)] at hK ⊢
        clear hd
        generalize vs 14 = u14 at hK d14 ⊢
        replace d14 : u14 = _ := d14
        subst d14
        go_simp
        exact hK.out _ _ rfl (Below.refl _ _)
      refine Jo.jd 16 (some 4) [(some 94, 15)] (Jo.Fact.eq (.bool true)) rfl rfl rfl rfl (fun vs wj hJ hd K hK => ?_) ?_
      · simp only [Jo.putl, Jo.zd, Jo.ze, Act.put, Jo.za, Jo.zb, Jo.zc] at hK ⊢
        rw [show vs 15 = _ from hd 15 (by decide)] at hK ⊢
        clear hd
        go_simp
        exact hK.out _ _ rfl (Below.refl _ _)
      exact Jo.Steps.nil
    have d0 : (Jo.Fact.eq (.int .i64 κ)).P (vs 0) w13 := hd 0 (by decide)
    have d1 : (Jo.Fact.eq (.bool true)).P (vs 1) w13 := hd 1 (by decide)
    have d2 : (Jo.Fact.eq (.bool true)).P (vs 2) w13 := hd 2 (by decide)
    have d3 : (Jo.Fact.eq undef).P (vs 3) w13 := hd 3 (by decide)
    have d4 : (Jo.Fact.eq undef).P (vs 4) w13 := hd 4 (by decide)
    have d5 : (Jo.Fact.eq undef).P (vs 5) w13 := hd 5 (by decide)
    have d6 : (Jo.Fact.eq undef).P (vs 6) w13 := hd 6 (by decide)
    have d7 : (Jo.Fact.eq undef).P (vs 7) w13 := hd 7 (by decide)
    have d8 : (Jo.Fact.eq undef).P (vs 8) w13 := hd 8 (by decide)
    have d9 : (Jo.Fact.eq undef).P (vs 9) w13 := hd 9 (by decide)
    have d10 : (Jo.Fact.eq undef).P (vs 10) w13 := hd 10 (by decide)
    have d11 : (Jo.Fact.eq undef).P (vs 11) w13 := hd 11 (by decide)
    have d12 : (Jo.Fact.eq undef).P (vs 12) w13 := hd 12 (by decide)
    have d13 : (Jo.Fact.eq undef).P (vs 13) w13 := hd 13 (by decide)
    have d14 : (Jo.Fact.eq undef).P (vs 14) w13 := hd 14 (by decide)
    have d15 : (Jo.Fact.eq (.bool true)).P (vs 15) w13 := hd 15 (by decide)
    simp only [Jo.putl, Jo.zd, Jo.ze, Act.put, Jo.za, Jo.zb, Jo.zc]
    rw [show vs 16 = _ from hd 16 (by decide)]
    clear hd
    generalize vs 0 = u0 at d0 ⊢
    generalize vs 1 = u1 at d1 ⊢
    generalize vs 2 = u2 at d2 ⊢
    generalize vs 3 = u3 at d3 ⊢
    generalize vs 4 = u4 at d4 ⊢
    generalize vs 5 = u5 at d5 ⊢
    generalize vs 6 = u6 at d6 ⊢
    generalize vs 7 = u7 at d7 ⊢
    generalize vs 8 = u8 at d8 ⊢
    generalize vs 9 = u9 at d9 ⊢
    generalize vs 10 = u10 at d10 ⊢
    generalize vs 11 = u11 at d11 ⊢
    generalize vs 12 = u12 at d12 ⊢
    generalize vs 13 = u13 at d13 ⊢
    generalize vs 14 = u14 at d14 ⊢
    generalize vs 15 = u15 at d15 ⊢
    replace d0 : u0 = _ := d0
    subst d0
    replace d1 : u1 = _ := d1
    subst d1
    replace d2 : u2 = _ := d2
    subst d2
    replace d3 : u3 = _ := d3
    subst d3
    replace d4 : u4 = _ := d4
    subst d4
    replace d5 : u5 = _ := d5
    subst d5
    replace d6 : u6 = _ := d6
    subst d6
    replace d7 : u7 = _ := d7
    subst d7
    replace d8 : u8 = _ := d8
    subst d8
    replace d9 : u9 = _ := d9
    subst d9
    replace d10 : u10 = _ := d10
    subst d10
    replace d11 : u11 = _ := d11
    subst d11
    replace d12 : u12 = _ := d12
    subst d12
    replace d13 : u13 = _ := d13
    subst d13
    replace d14 : u14 = _ := d14
    subst d14
    replace d15 : u15 = _ := d15
    subst d15
    replace X0 := X0.below hJ
    replace X1 := X1.below hJ
    replace X6 := X6.below hJ
    replace X7 := X7.below hJ
    replace X9 := X9.below hJ
    replace hT := hT.below hJ
    replace h0 := h0.below hJ
    replace h1 := h1.below hJ
    replace HB := Lib.hid (bt HB.out hJ)
    refine Jo.jdone (by kernel_rfl) ?_
    go_wp2
    go_ret
    exact ⟨rfl, HB.out⟩
  · refine Jo.region_joint (T := [0, 1, 2, 3, 4, 5, 6, 7, 8, 9, 10, 11, 12, 13, 14, 15, 16]) (ds := [some 79, some 80, some 81, some 82, some 83, some 84, some 85, some 86, some 87, some 88, some 89, some 90, some 91, some 92, some 93, some 94, some 4]) (ls := [[], [0], [1], [2], [2], [2, 4], [2, 3, 5], [2, 6], [2, 7], [8], [8], [8, 10], [8, 9, 11], [8, 12], [2, 8, 13], [2, 14], [15]]) (k := 17) (L := [(some 79, 0), (some 80, 1), (some 81, 2), (some 82, 3), (some 83, 4), (some 84, 5), (some 85, 6), (some 86, 7), (some 87, 8), (some 88, 9), (some 89, 10), (some 90, 11), (some 91, 12), (some 92, 13), (some 93, 14), (some 94, 15), (some 4, 16)]) (fuel := 0) (J := fun wj => Below (World.heap w12).size w12 wj)
      (F := [Jo.Fact.eq (.int .i64 κ), Jo.Fact.eq (.bool false), Jo.Fact.eq (.bool false), Jo.Fact.eq (.agg #[.int .i64 K3, .bool s3, .int .u64 M3, .int .i64 E3]), Jo.Fact.eq (.agg #[.bool s1, .slice a1 len1 cap1, .int .i64 e1]), Jo.Fact.num lb, Jo.Fact.eq (.int .i64 c2), Jo.Fact.eq (.bool true), Jo.Fact.eq (.bool true), Jo.Fact.eq (.agg #[.int .i64 K3, .bool s3, .int .u64 M3, .int .i64 E3]), Jo.Fact.eq (.agg #[.bool s1, .slice a1 len1 cap1, .int .i64 e1]), Jo.Fact.num hb, Jo.Fact.eq (.int .i64 c3), Jo.Fact.eq (.bool true), Jo.Fact.eq (.bool true), Jo.Fact.eq (.bool true), Jo.Fact.eq (.bool true)])
      (by kernel_rfl) (by kernel_rfl) (by decide) rfl rfl (fun _ _ h b => bt h b) ((Below.refl _ _).drew) ?_ (fun vs w13 hJ hd => ?_)
    · refine Jo.jd 0 (some 79) [] (Jo.Fact.eq (.int .i64 κ)) rfl rfl rfl rfl (fun vs wj hJ hd K hK => ?_) ?_
      · simp only [Jo.putl, Jo.ze, Act.put, Jo.za, Jo.zb, Jo.zc] at hK ⊢
        clear hd
        go_simp
        exact hK.out _ _ rfl (Below.refl _ _)
      refine Jo.jd 1 (some 80) [(some 79, 0)] (Jo.Fact.eq (.bool false)) rfl rfl rfl rfl (fun vs wj hJ hd K hK => ?_) ?_
      · simp only [Jo.putl, Jo.zd, Jo.ze, Act.put, Jo.za, Jo.zb, Jo.zc] at hK ⊢
        rw [show vs 0 = _ from hd 0 (by decide)] at hK ⊢
        clear hd
        have ht := decide_eq_false hc
        go_simp
        exact hK.out _ _ (by first | rfl | (show Value.bool _ = Value.bool _; simp only [ht])) (Below.refl _ _)
      refine Jo.jd 2 (some 81) [(some 80, 1)] (Jo.Fact.eq (.bool false)) rfl rfl rfl rfl (fun vs wj hJ hd K hK => ?_) ?_
      · simp only [Jo.putl, Jo.zd, Jo.ze, Act.put, Jo.za, Jo.zb, Jo.zc] at hK ⊢
        rw [show vs 1 = _ from hd 1 (by decide)] at hK ⊢
        clear hd
        go_simp
        exact hK.out _ _ rfl (Below.refl _ _)
      refine Jo.jd 3 (some 82) [(some 81, 2)] (Jo.Fact.eq (.agg #[.int .i64 K3, .bool s3, .int .u64 M3, .int .i64 E3])) rfl rfl rfl rfl (fun vs wj hJ hd K hK => ?_) ?_
      · simp only [Jo.putl, Jo.zd, Jo.ze, Act.put, Jo.za, Jo.zb, Jo.zc] at hK ⊢
        rw [show vs 2 = _ from hd 2 (by decide)] at hK ⊢
        clear hd
        have xX60 := (X6.below hJ).a 0 (.int .i64 K3) rfl
        have xX61 := (X6.below hJ).a 1 (.bool s3) rfl
        have xX62 := (X6.below hJ).a 2 (.int .u64 M3) rfl
        have xX63 := (X6.below hJ).a 3 (.int .i64 E3) rfl
        go_simp
        exact hK.out _ _ rfl (Below.refl _ _)
      refine Jo.jd 4 (some 83) [(some 81, 2)] (Jo.Fact.eq (.agg #[.bool s1, .slice a1 len1 cap1, .int .i64 e1])) rfl rfl rfl rfl (fun vs wj hJ hd K hK => ?_) ?_
      · simp only [Jo.putl, Jo.zd, Jo.ze, Act.put, Jo.za, Jo.zb, Jo.zc] at hK ⊢
        rw [show vs 2 = _ from hd 2 (by decide)] at hK ⊢
        clear hd
        have xX10 := (X1.below hJ).a 0 (.bool s1) rfl
        have xX11 := (X1.below hJ).a 1 (.slice a1 len1 cap1) rfl
        have xX12 := (X1.below hJ).a 2 (.int .i64 e1) rfl
        go_simp
        exact hK.out _ _ rfl (Below.refl _ _)
      refine Jo.jd 5 (some 84) [(some 81, 2), (some 83, 4)] (Jo.Fact.num lb) rfl rfl rfl rfl (fun vs wj hJ hd K hK => ?_) ?_
      · simp only [Jo.putl, Jo.zd, Jo.ze, Act.put, Jo.za, Jo.zb, Jo.zc] at hK ⊢
        rw [show vs 2 = _ from hd 2 (by decide), show vs 4 = _ from hd 4 (by decide)] at hK ⊢
        clear hd
        go_simp
        refine (kFrom (hT.below hJ) (h1.below hJ) (by omega) HM1.out HLB.out).mono ?_
        rintro ee wk ⟨K9, s9, M9, E9, rfl, q9, B⟩
        exact hK.out _ _ ⟨K9, s9, M9, E9, rfl, q9⟩ B
      refine Jo.jd 6 (some 85) [(some 81, 2), (some 82, 3), (some 84, 5)] (Jo.Fact.eq (.int .i64 c2)) rfl rfl rfl rfl (fun vs wj hJ hd K hK => ?_) ?_
      · have d5 : (Jo.Fact.num lb).P (vs 5) wj := hd 5 (by decide)
        simp only [Jo.putl, Jo.zd, Jo.ze, Act.put, Jo.za, Jo.zb, Jo.zc] at hK ⊢
        rw [show vs 2 = _ from hd 2 (by decide), show vs 3 = _ from hd 3 (by decide)] at hK ⊢
        clear hd
        generalize vs 5 = u5 at hK d5 ⊢
        obtain ⟨K9, s9, M9, E9, rfl, q9⟩ := d5
        go_simp
        refine (nCmp (z := c2) q3.top q9.top (by rw [q3.rk, q9.rk]; exact HC2.out)).mono ?_
        rintro ee wk ⟨rfl, B⟩
        exact hK.out _ _ rfl B
      refine Jo.jd 7 (some 86) [(some 81, 2), (some 85, 6)] (Jo.Fact.eq (.bool true)) rfl rfl rfl rfl (fun vs wj hJ hd K hK => ?_) ?_
      · simp only [Jo.putl, Jo.zd, Jo.ze, Act.put, Jo.za, Jo.zb, Jo.zc] at hK ⊢
        rw [show vs 2 = _ from hd 2 (by decide), show vs 6 = _ from hd 6 (by decide)] at hK ⊢
        clear hd
        have ht := (HT4.out (by omega)).1
        go_simp
        exact hK.out _ _ (by first | rfl | (show Value.bool _ = Value.bool _; simp only [ht])) (Below.refl _ _)
      refine Jo.jd 8 (some 87) [(some 81, 2), (some 86, 7)] (Jo.Fact.eq (.bool true)) rfl rfl rfl rfl (fun vs wj hJ hd K hK => ?_) ?_
      · simp only [Jo.putl, Jo.zd, Jo.ze, Act.put, Jo.za, Jo.zb, Jo.zc] at hK ⊢
        rw [show vs 2 = _ from hd 2 (by decide), show vs 7 = _ from hd 7 (by decide)] at hK ⊢
        clear hd
        go_simp
        exact hK.out _ _ rfl (Below.refl _ _)
      refine Jo.jd 9 (some 88) [(some 87, 8)] (Jo.Fact.eq (.agg #[.int .i64 K3, .bool s3, .int .u64 M3, .int .i64 E3])) rfl rfl rfl rfl (fun vs wj hJ hd K hK => ?_) ?_
      · simp only [Jo.putl, Jo.zd, Jo.ze, Act.put, Jo.za, Jo.zb, Jo.zc] at hK ⊢
        rw [show vs 8 = _ from hd 8 (by decide)] at hK ⊢
        clear hd
        have xX70 := (X7.below hJ).a 0 (.int .i64 K3) rfl
        have xX71 := (X7.below hJ).a 1 (.bool s3) rfl
        have xX72 := (X7.below hJ).a 2 (.int .u64 M3) rfl
        have xX73 := (X7.below hJ).a 3 (.int .i64 E3) rfl
        go_simp
        exact hK.out _ _ rfl (Below.refl _ _)
      refine Jo.jd 10 (some 89) [(some 87, 8)] (Jo.Fact.eq (.agg #[.bool s1, .slice a1 len1 cap1, .int .i64 e1])) rfl rfl rfl rfl (fun vs wj hJ hd K hK => ?_) ?_
      · simp only [Jo.putl, Jo.zd, Jo.ze, Act.put, Jo.za, Jo.zb, Jo.zc] at hK ⊢
        rw [show vs 8 = _ from hd 8 (by decide)] at hK ⊢
        clear hd
        have xX10 := (X1.below hJ).a 0 (.bool s1) rfl
        have xX11 := (X1.below hJ).a 1 (.slice a1 len1 cap1) rfl
        have xX12 := (X1.below hJ).a 2 (.int .i64 e1) rfl
        go_simp
        exact hK.out _ _ rfl (Below.refl _ _)
      refine Jo.jd 11 (some 90) [(some 87, 8), (some 89, 10)] (Jo.Fact.num hb) rfl rfl rfl rfl (fun vs wj hJ hd K hK => ?_) ?_
      · simp only [Jo.putl, Jo.zd, Jo.ze, Act.put, Jo.za, Jo.zb, Jo.zc] at hK ⊢
        rw [show vs 8 = _ from hd 8 (by decide), show vs 10 = _ from hd 10 (by decide)] at hK ⊢
        clear hd
        go_simp
        refine (kFrom (hT.below hJ) (h1.below hJ) (by omega) HM1.out HHB_.out).mono ?_
        rintro ee wk ⟨K10, s10, M10, E10, rfl, q10, B⟩
        exact hK.out _ _ ⟨K10, s10, M10, E10, rfl, q10⟩ B
      refine Jo.jd 12 (some 91) [(some 87, 8), (some 88, 9), (some 90, 11)] (Jo.Fact.eq (.int .i64 c3)) rfl rfl rfl rfl (fun vs wj hJ hd K hK => ?_) ?_
      · have d11 : (Jo.Fact.num hb).P (vs 11) wj := hd 11 (by decide)
        simp only [Jo.putl, Jo.zd, Jo.ze, Act.put, Jo.za, Jo.zb, Jo.zc] at hK ⊢
        rw [show vs 8 = _ from hd 8 (by decide), show vs 9 = _ from hd 9 (by decide)] at hK ⊢
        clear hd
        generalize vs 11 = u11 at hK d11 ⊢
        obtain ⟨K10, s10, M10, E10, rfl, q10⟩ := d11
        go_simp
        refine (nCmp (z := c3) q3.top q10.top (by rw [q3.rk, q10.rk]; exact HC3.out)).mono ?_
        rintro ee wk ⟨rfl, B⟩
        exact hK.out _ _ rfl B
      refine Jo.jd 13 (some 92) [(some 87, 8), (some 91, 12)] (Jo.Fact.eq (.bool true)) rfl rfl rfl rfl (fun vs wj hJ hd K hK => ?_) ?_
      · simp only [Jo.putl, Jo.zd, Jo.ze, Act.put, Jo.za, Jo.zb, Jo.zc] at hK ⊢
        rw [show vs 8 = _ from hd 8 (by decide), show vs 12 = _ from hd 12 (by decide)] at hK ⊢
        clear hd
        have ht := (HT4.out (by omega)).2
        go_simp
        exact hK.out _ _ (by first | rfl | (show Value.bool _ = Value.bool _; simp only [ht])) (Below.refl _ _)
      refine Jo.jd 14 (some 93) [(some 81, 2), (some 87, 8), (some 92, 13)] (Jo.Fact.eq (.bool true)) rfl rfl rfl rfl (fun vs wj hJ hd K hK => ?_) ?_
      · simp only [Jo.putl, Jo.zd, Jo.ze, Act.put, Jo.za, Jo.zb, Jo.zc] at hK ⊢
        rw [show vs 2 = _ from hd 2 (by decide), show vs 8 = _ from hd 8 (by decide), show vs 13 = _ from hd 13 (by decide)] at hK ⊢
        clear hd
        go_simp
        exact hK.out _ _ rfl (Below.refl _ _)
      refine Jo.jd 15 (some 94) [(some 81, 2), (some 93, 14)] (Jo.Fact.eq (.bool true)) rfl rfl rfl rfl (fun vs wj hJ hd K hK => ?_) ?_
      · simp only [Jo.putl, Jo.zd, Jo.ze, Act.put, Jo.za, Jo.zb, Jo.zc] at hK ⊢
        rw [show vs 2 = _ from hd 2 (by decide), show vs 14 = _ from hd 14 (by decide)] at hK ⊢
        clear hd
        go_simp
        exact hK.out _ _ rfl (Below.refl _ _)
      refine Jo.jd 16 (some 4) [(some 94, 15)] (Jo.Fact.eq (.bool true)) rfl rfl rfl rfl (fun vs wj hJ hd K hK => ?_) ?_
      · simp only [Jo.putl, Jo.zd, Jo.ze, Act.put, Jo.za, Jo.zb, Jo.zc] at hK ⊢
        rw [show vs 15 = _ from hd 15 (by decide)] at hK ⊢
        clear hd
        go_simp
        exact hK.out _ _ rfl (Below.refl _ _)
      exact Jo.Steps.nil
    have d5 : (Jo.Fact.num lb).P (vs 5) w13 := hd 5 (by decide)
    have d11 : (Jo.Fact.num hb).P (vs 11) w13 := hd 11 (by decide)
    simp only [Jo.putl, Jo.zd, Jo.ze, Act.put, Jo.za, Jo.zb, Jo.zc]
    rw [show vs 0 = _ from hd 0 (by decide), show vs 1 = _ from hd 1 (by decide), show vs 2 = _ from hd 2 (by decide), show vs 3 = _ from hd 3 (by decide), show vs 4 = _ from hd 4 (by decide), show vs 6 = _ from hd 6 (by decide), show vs 7 = _ from hd 7 (by decide), show vs 8 = _ from hd 8 (by decide), show vs 9 = _ from hd 9 (by decide), show vs 10 = _ from hd 10 (by decide), show vs 12 = _ from hd 12 (by decide), show vs 13 = _ from hd 13 (by decide), show vs 14 = _ from hd 14 (by decide), show vs 15 = _ from hd 15 (by decide), show vs 16 = _ from hd 16 (by decide)]
    clear hd
    generalize vs 5 = u5 at d5 ⊢
    generalize vs 11 = u11 at d11 ⊢
    obtain ⟨K9, s9, M9, E9, rfl, _⟩ := d5
    obtain ⟨K10, s10, M10, E10, rfl, _⟩ := d11
    replace X0 := X0.below hJ
    replace X1 := X1.below hJ
    replace X6 := X6.below hJ
    replace X7 := X7.below hJ
    replace X9 := X9.below hJ
    replace hT := hT.below hJ
    replace h0 := h0.below hJ
    replace h1 := h1.below hJ
    replace HB := Lib.hid (bt HB.out hJ)
    refine Jo.jdone (by kernel_rfl) ?_
    go_wp2
    go_ret
    exact ⟨rfl, HB.out⟩
set_option maxHeartbeats 8000000 in
theorem quotDecimals_pnext (s0 : Bool) (a0 : Option Addr) (len0 cap0 : Nat) (e0 : Int) (s1 : Bool) (a1 : Option Addr) (len1 cap1 : Nat) (e1 : Int) (w : World) (a b : Nat) (l h lb hb κ : Int) (hT : Tab w) (h0 : Rd w a0 len0 cap0 a) (h1 : Rd w a1 len1 cap1 b) (k0 : len0 ≤ 10) (k1 : len1 ≤ 10) (m0 : mayC s0 len0 a e0 = true) (m1 : mayC s1 len1 b e1 = true)
    (hl : Fm false true (sg s0 a) e0 l) (hh : Fm true true (sg s0 a) e0 h) (hlb : Fm false true (sg s1 b) e1 lb) (hhb : Fm true true (sg s1 b) e1 hb) (hκ : cmpC true true (sg s0 a) e0 (sg s1 b) e1 = κ) (z0 : 0 < len0) (ht : h = l + 1) :
    Calls Tryd.prog 5 #[.agg #[.bool s0, .slice a0 len0 cap0, .int .i64 e0], .agg #[.bool s1, .slice a1 len1 cap1, .int .i64 e1]] w (PB w true) := by
  have t0 : ¬ (10 : Int) < len0 := by omega
  have t1 : ¬ (10 : Int) < len1 := by omega
  obtain ⟨mo, eo⟩ := may_turn m0 h0.bound
  have hs : (decide (0 < len0) && !s0) = (!s0) := by
    rw [decide_eq_true z0, Bool.true_and]
  rw [hs] at mo eo
  have fo : Fm true true (sg (!s0) a) e0 (-l) := by
    rw [eo]
    exact fm_neg hl
  obtain ⟨c1, hc1⟩ : ∃ c, cmpI l h = c := ⟨_, rfl⟩
  obtain ⟨c2, hc2⟩ : ∃ c, cmpI l lb = c := ⟨_, rfl⟩
  obtain ⟨c3, hc3⟩ : ∃ c, cmpI h hb = c := ⟨_, rfl⟩
  have t3 : decide (0 < c1) = false := by
    rw [← hc1]
    refine decide_eq_false ?_
    rcases cmpI_tri l h with ⟨a, b⟩ | ⟨a, b⟩ | ⟨a, b⟩ <;> omega
  have t4 : κ ≤ 0 → decide (c2 ≤ 0) = true ∧ decide (c3 ≤ 0) = true := fun k => by
    have ks := cmpC_le hκ (by omega)
    rw [← hc2, ← hc3]
    exact ⟨cmpI_np7 (fm_mono ks hl hlb), cmpI_np7 (fm_mono ks hh hhb)⟩
  have HNX : Hid (nx true l = h) := Lib.hid (by
    have := TP_eq
    have hb2 := fm_bd hl
    have hb3 := fm_bd hh
    unfold nx
    rw [if_pos rfl]
    omega)
  have HLH := Lib.hid (show l ≠ h by omega)
  have HK : Hid (cmpC (mayC s0 len0 a e0) (mayC s1 len1 b e1) (sg s0 a) e0 (sg s1 b) e1 = κ) := Lib.hid (by rw [m0, m1, hκ])
  have HZ0 := Lib.hid z0
  have HM0 := Lib.hid m0
  have HM1 := Lib.hid m1
  have HMO := Lib.hid mo
  have HFO := Lib.hid fo
  have HL := Lib.hid hl
  have HH := Lib.hid hh
  have HLB := Lib.hid hlb
  have HHB_ := Lib.hid hhb
  have HC1 := Lib.hid hc1
  have HC2 := Lib.hid hc2
  have HC3 := Lib.hid hc3
  have HT3 := Lib.hid t3
  have HT4 := Lib.hid t4
  clear z0 m0 m1 hl hh hlb hhb hκ ht mo eo hs fo hc1 hc2 hc3 t3 t4
  go_enter Tryd.func5, Tryd.ntmps5
  go_upto_region 1 with (fail)
  have X0 := (Bo.newAt w (g := w.heap.size) (by simp) #[.bool s0, .slice a0 len0 cap0, .int .i64 e0] 43).below (bel1 _ (.cells #[.bool s1, .slice a1 len1 cap1, .int .i64 e1] 43))
  have X1 := (Bo.newAt (w.alloc (.cells #[.bool s0, .slice a0 len0 cap0, .int .i64 e0] 43)) (g := w.heap.size + 1) (by simp) #[.bool s1, .slice a1 len1 cap1, .int .i64 e1] 43)
  have HB := Lib.hid (bel2 w (.cells #[.bool s0, .slice a0 len0 cap0, .int .i64 e0] 43) (.cells #[.bool s1, .slice a1 len1 cap1, .int .i64 e1] 43))
  replace hT := hT.below HB.out
  replace h0 := h0.below HB.out
  replace h1 := h1.below HB.out
  generalize hW1 : ((w.alloc (.cells #[.bool s0, .slice a0 len0 cap0, .int .i64 e0] 43)).alloc (.cells #[.bool s1, .slice a1 len1 cap1, .int .i64 e1] 43)) = w1 at *
  clear hW1
  go_wp2_with fail
  refine (awake7 hT).mono ?_
  rintro ee w2 ⟨rfl, B⟩
  replace X0 := X0.below B
  replace X1 := X1.below B
  replace hT := hT.below B
  replace h0 := h0.below B
  replace h1 := h1.below B
  replace HB := Lib.hid (bt HB.out B)
  clear B
  have xX00 := X0.a 0 (.bool s0) rfl
  have xX01 := X0.a 1 (.slice a0 len0 cap0) rfl
  have xX02 := X0.a 2 (.int .i64 e0) rfl
  have xX10 := X1.a 0 (.bool s1) rfl
  have xX11 := X1.a 1 (.slice a1 len1 cap1) rfl
  have xX12 := X1.a 2 (.int .i64 e1) rfl
  go_upto_region 4 with (fail)
  clear t0 t1
  clear xX00 xX01 xX02 xX10 xX11 xX12
  have xX00 := X0.a 0 (.bool s0) rfl
  have xX01 := X0.a 1 (.slice a0 len0 cap0) rfl
  have xX02 := X0.a 2 (.int .i64 e0) rfl
  have xX10 := X1.a 0 (.bool s1) rfl
  have xX11 := X1.a 1 (.slice a1 len1 cap1) rfl
  have xX12 := X1.a 2 (.int .i64 e1) rfl
  go_wp2_with fail
  refine (vMayD h0 (by omega) HM0.out).mono ?_
  rintro ee w3 ⟨rfl, B⟩
  clear xX00 xX01 xX02 xX10 xX11 xX12
  replace X0 := X0.below B
  replace X1 := X1.below B
  replace hT := hT.below B
  replace h0 := h0.below B
  replace h1 := h1.below B
  replace HB := Lib.hid (bt HB.out B)
  clear B
  have xX00 := X0.a 0 (.bool s0) rfl
  have xX01 := X0.a 1 (.slice a0 len0 cap0) rfl
  have xX02 := X0.a 2 (.int .i64 e0) rfl
  have xX10 := X1.a 0 (.bool s1) rfl
  have xX11 := X1.a 1 (.slice a1 len1 cap1) rfl
  have xX12 := X1.a 2 (.int .i64 e1) rfl
  go_wp2_with fail
  refine (vMayD h1 (by omega) HM1.out).mono ?_
  rintro ee w4 ⟨rfl, B⟩
  clear xX00 xX01 xX02 xX10 xX11 xX12
  replace X0 := X0.below B
  replace X1 := X1.below B
  replace hT := hT.below B
  replace h0 := h0.below B
  replace h1 := h1.below B
  replace HB := Lib.hid (bt HB.out B)
  clear B
  have xX00 := X0.a 0 (.bool s0) rfl
  have xX01 := X0.a 1 (.slice a0 len0 cap0) rfl
  have xX02 := X0.a 2 (.int .i64 e0) rfl
  go_wp2_with fail
  refine (kFrom hT h0 (by omega) HM0.out HL.out).mono ?_
  rintro ee w5 ⟨K3, s3, M3, E3, rfl, q3, B⟩
  clear xX00 xX01 xX02
  replace X0 := X0.below B
  replace X1 := X1.below B
  replace hT := hT.below B
  replace h0 := h0.below B
  replace h1 := h1.below B
  replace HB := Lib.hid (bt HB.out B)
  clear B
  go_upto_region 7 with (fail)
  have lX6 := Nat.le_refl (World.heap w5).size
  have nX6X0 := X0.lt
  have nX6X1 := X1.lt
  replace X0 := X0.below (bel1 _ (.cells #[.int .i64 K3, .bool s3, .int .u64 M3, .int .i64 E3] 24))
  replace X1 := X1.below (bel1 _ (.cells #[.int .i64 K3, .bool s3, .int .u64 M3, .int .i64 E3] 24))
  replace hT := hT.below (bel1 _ (.cells #[.int .i64 K3, .bool s3, .int .u64 M3, .int .i64 E3] 24))
  replace h0 := h0.below (bel1 _ (.cells #[.int .i64 K3, .bool s3, .int .u64 M3, .int .i64 E3] 24))
  replace h1 := h1.below (bel1 _ (.cells #[.int .i64 K3, .bool s3, .int .u64 M3, .int .i64 E3] 24))
  replace HB := Lib.hid (bt HB.out (bel1 _ (.cells #[.int .i64 K3, .bool s3, .int .u64 M3, .int .i64 E3] 24)))
  have X6 := Bo.new w5 #[.int .i64 K3, .bool s3, .int .u64 M3, .int .i64 E3] 24
  generalize hWn : World.alloc w5 (.cells #[.int .i64 K3, .bool s3, .int .u64 M3, .int .i64 E3] 24) = w6 at *
  clear hWn
  clear lX6
  have xX00 := X0.a 0 (.bool s0) rfl
  have xX01 := X0.a 1 (.slice a0 len0 cap0) rfl
  have xX02 := X0.a 2 (.int .i64 e0) rfl
  go_wp2_with fail
  refine (kFrom hT h0 (by omega) HM0.out HH.out).mono ?_
  rintro ee w7 ⟨K4, s4, M4, E4, rfl, q4, B⟩
  clear xX00 xX01 xX02
  replace X0 := X0.below B
  replace X1 := X1.below B
  replace X6 := X6.below B
  replace hT := hT.below B
  replace h0 := h0.below B
  replace h1 := h1.below B
  replace HB := Lib.hid (bt HB.out B)
  clear B
  go_upto_region 8 with (fail)
  have lX7 := Nat.le_refl (World.heap w7).size
  have nX7X0 := X0.lt
  have nX7X1 := X1.lt
  have nX7X6 := X6.lt
  replace X0 := X0.below (bel1 _ (.cells #[.int .i64 K4, .bool s4, .int .u64 M4, .int .i64 E4] 24))
  replace X1 := X1.below (bel1 _ (.cells #[.int .i64 K4, .bool s4, .int .u64 M4, .int .i64 E4] 24))
  replace X6 := X6.below (bel1 _ (.cells #[.int .i64 K4, .bool s4, .int .u64 M4, .int .i64 E4] 24))
  replace hT := hT.below (bel1 _ (.cells #[.int .i64 K4, .bool s4, .int .u64 M4, .int .i64 E4] 24))
  replace h0 := h0.below (bel1 _ (.cells #[.int .i64 K4, .bool s4, .int .u64 M4, .int .i64 E4] 24))
  replace h1 := h1.below (bel1 _ (.cells #[.int .i64 K4, .bool s4, .int .u64 M4, .int .i64 E4] 24))
  replace HB := Lib.hid (bt HB.out (bel1 _ (.cells #[.int .i64 K4, .bool s4, .int .u64 M4, .int .i64 E4] 24)))
  have X7 := Bo.new w7 #[.int .i64 K4, .bool s4, .int .u64 M4, .int .i64 E4] 24
  generalize hWn : World.alloc w7 (.cells #[.int .i64 K4, .bool s4, .int .u64 M4, .int .i64 E4] 24) = w8 at *
  clear hWn
  clear lX7
  have xX00 := X0.a 0 (.bool s0) rfl
  have xX01 := X0.a 1 (.slice a0 len0 cap0) rfl
  have xX02 := X0.a 2 (.int .i64 e0) rfl
  have xX10 := X1.a 0 (.bool s1) rfl
  have xX11 := X1.a 1 (.slice a1 len1 cap1) rfl
  have xX12 := X1.a 2 (.int .i64 e1) rfl
  go_wp2_with fail
  refine (vCmpD h0 h1 (by omega) (by omega) HK.out).mono ?_
  rintro ee w9 ⟨rfl, B⟩
  clear xX00 xX01 xX02 xX10 xX11 xX12
  replace X0 := X0.below B
  replace X1 := X1.below B
  replace X6 := X6.below B
  replace X7 := X7.below B
  replace hT := hT.below B
  replace h0 := h0.below B
  replace h1 := h1.below B
  replace HB := Lib.hid (bt HB.out B)
  clear B
  have xX00 := X0.a 0 (.bool s0) rfl
  have xX01 := X0.a 1 (.slice a0 len0 cap0) rfl
  have xX02 := X0.a 2 (.int .i64 e0) rfl
  go_upto_region 10 with (fail)
  clear xX00 xX01 xX02
  have lX9 := Nat.le_refl (World.heap w9).size
  have nX9X0 := X0.lt
  have nX9X1 := X1.lt
  have nX9X6 := X6.lt
  have nX9X7 := X7.lt
  replace X0 := X0.below (bel1 _ (.cells #[.bool s0, .slice a0 len0 cap0, .int .i64 e0] 43))
  replace X1 := X1.below (bel1 _ (.cells #[.bool s0, .slice a0 len0 cap0, .int .i64 e0] 43))
  replace X6 := X6.below (bel1 _ (.cells #[.bool s0, .slice a0 len0 cap0, .int .i64 e0] 43))
  replace X7 := X7.below (bel1 _ (.cells #[.bool s0, .slice a0 len0 cap0, .int .i64 e0] 43))
  replace hT := hT.below (bel1 _ (.cells #[.bool s0, .slice a0 len0 cap0, .int .i64 e0] 43))
  replace h0 := h0.below (bel1 _ (.cells #[.bool s0, .slice a0 len0 cap0, .int .i64 e0] 43))
  replace h1 := h1.below (bel1 _ (.cells #[.bool s0, .slice a0 len0 cap0, .int .i64 e0] 43))
  replace HB := Lib.hid (bt HB.out (bel1 _ (.cells #[.bool s0, .slice a0 len0 cap0, .int .i64 e0] 43)))
  have X9 := Bo.new w9 #[.bool s0, .slice a0 len0 cap0, .int .i64 e0] 43
  generalize hWn : World.alloc w9 (.cells #[.bool s0, .slice a0 len0 cap0, .int .i64 e0] 43) = w10 at *
  clear hWn
  clear lX9
  have z1 : (0 : Int) < len0 := by
    have := HZ0.out
    omega
  have xX90 := X9.a 0 (.bool s0) rfl
  have zX90 := X9.frozen 0
  have xX91 := X9.a 1 (.slice a0 len0 cap0) rfl
  have zX91 := X9.frozen 1
  have xX92 := X9.a 2 (.int .i64 e0) rfl
  have zX92 := X9.frozen 2
  go_upto_region 11 with (fail)
  clear z1
  clear xX90 zX90 xX91 zX91 xX92 zX92
  have SX : StN w10 (World.setCell w10 ⟨w9.heap.size, 0, none⟩ (.bool (!s0))) _ _ #[.bool (!s0), .slice a0 len0 cap0, .int .i64 e0] _ := StN.at4 X9 0 (.bool (!s0))
  replace X0 := X0.stn SX (by omega)
  replace X1 := X1.stn SX (by omega)
  replace X6 := X6.stn SX (by omega)
  replace X7 := X7.stn SX (by omega)
  replace hT := hT.stn SX (by simp [no8])
  replace h0 := h0.stn SX (by simp [no32])
  replace h1 := h1.stn SX (by simp [no32])
  replace HB := Lib.hid (SX.below HB.out (by omega))
  replace X9 := SX.box
  clear SX
  generalize World.setCell w10 ⟨w9.heap.size, 0, none⟩ (.bool (!s0)) = w11 at *
  refine Jo.region_joint (T := [0, 1, 2, 3, 4, 5, 6, 7, 8, 9, 10, 11, 12, 13, 14, 15, 16, 17, 18, 19, 20, 21]) (ds := [some 57, some 58, some 59, some 60, some 61, some 62, some 63, some 64, some 65, some 66, some 67, some 68, some 69, some 70, some 71, some 72, some 73, some 74, some 75, some 76, some 77, some 78]) (ls := [[], [], [0, 1], [2], [3], [4], [4], [4, 5, 6], [4, 7], [8], [8, 9], [8], [8, 10, 11], [4, 8, 12], [4, 13], [14], [15], [15, 16], [15, 17], [15], [15, 18, 19], [15, 20]]) (k := 22) (L := [(some 57, 0), (some 58, 1), (some 59, 2), (some 60, 3), (some 61, 4), (some 62, 5), (some 63, 6), (some 64, 7), (some 65, 8), (some 66, 9), (some 67, 10), (some 68, 11), (some 69, 12), (some 70, 13), (some 71, 14), (some 72, 15), (some 73, 16), (some 74, 17), (some 75, 18), (some 76, 19), (some 77, 20), (some 78, 21)]) (fuel := 0) (J := fun wj => Below (World.heap w11).size w11 wj)
    (F := [Jo.Fact.eq (.agg #[.int .i64 K3, .bool s3, .int .u64 M3, .int .i64 E3]), Jo.Fact.eq (.agg #[.int .i64 K4, .bool s4, .int .u64 M4, .int .i64 E4]), Jo.Fact.eq (.int .i64 c1), Jo.Fact.eq (.bool false), Jo.Fact.eq (.bool false), Jo.Fact.eq (.agg #[.int .i64 K3, .bool s3, .int .u64 M3, .int .i64 E3]), Jo.Fact.eq (.agg #[.int .i64 K4, .bool s4, .int .u64 M4, .int .i64 E4]), Jo.Fact.eq (.bool true), Jo.Fact.eq (.bool true), Jo.Fact.eq (.agg #[.int .i64 K3, .bool s3, .int .u64 M3, .int .i64 E3]), Jo.Fact.num h, Jo.Fact.eq (.agg #[.int .i64 K4, .bool s4, .int .u64 M4, .int .i64 E4]), Jo.Fact.eq (.bool false), Jo.Fact.eq (.bool false), Jo.Fact.eq (.bool false), Jo.Fact.eq (.bool false), Jo.Fact.eq (.agg #[.bool (!s0), .slice a0 len0 cap0, .int .i64 e0]), Jo.Fact.num (-l), Jo.Fact.num l, Jo.Fact.eq (.agg #[.int .i64 K3, .bool s3, .int .u64 M3, .int .i64 E3]), Jo.Fact.eq (.bool false), Jo.Fact.eq (.bool false)])
    (by kernel_rfl) (by kernel_rfl) (by decide) rfl rfl (fun _ _ h b => bt h b) ((Below.refl _ _).drew) ?_ (fun vs w12 hJ hd => ?_)
  · refine Jo.jd 0 (some 57) [] (Jo.Fact.eq (.agg #[.int .i64 K3, .bool s3, .int .u64 M3, .int .i64 E3])) rfl rfl rfl rfl (fun vs wj hJ hd K hK => ?_) ?_
    · simp only [Jo.putl, Jo.ze, Act.put, Jo.za, Jo.zb, Jo.zc] at hK ⊢
      clear hd
      have xX60 := (X6.below hJ).a 0 (.int .i64 K3) rfl
      have xX61 := (X6.below hJ).a 1 (.bool s3) rfl
      have xX62 := (X6.below hJ).a 2 (.int .u64 M3) rfl
      have xX63 := (X6.below hJ).a 3 (.int .i64 E3) rfl
      go_simp
      exact hK.out _ _ rfl (Below.refl _ _)
    refine Jo.jd 1 (some 58) [] (Jo.Fact.eq (.agg #[.int .i64 K4, .bool s4, .int .u64 M4, .int .i64 E4])) rfl rfl rfl rfl (fun vs wj hJ hd K hK => ?_) ?_
    · simp only [Jo.putl, Jo.ze, Act.put, Jo.za, Jo.zb, Jo.zc] at hK ⊢
      clear hd
      have xX70 := (X7.below hJ).a 0 (.int .i64 K4) rfl
      have xX71 := (X7.below hJ).a 1 (.bool s4) rfl
      have xX72 := (X7.below hJ).a 2 (.int .u64 M4) rfl
      have xX73 := (X7.below hJ).a 3 (.int .i64 E4) rfl
      go_simp
      exact hK.out _ _ rfl (Below.refl _ _)
    refine Jo.jd 2 (some 59) [(some 57, 0), (some 58, 1)] (Jo.Fact.eq (.int .i64 c1)) rfl rfl rfl rfl (fun vs wj hJ hd K hK => ?_) ?_
    · simp only [Jo.putl, Jo.zd, Jo.ze, Act.put, Jo.za, Jo.zb, Jo.zc] at hK ⊢
      rw [show vs 0 = _ from hd 0 (by decide), show vs 1 = _ from hd 1 (by decide)] at hK ⊢
      clear hd
      go_simp
      refine (nCmp (z := c1) q3.top q4.top (by rw [q3.rk, q4.rk]; exact HC1.out)).mono ?_
      rintro ee wk ⟨rfl, B⟩
      exact hK.out _ _ rfl B
    refine Jo.jd 3 (some 60) [(some 59, 2)] (Jo.Fact.eq (.bool false)) rfl rfl rfl rfl (fun vs wj hJ hd K hK => ?_) ?_
    · simp only [Jo.putl, Jo.zd, Jo.ze, Act.put, Jo.za, Jo.zb, Jo.zc] at hK ⊢
      rw [show vs 2 = _ from hd 2 (by decide)] at hK ⊢
      clear hd
      have ht := HT3.out
      go_simp
      exact hK.out _ _ (by first | rfl | (show Value.bool _ = Value.bool _; simp only [ht])) (Below.refl _ _)
    refine Jo.jd 4 (some 61) [(some 60, 3)] (Jo.Fact.eq (.bool false)) rfl rfl rfl rfl (fun vs wj hJ hd K hK => ?_) ?_
    · simp only [Jo.putl, Jo.zd, Jo.ze, Act.put, Jo.za, Jo.zb, Jo.zc] at hK ⊢
      rw [show vs 3 = _ from hd 3 (by decide)] at hK ⊢
      clear hd
      go_simp
      exact hK.out _ _ rfl (Below.refl _ _)
    refine Jo.jd 5 (some 62) [(some 61, 4)] (Jo.Fact.eq (.agg #[.int .i64 K3, .bool s3, .int .u64 M3, .int .i64 E3])) rfl rfl rfl rfl (fun vs wj hJ hd K hK => ?_) ?_
    · simp only [Jo.putl, Jo.zd, Jo.ze, Act.put, Jo.za, Jo.zb, Jo.zc] at hK ⊢
      rw [show vs 4 = _ from hd 4 (by decide)] at hK ⊢
      clear hd
      have xX60 := (X6.below hJ).a 0 (.int .i64 K3) rfl
      have xX61 := (X6.below hJ).a 1 (.bool s3) rfl
      have xX62 := (X6.below hJ).a 2 (.int .u64 M3) rfl
      have xX63 := (X6.below hJ).a 3 (.int .i64 E3) rfl
      go_simp
      exact hK.out _ _ rfl (Below.refl _ _)
    refine Jo.jd 6 (some 63) [(some 61, 4)] (Jo.Fact.eq (.agg #[.int .i64 K4, .bool s4, .int .u64 M4, .int .i64 E4])) rfl rfl rfl rfl (fun vs wj hJ hd K hK => ?_) ?_
    · simp only [Jo.putl, Jo.zd, Jo.ze, Act.put, Jo.za, Jo.zb, Jo.zc] at hK ⊢
      rw [show vs 4 = _ from hd 4 (by decide)] at hK ⊢
      clear hd
      have xX70 := (X7.below hJ).a 0 (.int .i64 K4) rfl
      have xX71 := (X7.below hJ).a 1 (.bool s4) rfl
      have xX72 := (X7.below hJ).a 2 (.int .u64 M4) rfl
      have xX73 := (X7.below hJ).a 3 (.int .i64 E4) rfl
      go_simp
      exact hK.out _ _ rfl (Below.refl _ _)
    refine Jo.jd 7 (some 64) [(some 61, 4), (some 62, 5), (some 63, 6)] (Jo.Fact.eq (.bool true)) rfl rfl rfl rfl (fun vs wj hJ hd K hK => ?_) ?_
    · simp only [Jo.putl, Jo.zd, Jo.ze, Act.put, Jo.za, Jo.zb, Jo.zc] at hK ⊢
      rw [show vs 4 = _ from hd 4 (by decide), show vs 5 = _ from hd 5 (by decide), show vs 6 = _ from hd 6 (by decide)] at hK ⊢
      clear hd
      have hnn := fq_ne7 q3 q4 HLH.out
      go_simp
      first | (refine hK.out _ _ ?_ (Below.refl _ _); show Value.bool _ = Value.bool _; simp; exact hnn) | ((repeat' split) <;> first | exact hK.out _ _ rfl (Below.refl _ _) | (exfalso; exact hnn (by assumption) (by assumption) (by assumption) (by assumption)))
    refine Jo.jd 8 (some 65) [(some 61, 4), (some 64, 7)] (Jo.Fact.eq (.bool true)) rfl rfl rfl rfl (fun vs wj hJ hd K hK => ?_) ?_
    · simp only [Jo.putl, Jo.zd, Jo.ze, Act.put, Jo.za, Jo.zb, Jo.zc] at hK ⊢
      rw [show vs 4 = _ from hd 4 (by decide), show vs 7 = _ from hd 7 (by decide)] at hK ⊢
      clear hd
      go_simp
      exact hK.out _ _ rfl (Below.refl _ _)
    refine Jo.jd 9 (some 66) [(some 65, 8)] (Jo.Fact.eq (.agg #[.int .i64 K3, .bool s3, .int .u64 M3, .int .i64 E3])) rfl rfl rfl rfl (fun vs wj hJ hd K hK => ?_) ?_
    · simp only [Jo.putl, Jo.zd, Jo.ze, Act.put, Jo.za, Jo.zb, Jo.zc] at hK ⊢
      rw [show vs 8 = _ from hd 8 (by decide)] at hK ⊢
      clear hd
      have xX60 := (X6.below hJ).a 0 (.int .i64 K3) rfl
      have xX61 := (X6.below hJ).a 1 (.bool s3) rfl
      have xX62 := (X6.below hJ).a 2 (.int .u64 M3) rfl
      have xX63 := (X6.below hJ).a 3 (.int .i64 E3) rfl
      go_simp
      exact hK.out _ _ rfl (Below.refl _ _)
    refine Jo.jd 10 (some 67) [(some 65, 8), (some 66, 9)] (Jo.Fact.num h) rfl rfl rfl rfl (fun vs wj hJ hd K hK => ?_) ?_
    · simp only [Jo.putl, Jo.zd, Jo.ze, Act.put, Jo.za, Jo.zb, Jo.zc] at hK ⊢
      rw [show vs 8 = _ from hd 8 (by decide), show vs 9 = _ from hd 9 (by decide)] at hK ⊢
      clear hd
      go_simp
      refine (nNext (up := true) (r := h) q3.top (by rw [q3.rk]; exact HNX.out)).mono ?_
      rintro ee wk ⟨K8, s8, M8, E8, rfl, q8, B⟩
      exact hK.out _ _ ⟨K8, s8, M8, E8, rfl, q8⟩ B
    refine Jo.jd 11 (some 68) [(some 65, 8)] (Jo.Fact.eq (.agg #[.int .i64 K4, .bool s4, .int .u64 M4, .int .i64 E4])) rfl rfl rfl rfl (fun vs wj hJ hd K hK => ?_) ?_
    · simp only [Jo.putl, Jo.zd, Jo.ze, Act.put, Jo.za, Jo.zb, Jo.zc] at hK ⊢
      rw [show vs 8 = _ from hd 8 (by decide)] at hK ⊢
      clear hd
      have xX70 := (X7.below hJ).a 0 (.int .i64 K4) rfl
      have xX71 := (X7.below hJ).a 1 (.bool s4) rfl
      have xX72 := (X7.below hJ).a 2 (.int .u64 M4) rfl
      have xX73 := (X7.below hJ).a 3 (.int .i64 E4) rfl
      go_simp
      exact hK.out _ _ rfl (Below.refl _ _)
    refine Jo.jd 12 (some 69) [(some 65, 8), (some 67, 10), (some 68, 11)] (Jo.Fact.eq (.bool false)) rfl rfl rfl rfl (fun vs wj hJ hd K hK => ?_) ?_
    · have d10 : (Jo.Fact.num h).P (vs 10) wj := hd 10 (by decide)
      simp only [Jo.putl, Jo.zd, Jo.ze, Act.put, Jo.za, Jo.zb, Jo.zc] at hK ⊢
      rw [show vs 8 = _ from hd 8 (by decide), show vs 11 = _ from hd 11 (by decide)] at hK ⊢
      clear hd
      generalize vs 10 = u10 at hK d10 ⊢
      obtain ⟨K8, s8, M8, E8, rfl, q8⟩ := d10
      obtain ⟨rfl, rfl, rfl, rfl⟩ := q8.uniq q4
      go_simp
      exact hK.out _ _ (by first | rfl | (show Value.bool _ = Value.bool _; simp)) (Below.refl _ _)
    refine Jo.jd 13 (some 70) [(some 61, 4), (some 65, 8), (some 69, 12)] (Jo.Fact.eq (.bool false)) rfl rfl rfl rfl (fun vs wj hJ hd K hK => ?_) ?_
    · simp only [Jo.putl, Jo.zd, Jo.ze, Act.put, Jo.za, Jo.zb, Jo.zc] at hK ⊢
      rw [show vs 4 = _ from hd 4 (by decide), show vs 8 = _ from hd 8 (by decide), show vs 12 = _ from hd 12 (by decide)] at hK ⊢
      clear hd
      go_simp
      exact hK.out _ _ rfl (Below.refl _ _)
    refine Jo.jd 14 (some 71) [(some 61, 4), (some 70, 13)] (Jo.Fact.eq (.bool false)) rfl rfl rfl rfl (fun vs wj hJ hd K hK => ?_) ?_
    · simp only [Jo.putl, Jo.zd, Jo.ze, Act.put, Jo.za, Jo.zb, Jo.zc] at hK ⊢
      rw [show vs 4 = _ from hd 4 (by decide), show vs 13 = _ from hd 13 (by decide)] at hK ⊢
      clear hd
      go_simp
      exact hK.out _ _ rfl (Below.refl _ _)
    refine Jo.jd 15 (some 72) [(some 71, 14)] (Jo.Fact.eq (.bool false)) rfl rfl rfl rfl (fun vs wj hJ hd K hK => ?_) ?_
    · simp only [Jo.putl, Jo.zd, Jo.ze, Act.put, Jo.za, Jo.zb, Jo.zc] at hK ⊢
      rw [show vs 14 = _ from hd 14 (by decide)] at hK ⊢
      clear hd
      go_simp
      exact hK.out _ _ rfl (Below.refl _ _)
    refine Jo.jd 16 (some 73) [(some 72, 15)] (Jo.Fact.eq (.agg #[.bool (!s0), .slice a0 len0 cap0, .int .i64 e0])) rfl rfl rfl rfl (fun vs wj hJ hd K hK => ?_) ?_
    · simp only [Jo.putl, Jo.zd, Jo.ze, Act.put, Jo.za, Jo.zb, Jo.zc] at hK ⊢
      rw [show vs 15 = _ from hd 15 (by decide)] at hK ⊢
      clear hd
      have xX90 := (X9.below hJ).a 0 (.bool (!s0)) rfl
      have xX91 := (X9.below hJ).a 1 (.slice a0 len0 cap0) rfl
      have xX92 := (X9.below hJ).a 2 (.int .i64 e0) rfl
      go_simp
      exact hK.out _ _ rfl (Below.refl _ _)
    refine Jo.jd 17 (some 74) [(some 72, 15), (some 73, 16)] (Jo.Fact.num (-l)) rfl rfl rfl rfl (fun vs wj hJ hd K hK => ?_) ?_
    · simp only [Jo.putl, Jo.zd, Jo.ze, Act.put, Jo.za, Jo.zb, Jo.zc] at hK ⊢
      rw [show vs 15 = _ from hd 15 (by decide), show vs 16 = _ from hd 16 (by decide)] at hK ⊢
      clear hd
      go_simp
      refine (kFrom (hT.below hJ) (h0.below hJ) (by omega) HMO.out HFO.out).mono ?_
      rintro ee wk ⟨K6, s6, M6, E6, rfl, q6, B⟩
      exact hK.out _ _ ⟨K6, s6, M6, E6, rfl, q6⟩ B
    refine Jo.jd 18 (some 75) [(some 72, 15), (some 74, 17)] (Jo.Fact.num l) rfl rfl rfl rfl (fun vs wj hJ hd K hK => ?_) ?_
    · have d17 : (Jo.Fact.num (-l)).P (vs 17) wj := hd 17 (by decide)
      simp only [Jo.putl, Jo.zd, Jo.ze, Act.put, Jo.za, Jo.zb, Jo.zc] at hK ⊢
      rw [show vs 15 = _ from hd 15 (by decide)] at hK ⊢
      clear hd
      generalize vs 17 = u17 at hK d17 ⊢
      obtain ⟨K6, s6, M6, E6, rfl, q6⟩ := d17
      go_simp
      refine (nNeg (r := l) q6.top (by rw [q6.rk]; omega)).mono ?_
      rintro ee wk ⟨K7, s7, M7, E7, rfl, q7, B⟩
      exact hK.out _ _ ⟨K7, s7, M7, E7, rfl, q7⟩ B
    refine Jo.jd 19 (some 76) [(some 72, 15)] (Jo.Fact.eq (.agg #[.int .i64 K3, .bool s3, .int .u64 M3, .int .i64 E3])) rfl rfl rfl rfl (fun vs wj hJ hd K hK => ?_) ?_
    · simp only [Jo.putl, Jo.zd, Jo.ze, Act.put, Jo.za, Jo.zb, Jo.zc] at hK ⊢
      rw [show vs 15 = _ from hd 15 (by decide)] at hK ⊢
      clear hd
      have xX60 := (X6.below hJ).a 0 (.int .i64 K3) rfl
      have xX61 := (X6.below hJ).a 1 (.bool s3) rfl
      have xX62 := (X6.below hJ).a 2 (.int .u64 M3) rfl
      have xX63 := (X6.below hJ).a 3 (.int .i64 E3) rfl
      go_simp
      exact hK.out _ _ rfl (Below.refl _ _)
    refine Jo.jd 20 (some 77) [(some 72, 15), (some 75, 18), (some 76, 19)] (Jo.Fact.eq (.bool false)) rfl rfl rfl rfl (fun vs wj hJ hd K hK => ?_) ?_
    · have d18 : (Jo.Fact.num l).P (vs 18) wj := hd 18 (by decide)
      simp only [Jo.putl, Jo.zd, Jo.ze, Act.put, Jo.za, Jo.zb, Jo.zc] at hK ⊢
      rw [show vs 15 = _ from hd 15 (by decide), show vs 19 = _ from hd 19 (by decide)] at hK ⊢
      clear hd
      generalize vs 18 = u18 at hK d18 ⊢
      obtain ⟨K7, s7, M7, E7, rfl, q7⟩ := d18
      obtain ⟨rfl, rfl, rfl, rfl⟩ := q7.uniq q3
      go_simp
      exact hK.out _ _ (by first | rfl | (show Value.bool _ = Value.bool _; simp)) (Below.refl _ _)
    refine Jo.jd 21 (some 78) [(some 72, 15), (some 77, 20)] (Jo.Fact.eq (.bool false)) rfl rfl rfl rfl (fun vs wj hJ hd K hK => ?_) ?_
    · simp only [Jo.putl, Jo.zd, Jo.ze, Act.put, Jo.za, Jo.zb, Jo.zc] at hK ⊢
      rw [show vs 15 = _ from hd 15 (by decide), show vs 20 = _ from hd 20 (by decide)] at hK ⊢
      clear hd
      go_simp
      exact hK.out _ _ rfl (Below.refl _ _)
    exact Jo.Steps.nil
  have d0 : (Jo.Fact.eq (.agg #[.int .i64 K3, .bool s3, .int .u64 M3, .int .i64 E3])).P (vs 0) w12 := hd 0 (by decide)
  have d1 : (Jo.Fact.eq (.agg #[.int .i64 K4, .bool s4, .int .u64 M4, .int .i64 E4])).P (vs 1) w12 := hd 1 (by decide)
  have d2 : (Jo.Fact.eq (.int .i64 c1)).P (vs 2) w12 := hd 2 (by decide)
  have d3 : (Jo.Fact.eq (.bool false)).P (vs 3) w12 := hd 3 (by decide)
  have d4 : (Jo.Fact.eq (.bool false)).P (vs 4) w12 := hd 4 (by decide)
  have d5 : (Jo.Fact.eq (.agg #[.int .i64 K3, .bool s3, .int .u64 M3, .int .i64 E3])).P (vs 5) w12 := hd 5 (by decide)
  have d6 : (Jo.Fact.eq (.agg #[.int .i64 K4, .bool s4, .int .u64 M4, .int .i64 E4])).P (vs 6) w12 := hd 6 (by decide)
  have d7 : (Jo.Fact.eq (.bool true)).P (vs 7) w12 := hd 7 (by decide)
  have d8 : (Jo.Fact.eq (.bool true)).P (vs 8) w12 := hd 8 (by decide)
  have d9 : (Jo.Fact.eq (.agg #[.int .i64 K3, .bool s3, .int .u64 M3, .int .i64 E3])).P (vs 9) w12 := hd 9 (by decide)
  have d10 : (Jo.Fact.num h).P (vs 10) w12 := hd 10 (by decide)
  have d11 : (Jo.Fact.eq (.agg #[.int .i64 K4, .bool s4, .int .u64 M4, .int .i64 E4])).P (vs 11) w12 := hd 11 (by decide)
  have d12 : (Jo.Fact.eq (.bool false)).P (vs 12) w12 := hd 12 (by decide)
  have d13 : (Jo.Fact.eq (.bool false)).P (vs 13) w12 := hd 13 (by decide)
  have d14 : (Jo.Fact.eq (.bool false)).P (vs 14) w12 := hd 14 (by decide)
  have d15 : (Jo.Fact.eq (.bool false)).P (vs 15) w12 := hd 15 (by decide)
  have d17 : (Jo.Fact.num (-l)).P (vs 17) w12 := hd 17 (by decide)
  have d18 : (Jo.Fact.num l).P (vs 18) w12 := hd 18 (by decide)
  simp only [Jo.putl, Jo.zd, Jo.ze, Act.put, Jo.za, Jo.zb, Jo.zc]
  rw [show vs 16 = _ from hd 16 (by decide), show vs 19 = _ from hd 19 (by decide), show vs 20 = _ from hd 20 (by decide), show vs 21 = _ from hd 21 (by decide)]
  clear hd
  generalize vs 0 = u0 at d0 ⊢
  generalize vs 1 = u1 at d1 ⊢
  generalize vs 2 = u2 at d2 ⊢
  generalize vs 3 = u3 at d3 ⊢
  generalize vs 4 = u4 at d4 ⊢
  generalize vs 5 = u5 at d5 ⊢
  generalize vs 6 = u6 at d6 ⊢
  generalize vs 7 = u7 at d7 ⊢
  generalize vs 8 = u8 at d8 ⊢
  generalize vs 9 = u9 at d9 ⊢
  generalize vs 10 = u10 at d10 ⊢
  generalize vs 11 = u11 at d11 ⊢
  generalize vs 12 = u12 at d12 ⊢
  generalize vs 13 = u13 at d13 ⊢
  generalize vs 14 = u14 at d14 ⊢
  generalize vs 15 = u15 at d15 ⊢
  generalize vs 17 = u17 at d17 ⊢
  generalize vs 18 = u18 at d18 ⊢
  replace d0 : u0 = _ := d0
  subst d0
  replace d1 : u1 = _ := d1
  subst d1
  replace d2 : u2 = _ := d2
  subst d2
  replace d3 : u3 = _ := d3
  subst d3
  replace d4 : u4 = _ := d4
  subst d4
  replace d5 : u5 = _ := d5
  subst d5
  replace d6 : u6 = _ := d6
  subst d6
  replace d7 : u7 = _ := d7
  subst d7
  replace d8 : u8 = _ := d8
  subst d8
  replace d9 : u9 = _ := d9
  subst d9
  obtain ⟨K8, s8, M8, E8, rfl, _⟩ := d10
  replace d11 : u11 = _ := d11
  subst d11
  replace d12 : u12 = _ := d12
  subst d12
  replace d13 : u13 = _ := d13
  subst d13
  replace d14 : u14 = _ := d14
  subst d14
  replace d15 : u15 = _ := d15
  subst d15
  obtain ⟨K6, s6, M6, E6, rfl, _⟩ := d17
  obtain ⟨K7, s7, M7, E7, rfl, _⟩ := d18
  replace X0 := X0.below hJ
  replace X1 := X1.below hJ
  replace X6 := X6.below hJ
  replace X7 := X7.below hJ
  replace X9 := X9.below hJ
  replace hT := hT.below hJ
  replace h0 := h0.below hJ
  replace h1 := h1.below hJ
  replace HB := Lib.hid (bt HB.out hJ)
  refine Jo.jdone (by kernel_rfl) ?_
  go_upto_region 13 with (fail)
  by_cases hc : 0 < κ
  · refine Jo.region_joint (T := [0, 1, 2, 3, 4, 5, 6, 7, 8, 9, 10, 11, 12, 13, 14, 15, 16]) (ds := [some 79, some 80, some 81, some 82, some 83, some 84, some 85, some 86, some 87, some 88, some 89, some 90, some 91, some 92, some 93, some 94, some 4]) (ls := [[], [0], [1], [2], [2], [2, 4], [2, 3, 5], [2, 6], [2, 7], [8], [8], [8, 10], [8, 9, 11], [8, 12], [2, 8, 13], [2, 14], [15]]) (k := 17) (L := [(some 79, 0), (some 80, 1), (some 81, 2), (some 82, 3), (some 83, 4), (some 84, 5), (some 85, 6), (some 86, 7), (some 87, 8), (some 88, 9), (some 89, 10), (some 90, 11), (some 91, 12), (some 92, 13), (some 93, 14), (some 94, 15), (some 4, 16)]) (fuel := 0) (J := fun wj => Below (World.heap w12).size w12 wj)
      (F := [Jo.Fact.eq (.int .i64 κ), Jo.Fact.eq (.bool true), Jo.Fact.eq (.bool true), Jo.Fact.eq undef, Jo.Fact.eq undef, Jo.Fact.eq undef, Jo.Fact.eq undef, Jo.Fact.eq undef, Jo.Fact.eq undef, Jo.Fact.eq undef, Jo.Fact.eq undef, Jo.Fact.eq undef, Jo.Fact.eq undef, Jo.Fact.eq undef, Jo.Fact.eq undef, Jo.Fact.eq (.bool true), Jo.Fact.eq (.bool true)])
      (by kernel_rfl) (by kernel_rfl) (by decide) rfl rfl (fun _ _ h b => bt h b) ((Below.refl _ _).drew) ?_ (fun vs w13 hJ hd => ?_)
    · refine Jo.jd 0 (some 79) [] (Jo.Fact.eq (.int .i64 κ)) rfl rfl rfl rfl (fun vs wj hJ hd K hK => ?_) ?_
      · simp only [Jo.putl, Jo.ze, Act.put, Jo.za, Jo.zb, Jo.zc] at hK ⊢
        clear hd
        go_simp
        exact hK.out _ _ rfl (Below.refl _ _)
      refine Jo.jd 1 (some 80) [(some 79, 0)] (Jo.Fact.eq (.bool true)) rfl rfl rfl rfl (fun vs wj hJ hd K hK => ?_) ?_
      · simp only [Jo.putl, Jo.zd, Jo.ze, Act.put, Jo.za, Jo.zb, Jo.zc] at hK ⊢
        rw [show vs 0 = _ from hd 0 (by decide)] at hK ⊢
        clear hd
        have ht := decide_eq_true hc
        go_simp
        exact hK.out _ _ (by first | rfl | (show Value.bool _ = Value.bool _; simp only [ht])) (Below.refl _ _)
      refine Jo.jd 2 (some 81) [(some 80, 1)] (Jo.Fact.eq (.bool true)) rfl rfl rfl rfl (fun vs wj hJ hd K hK => ?_) ?_
      · simp only [Jo.putl, Jo.zd, Jo.ze, Act.put, Jo.za, Jo.zb, Jo.zc] at hK ⊢
        rw [show vs 1 = _ from hd 1 (by decide)] at hK ⊢
        clear hd
        go_simp
        exact hK.out _ _ rfl (Below.refl _ _)
      refine Jo.jd 3 (some 82) [(some 81, 2)] (Jo.Fact.eq undef) rfl rfl rfl rfl (fun vs wj hJ hd K hK => ?_) ?_
      · simp only [Jo.putl, Jo.zd, Jo.ze, Act.put, Jo.za, Jo.zb, Jo.zc] at hK ⊢
        rw [show vs 2 = _ from hd 2 (by decide)] at hK ⊢
        clear hd
        go_simp
        exact hK.out _ _ rfl (Below.refl _ _)
      refine Jo.jd 4 (some 83) [(some 81, 2)] (Jo.Fact.eq undef) rfl rfl rfl rfl (fun vs wj hJ hd K hK => ?_) ?_
      · simp only [Jo.putl, Jo.zd, Jo.ze, Act.put, Jo.za, Jo.zb, Jo.zc] at hK ⊢
        rw [show vs 2 = _ from hd 2 (by decide)] at hK ⊢
        clear hd
        go_simp
        exact hK.out _ _ rfl (Below.refl _ _)
      refine Jo.jd 5 (some 84) [(some 81, 2), (some 83, 4)] (Jo.Fact.eq undef) rfl rfl rfl rfl (fun vs wj hJ hd K hK => ?_) ?_
      · have d4 : (Jo.Fact.eq undef).P (vs 4) wj := hd 4 (by decide)
        simp only [Jo.putl, Jo.zd, Jo.ze, Act.put, Jo.za, Jo.zb, Jo.zc] at hK ⊢
        rw [show vs 2 = _ from hd 2 (by decide)] at hK ⊢
        clear hd
        generalize vs 4 = u4 at hK d4 ⊢
        replace d4 : u4 = _ := d4
        subst d4
        go_simp
        exact hK.out _ _ rfl (Below.refl _ _)
      refine Jo.jd 6 (some 85) [(some 81, 2), (some 82, 3), (some 84, 5)] (Jo.Fact.eq undef) rfl rfl rfl rfl (fun vs wj hJ hd K hK => ?_) ?_
      · have d3 : (Jo.Fact.eq undef).P (vs 3) wj := hd 3 (by decide)
        have d5 : (Jo.Fact.eq undef).P (vs 5) wj := hd 5 (by decide)
        simp only [Jo.putl, Jo.zd, Jo.ze, Act.put, Jo.za, Jo.zb, Jo.zc] at hK ⊢
        rw [show vs 2 = _ from hd 2 (by decide)] at hK ⊢
        clear hd
        generalize vs 3 = u3 at hK d3 ⊢
        generalize vs 5 = u5 at hK d5 ⊢
        replace d3 : u3 = _ := d3
        subst d3
        replace d5 : u5 = _ := d5
        subst d5
        go_simp
        exact hK.out _ _ rfl (Below.refl _ _)
      refine Jo.jd 7 (some 86) [(some 81, 2), (some 85, 6)] (Jo.Fact.eq undef) rfl rfl rfl rfl (fun vs wj hJ hd K hK => ?_) ?_
      · have d6 : (Jo.Fact.eq undef).P (vs 6) wj := hd 6 (by decide)
        simp only [Jo.putl, Jo.zd, Jo.ze, Act.put, Jo.za, Jo.zb, Jo.zc] at hK ⊢
        rw [show vs 2 = _ from hd 2 (by decide)] at hK ⊢
        clear hd
        generalize vs 6 = u6 at hK d6 ⊢
        replace d6 : u6 = _ := d6
        subst d6
        go_simp
        exact hK.out _ _ rfl (Below.refl _ _)
      refine Jo.jd 8 (some 87) [(some 81, 2), (some 86, 7)] (Jo.Fact.eq undef) rfl rfl rfl rfl (fun vs wj hJ hd K hK => ?_) ?_
      · have d7 : (Jo.Fact.eq undef).P (vs 7) wj := hd 7 (by decide)
        simp only [Jo.putl, Jo.zd, Jo.ze, Act.put, Jo.za, Jo.zb, Jo.zc] at hK ⊢
        rw [show vs 2 = _ from hd 2 (by decide)] at hK ⊢
        clear hd
        generalize vs 7 = u7 at hK d7 ⊢
        replace d7 : u7 = _ := d7
        subst d7
        go_simp
        exact hK.out _ _ rfl (Below.refl _ _)
      refine Jo.jd 9 (some 88) [(some 87, 8)] (Jo.Fact.eq undef) rfl rfl rfl rfl (fun vs wj hJ hd K hK => ?_) ?_
      · have d8 : (Jo.Fact.eq undef).P (vs 8) wj := hd 8 (by decide)
        simp only [Jo.putl, Jo.zd, Jo.ze, Act.put, Jo.za, Jo.zb, Jo.zc] at hK ⊢
        clear hd
        generalize vs 8 = u8 at hK d8 ⊢
        replace d8 : u8 = _ := d8
        subst d8
        go_simp
        exact hK.out _ _ rfl (Below.refl _ _)
      refine Jo.jd 10 (some 89) [(some 87, 8)] (Jo.Fact.eq undef) rfl rfl rfl rfl (fun vs wj hJ hd K hK => ?_) ?_
      · have d8 : (Jo.Fact.eq undef).P (vs 8) wj := hd 8 (by decide)
        simp only [Jo.putl, Jo.zd, Jo.ze, Act.put, Jo.za, Jo.zb, Jo.zc] at hK ⊢
        clear hd
        generalize vs 8 = u8 at hK d8 ⊢
        replace d8 : u8 = _ := d8
        subst d8
        go_simp
        exact hK.out _ _ rfl (Below.refl _ _)
      refine Jo.jd 11 (some 90) [(some 87, 8), (some 89, 10)] (Jo.Fact.eq undef) rfl rfl rfl rfl (fun vs wj hJ hd K hK => ?_) ?_
      · have d8 : (Jo.Fact.eq undef).P (vs 8) wj := hd 8 (by decide)
        have d10 : (Jo.Fact.eq undef).P (vs 10) wj := hd 10 (by decide)
        simp only [Jo.putl, Jo.zd, Jo.ze, Act.put, Jo.za, Jo.zb, Jo.zc] at hK ⊢
        clear hd
        generalize vs 8 = u8 at hK d8 ⊢
        generalize vs 10 = u10 at hK d10 ⊢
        replace d8 : u8 = _ := d8
        subst d8
        replace d10 : u10 = _ := d10
        subst d10
        go_simp
        exact hK.out _ _ rfl (Below.refl _ _)
      refine Jo.jd 12 (some 91) [(some 87, 8), (some 88, 9), (some 90, 11)] (Jo.Fact.eq undef) rfl rfl rfl rfl (fun vs wj hJ hd K hK => ?_) ?_
      · have d8 : (Jo.Fact.eq undef).P (vs 8) wj := hd 8 (by decide)
        have d9 : (Jo.Fact.eq undef).P (vs 9) wj := hd 9 (by decide)
        have d11 : (Jo.Fact.eq undef).P (vs 11) wj := hd 11 (by decide)
        simp only [Jo.putl, Jo.zd, Jo.ze, Act.put, Jo.za, Jo.zb, Jo.zc] at hK ⊢
        clear hd
        generalize vs 8 = u8 at hK d8 ⊢
        generalize vs 9 = u9 at hK d9 ⊢
        generalize vs 11 = u11 at hK d11 ⊢
        replace d8 : u8 = _ := d8
        subst d8
        replace d9 : u9 = _ := d9
        subst d9
        replace d11 : u11 = _ := d11
        subst d11
        go_simp
        exact hK.out _ _ rfl (Below.refl _ _)
      refine Jo.jd 13 (some 92) [(some 87, 8), (some 91, 12)] (Jo.Fact.eq undef) rfl rfl rfl rfl (fun vs wj hJ hd K hK => ?_) ?_
      · have d8 : (Jo.Fact.eq undef).P (vs 8) wj := hd 8 (by decide)
        have d12 : (Jo.Fact.eq undef).P (vs 12) wj := hd 12 (by decide)
        simp only [Jo.putl, Jo.zd, Jo.ze, Act.put, Jo.za, Jo.zb, Jo.zc] at hK ⊢
        clear hd
        generalize vs 8 = u8 at hK d8 ⊢
        generalize vs 12 = u12 at hK d12 ⊢
        replace d8 : u8 = _ := d8
        subst d8
        replace d12 : u12 = _ := d12
        subst d12
        go_simp
        exact hK.out _ _ rfl (Below.refl _ _)
      refine Jo.jd 14 (some 93) [(some 81, 2), (some 87, 8), (some 92, 13)] (Jo.Fact.eq undef) rfl rfl rfl rfl (fun vs wj hJ hd K hK => ?_) ?_
      · have d8 : (Jo.Fact.eq undef).P (vs 8) wj := hd 8 (by decide)
        have d13 : (Jo.Fact.eq undef).P (vs 13) wj := hd 13 (by decide)
        simp only [Jo.putl, Jo.zd, Jo.ze, Act.put, Jo.za, Jo.zb, Jo.zc] at hK ⊢
        rw [show vs 2 = _ from hd 2 (by decide)] at hK ⊢
        clear hd
        generalize vs 8 = u8 at hK d8 ⊢
        generalize vs 13 = u13 at hK d13 ⊢
        replace d8 : u8 = _ := d8
        subst d8
        replace d13 : u13 = _ := d13
        subst d13
        go_simp
        exact hK.out _ _ rfl (Below.refl _ _)
      refine Jo.jd 15 (some 94) [(some 81, 2), (some 93, 14)] (Jo.Fact.eq (.bool true)) rfl rfl rfl rfl (fun vs wj hJ hd K hK => ?_) ?_
      · have d14 : (Jo.Fact.eq undef).P (vs 14) wj := hd 14 (by decide)
        simp only [Jo.putl, Jo.zd, Jo.ze, Act.put, Jo.za, Jo.zb, Jo.zc] at hK ⊢
        rw [show vs 2 = _ from hd 2 (by decide)] at hK ⊢
        clear hd
        generalize vs 14 = u14 at hK d14 ⊢
        replace d14 : u14 = _ := d14
        subst d14
        go_simp
        exact hK.out _ _ rfl (Below.refl _ _)
      refine Jo.jd 16 (some 4) [(some 94, 15)] (Jo.Fact.eq (.bool true)) rfl rfl rfl rfl (fun vs wj hJ hd K hK => ?_) ?_
      · simp only [Jo.putl, Jo.zd, Jo.ze, Act.put, Jo.za, Jo.zb, Jo.zc] at hK ⊢
        rw [show vs 15 = _ from hd 15 (by decide)] at hK ⊢
        clear hd
        go_simp
        exact hK.out _ _ rfl (Below.refl _ _)
      exact Jo.Steps.nil
    have d0 : (Jo.Fact.eq (.int .i64 κ)).P (vs 0) w13 := hd 0 (by decide)
    have d1 : (Jo.Fact.eq (.bool true)).P (vs 1) w13 := hd 1 (by decide)
    have d2 : (Jo.Fact.eq (.bool true)).P (vs 2) w13 := hd 2 (by decide)
    have d3 : (Jo.Fact.eq undef).P (vs 3) w13 := hd 3 (by decide)
    have d4 : (Jo.Fact.eq undef).P (vs 4) w13 := hd 4 (by decide)
    have d5 : (Jo.Fact.eq undef).P (vs 5) w13 := hd 5 (by decide)
    have d6 : (Jo.Fact.eq undef).P (vs 6) w13 := hd 6 (by decide)
    have d7 : (Jo.Fact.eq undef).P (vs 7) w13 := hd 7 (by decide)
    have d8 : (Jo.Fact.eq undef).P (vs 8) w13 := hd 8 (by decide)
    have d9 : (Jo.Fact.eq undef).P (vs 9) w13 := hd 9 (by decide)
    have d10 : (Jo.Fact.eq undef).P (vs 10) w13 := hd 10 (by decide)
    have d11 : (Jo.Fact.eq undef).P (vs 11) w13 := hd 11 (by decide)
    have d12 : (Jo.Fact.eq undef).P (vs 12) w13 := hd 12 (by decide)
    have d13 : (Jo.Fact.eq undef).P (vs 13) w13 := hd 13 (by decide)
    have d14 : (Jo.Fact.eq undef).P (vs 14) w13 := hd 14 (by decide)
    have d15 : (Jo.Fact.eq (.bool true)).P (vs 15) w13 := hd 15 (by decide)
    simp only [Jo.putl, Jo.zd, Jo.ze, Act.put, Jo.za, Jo.zb, Jo.zc]
    rw [show vs 16 = _ from hd 16 (by decide)]
    clear hd
    generalize vs 0 = u0 at d0 ⊢
    generalize vs 1 = u1 at d1 ⊢
    generalize vs 2 = u2 at d2 ⊢
    generalize vs 3 = u3 at d3 ⊢
    generalize vs 4 = u4 at d4 ⊢
    generalize vs 5 = u5 at d5 ⊢
    generalize vs 6 = u6 at d6 ⊢
    generalize vs 7 = u7 at d7 ⊢
    generalize vs 8 = u8 at d8 ⊢
    generalize vs 9 = u9 at d9 ⊢
    generalize vs 10 = u10 at d10 ⊢
    generalize vs 11 = u11 at d11 ⊢
    generalize vs 12 = u12 at d12 ⊢
    generalize vs 13 = u13 at d13 ⊢
    generalize vs 14 = u14 at d14 ⊢
    generalize vs 15 = u15 at d15 ⊢
    replace d0 : u0 = _ := d0
    subst d0
    replace d1 : u1 = _ := d1
    subst d1
    replace d2 : u2 = _ := d2
    subst d2
    replace d3 : u3 = _ := d3
    subst d3
    replace d4 : u4 = _ := d4
    subst d4
    replace d5 : u5 = _ := d5
    subst d5
    replace d6 : u6 = _ := d6
    subst d6
    replace d7 : u7 = _ := d7
    subst d7
    replace d8 : u8 = _ := d8
    subst d8
    replace d9 : u9 = _ := d9
    subst d9
    replace d10 : u10 = _ := d10
    subst d10
    replace d11 : u11 = _ := d11
    subst d11
    replace d12 : u12 = _ := d12
    subst d12
    replace d13 : u13 = _ := d13
    subst d13
    replace d14 : u14 = _ := d14
    subst d14
    replace d15 : u15 = _ := d15
    subst d15
    replace X0 := X0.below hJ
    replace X1 := X1.below hJ
    replace X6 := X6.below hJ
    replace X7 := X7.below hJ
    replace X9 := X9.below hJ
    replace hT := hT.below hJ
    replace h0 := h0.below hJ
    replace h1 := h1.below hJ
    replace HB := Lib.hid (bt HB.out hJ)
    refine Jo.jdone (by kernel_rfl) ?_
    go_wp2
    go_ret
    exact ⟨rfl, HB.out⟩
  · refine Jo.region_joint (T := [0, 1, 2, 3, 4, 5, 6, 7, 8, 9, 10, 11, 12, 13, 14, 15, 16]) (ds := [some 79, some 80, some 81, some 82, some 83, some 84, some 85, some 86, some 87, some 88, some 89, some 90, some 91, some 92, some 93, some 94, some 4]) (ls := [[], [0], [1], [2], [2], [2, 4], [2, 3, 5], [2, 6], [2, 7], [8], [8], [8, 10], [8, 9, 11], [8, 12], [2, 8, 13], [2, 14], [15]]) (k := 17) (L := [(some 79, 0), (some 80, 1), (some 81, 2), (some 82, 3), (some 83, 4), (some 84, 5), (some 85, 6), (some 86, 7), (some 87, 8), (some 88, 9), (some 89, 10), (some 90, 11), (some 91, 12), (some 92, 13), (some 93, 14), (some 94, 15), (some 4, 16)]) (fuel := 0) (J := fun wj => Below (World.heap w12).size w12 wj)
      (F := [Jo.Fact.eq (.int .i64 κ), Jo.Fact.eq (.bool false), Jo.Fact.eq (.bool false), Jo.Fact.eq (.agg #[.int .i64 K3, .bool s3, .int .u64 M3, .int .i64 E3]), Jo.Fact.eq (.agg #[.bool s1, .slice a1 len1 cap1, .int .i64 e1]), Jo.Fact.num lb, Jo.Fact.eq (.int .i64 c2), Jo.Fact.eq (.bool true), Jo.Fact.eq (.bool true), Jo.Fact.eq (.agg #[.int .i64 K4, .bool s4, .int .u64 M4, .int .i64 E4]), Jo.Fact.eq (.agg #[.bool s1, .slice a1 len1 cap1, .int .i64 e1]), Jo.Fact.num hb, Jo.Fact.eq (.int .i64 c3), Jo.Fact.eq (.bool true), Jo.Fact.eq (.bool true), Jo.Fact.eq (.bool true), Jo.Fact.eq (.bool true)])
      (by kernel_rfl) (by kernel_rfl) (by decide) rfl rfl (fun _ _ h b => bt h b) ((Below.refl _ _).drew) ?_ (fun vs w13 hJ hd => ?_)
    · refine Jo.jd 0 (some 79) [] (Jo.Fact.eq (.int .i64 κ)) rfl rfl rfl rfl (fun vs wj hJ hd K hK => ?_) ?_
      · simp only [Jo.putl, Jo.ze, Act.put, Jo.za, Jo.zb, Jo.zc] at hK ⊢
        clear hd
        go_simp
        exact hK.out _ _ rfl (Below.refl _ _)
      refine Jo.jd 1 (some 80) [(some 79, 0)] (Jo.Fact.eq (.bool false)) rfl rfl rfl rfl (fun vs wj hJ hd K hK => ?_) ?_
      · simp only [Jo.putl, Jo.zd, Jo.ze, Act.put, Jo.za, Jo.zb, Jo.zc] at hK ⊢
        rw [show vs 0 = _ from hd 0 (by decide)] at hK ⊢
        clear hd
        have ht := decide_eq_false hc
        go_simp
        exact hK.out _ _ (by first | rfl | (show Value.bool _ = Value.bool _; simp only [ht])) (Below.refl _ _)
      refine Jo.jd 2 (some 81) [(some 80, 1)] (Jo.Fact.eq (.bool false)) rfl rfl rfl rfl (fun vs wj hJ hd K hK => ?_) ?_
      · simp only [Jo.putl, Jo.zd, Jo.ze, Act.put, Jo.za, Jo.zb, Jo.zc] at hK ⊢
        rw [show vs 1 = _ from hd 1 (by decide)] at hK ⊢
        clear hd
        go_simp
        exact hK.out _ _ rfl (Below.refl _ _)
      refine Jo.jd 3 (some 82) [(some 81, 2)] (Jo.Fact.eq (.agg #[.int .i64 K3, .bool s3, .int .u64 M3, .int .i64 E3])) rfl rfl rfl rfl (fun vs wj hJ hd K hK => ?_) ?_
      · simp only [Jo.putl, Jo.zd, Jo.ze, Act.put, Jo.za, Jo.zb, Jo.zc] at hK ⊢
        rw [show vs 2 = _ from hd 2 (by decide)] at hK ⊢
        clear hd
        have xX60 := (X6.below hJ).a 0 (.int .i64 K3) rfl
        have xX61 := (X6.below hJ).a 1 (.bool s3) rfl
        have xX62 := (X6.below hJ).a 2 (.int .u64 M3) rfl
        have xX63 := (X6.below hJ).a 3 (.int .i64 E3) rfl
        go_simp
        exact hK.out _ _ rfl (Below.refl _ _)
      refine Jo.jd 4 (some 83) [(some 81, 2)] (Jo.Fact.eq (.agg #[.bool s1, .slice a1 len1 cap1, .int .i64 e1])) rfl rfl rfl rfl (fun vs wj hJ hd K hK => ?_) ?_
      · simp only [Jo.putl, Jo.zd, Jo.ze, Act.put, Jo.za, Jo.zb, Jo.zc] at hK ⊢
        rw [show vs 2 = _ from hd 2 (by decide)] at hK ⊢
        clear hd
        have xX10 := (X1.below hJ).a 0 (.bool s1) rfl
        have xX11 := (X1.below hJ).a 1 (.slice a1 len1 cap1) rfl
        have xX12 := (X1.below hJ).a 2 (.int .i64 e1) rfl
        go_simp
        exact hK.out _ _ rfl (Below.refl _ _)
      refine Jo.jd 5 (some 84) [(some 81, 2), (some 83, 4)] (Jo.Fact.num lb) rfl rfl rfl rfl (fun vs wj hJ hd K hK => ?_) ?_
      · simp only [Jo.putl, Jo.zd, Jo.ze, Act.put, Jo.za, Jo.zb, Jo.zc] at hK ⊢
        rw [show vs 2 = _ from hd 2 (by decide), show vs 4 = _ from hd 4 (by decide)] at hK ⊢
        clear hd
        go_simp
        refine (kFrom (hT.below hJ) (h1.below hJ) (by omega) HM1.out HLB.out).mono ?_
        rintro ee wk ⟨K9, s9, M9, E9, rfl, q9, B⟩
        exact hK.out _ _ ⟨K9, s9, M9, E9, rfl, q9⟩ B
      refine Jo.jd 6 (some 85) [(some 81, 2), (some 82, 3), (some 84, 5)] (Jo.Fact.eq (.int .i64 c2)) rfl rfl rfl rfl (fun vs wj hJ hd K hK => ?_) ?_
      · have d5 : (Jo.Fact.num lb).P (vs 5) wj := hd 5 (by decide)
        simp only [Jo.putl, Jo.zd, Jo.ze, Act.put, Jo.za, Jo.zb, Jo.zc] at hK ⊢
        rw [show vs 2 = _ from hd 2 (by decide), show vs 3 = _ from hd 3 (by decide)] at hK ⊢
        clear hd
        generalize vs 5 = u5 at hK d5 ⊢
        obtain ⟨K9, s9, M9, E9, rfl, q9⟩ := d5
        go_simp
        refine (nCmp (z := c2) q3.top q9.top (by rw [q3.rk, q9.rk]; exact HC2.out)).mono ?_
        rintro ee wk ⟨rfl, B⟩
        exact hK.out _ _ rfl B
      refine Jo.jd 7 (some 86) [(some 81, 2), (some 85, 6)] (Jo.Fact.eq (.bool true)) rfl rfl rfl rfl (fun vs wj hJ hd K hK => ?_) ?_
      · simp only [Jo.putl, Jo.zd, Jo.ze, Act.put, Jo.za, Jo.zb, Jo.zc] at hK ⊢
        rw [show vs 2 = _ from hd 2 (by decide), show vs 6 = _ from hd 6 (by decide)] at hK ⊢
        clear hd
        have ht := (HT4.out (by omega)).1
        go_simp
        exact hK.out _ _ (by first | rfl | (show Value.bool _ = Value.bool _; simp only [ht])) (Below.refl _ _)
      refine Jo.jd 8 (some 87) [(some 81, 2), (some 86, 7)] (Jo.Fact.eq (.bool true)) rfl rfl rfl rfl (fun vs wj hJ hd K hK => ?_) ?_
      · simp only [Jo.putl, Jo.zd, Jo.ze, Act.put, Jo.za, Jo.zb, Jo.zc] at hK ⊢
        rw [show vs 2 = _ from hd 2 (by decide), show vs 7 = _ from hd 7 (by decide)] at hK ⊢
        clear hd
        go_simp
        exact hK.out _ _ rfl (Below.refl _ _)
      refine Jo.jd 9 (some 88) [(some 87, 8)] (Jo.Fact.eq (.agg #[.int .i64 K4, .bool s4, .int .u64 M4, .int .i64 E4])) rfl rfl rfl rfl (fun vs wj hJ hd K hK => ?_) ?_
      · simp only [Jo.putl, Jo.zd, Jo.ze, Act.put, Jo.za, Jo.zb, Jo.zc] at hK ⊢
        rw [show vs 8 = _ from hd 8 (by decide)] at hK ⊢
        clear hd
        have xX70 := (X7.below hJ).a 0 (.int .i64 K4) rfl
        have xX71 := (X7.below hJ).a 1 (.bool s4) rfl
        have xX72 := (X7.below hJ).a 2 (.int .u64 M4) rfl
        have xX73 := (X7.below hJ).a 3 (.int .i64 E4) rfl
        go_simp
        exact hK.out _ _ rfl (Below.refl _ _)
      refine Jo.jd 10 (some 89) [(some 87, 8)] (Jo.Fact.eq (.agg #[.bool s1, .slice a1 len1 cap1, .int .i64 e1])) rfl rfl rfl rfl (fun vs wj hJ hd K hK => ?_) ?_
      · simp only [Jo.putl, Jo.zd, Jo.ze, Act.put, Jo.za, Jo.zb, Jo.zc] at hK ⊢
        rw [show vs 8 = _ from hd 8 (by decide)] at hK ⊢
        clear hd
        have xX10 := (X1.below hJ).a 0 (.bool s1) rfl
        have xX11 := (X1.below hJ).a 1 (.slice a1 len1 cap1) rfl
        have xX12 := (X1.below hJ).a 2 (.int .i64 e1) rfl
        go_simp
        exact hK.out _ _ rfl (Below.refl _ _)
      refine Jo.jd 11 (some 90) [(some 87, 8), (some 89, 10)] (Jo.Fact.num hb) rfl rfl rfl rfl (fun vs wj hJ hd K hK => ?_) ?_
      · simp only [Jo.putl, Jo.zd, Jo.ze, Act.put, Jo.za, Jo.zb, Jo.zc] at hK ⊢
        rw [show vs 8 = _ from hd 8 (by decide), show vs 10 = _ from hd 10 (by decide)] at hK ⊢
        clear hd
        go_simp
        refine (kFrom (hT.below hJ) (h1.below hJ) (by omega) HM1.out HHB_.out).mono ?_
        rintro ee wk ⟨K10, s10, M10, E10, rfl, q10, B⟩
        exact hK.out _ _ ⟨K10, s10, M10, E10, rfl, q10⟩ B
      refine Jo.jd 12 (some 91) [(some 87, 8), (some 88, 9), (some 90, 11)] (Jo.Fact.eq (.int .i64 c3)) rfl rfl rfl rfl (fun vs wj hJ hd K hK => ?_) ?_
      · have d11 : (Jo.Fact.num hb).P (vs 11) wj := hd 11 (by decide)
        simp only [Jo.putl, Jo.zd, Jo.ze, Act.put, Jo.za, Jo.zb, Jo.zc] at hK ⊢
        rw [show vs 8 = _ from hd 8 (by decide), show vs 9 = _ from hd 9 (by decide)] at hK ⊢
        clear hd
        generalize vs 11 = u11 at hK d11 ⊢
        obtain ⟨K10, s10, M10, E10, rfl, q10⟩ := d11
        go_simp
        refine (nCmp (z := c3) q4.top q10.top (by rw [q4.rk, q10.rk]; exact HC3.out)).mono ?_
        rintro ee wk ⟨rfl, B⟩
        exact hK.out _ _ rfl B
      refine Jo.jd 13 (some 92) [(some 87, 8), (some 91, 12)] (Jo.Fact.eq (.bool true)) rfl rfl rfl rfl (fun vs wj hJ hd K hK => ?_) ?_
      · simp only [Jo.putl, Jo.zd, Jo.ze, Act.put, Jo.za, Jo.zb, Jo.zc] at hK ⊢
        rw [show vs 8 = _ from hd 8 (by decide), show vs 12 = _ from hd 12 (by decide)] at hK ⊢
        clear hd
        have ht := (HT4.out (by omega)).2
        go_simp
        exact hK.out _ _ (by first | rfl | (show Value.bool _ = Value.bool _; simp only [ht])) (Below.refl _ _)
      refine Jo.jd 14 (some 93) [(some 81, 2), (some 87, 8), (some 92, 13)] (Jo.Fact.eq (.bool true)) rfl rfl rfl rfl (fun vs wj hJ hd K hK => ?_) ?_
      · simp only [Jo.putl, Jo.zd, Jo.ze, Act.put, Jo.za, Jo.zb, Jo.zc] at hK ⊢
        rw [show vs 2 = _ from hd 2 (by decide), show vs 8 = _ from hd 8 (by decide), show vs 13 = _ from hd 13 (by decide)] at hK ⊢
        clear hd
        go_simp
        exact hK.out _ _ rfl (Below.refl _ _)
      refine Jo.jd 15 (some 94) [(some 81, 2), (some 93, 14)] (Jo.Fact.eq (.bool true)) rfl rfl rfl rfl (fun vs wj hJ hd K hK => ?_) ?_
      · simp only [Jo.putl, Jo.zd, Jo.ze, Act.put, Jo.za, Jo.zb, Jo.zc] at hK ⊢
        rw [show vs 2 = _ from hd 2 (by decide), show vs 14 = _ from hd 14 (by decide)] at hK ⊢
        clear hd
        go_simp
        exact hK.out _ _ rfl (Below.refl _ _)
      refine Jo.jd 16 (some 4) [(some 94, 15)] (Jo.Fact.eq (.bool true)) rfl rfl rfl rfl (fun vs wj hJ hd K hK => ?_) ?_
      · simp only [Jo.putl, Jo.zd, Jo.ze, Act.put, Jo.za, Jo.zb, Jo.zc] at hK ⊢
        rw [show vs 15 = _ from hd 15 (by decide)] at hK ⊢
        clear hd
        go_simp
        exact hK.out _ _ rfl (Below.refl _ _)
      exact Jo.Steps.nil
    have d5 : (Jo.Fact.num lb).P (vs 5) w13 := hd 5 (by decide)
    have d11 : (Jo.Fact.num hb).P (vs 11) w13 := hd 11 (by decide)
    simp only [Jo.putl, Jo.zd, Jo.ze, Act.put, Jo.za, Jo.zb, Jo.zc]
    rw [show vs 0 = _ from hd 0 (by decide), show vs 1 = _ from hd 1 (by decide), show vs 2 = _ from hd 2 (by decide), show vs 3 = _ from hd 3 (by decide), show vs 4 = _ from hd 4 (by decide), show vs 6 = _ from hd 6 (by decide), show vs 7 = _ from hd 7 (by decide), show vs 8 = _ from hd 8 (by decide), show vs 9 = _ from hd 9 (by decide), show vs 10 = _ from hd 10 (by decide), show vs 12 = _ from hd 12 (by decide), show vs 13 = _ from hd 13 (by decide), show vs 14 = _ from hd 14 (by decide), show vs 15 = _ from hd 15 (by decide), show vs 16 = _ from hd 16 (by decide)]
    clear hd
    generalize vs 5 = u5 at d5 ⊢
    generalize vs 11 = u11 at d11 ⊢
    obtain ⟨K9, s9, M9, E9, rfl, _⟩ := d5
    obtain ⟨K10, s10, M10, E10, rfl, _⟩ := d11
    replace X0 := X0.below hJ
    replace X1 := X1.below hJ
    replace X6 := X6.below hJ
    replace X7 := X7.below hJ
    replace X9 := X9.below hJ
    replace hT := hT.below hJ
    replace h0 := h0.below hJ
    replace h1 := h1.below hJ
    replace HB := Lib.hid (bt HB.out hJ)
    refine Jo.jdone (by kernel_rfl) ?_
    go_wp2
    go_ret
    exact ⟨rfl, HB.out⟩

theorem quotDecimals_walk (s0 : Bool) (a0 : Option Addr) (len0 cap0 : Nat) (y0 : List Int) (e0 : Int) (s1 : Bool) (a1 : Option Addr) (len1 cap1 : Nat) (y1 : List Int) (e1 : Int) (w : World) (hT : Tab w) (w0 : RowIn w a0 len0 cap0 y0) (f0 : -9223372036854775808 ≤ e0) (g0 : e0 ≤ 9223372036854775807) (w1 : RowIn w a1 len1 cap1 y1) (f1 : -9223372036854775808 ≤ e1) (g1 : e1 ≤ 9223372036854775807) :
    Calls Tryd.prog 5 #[.agg #[.bool s0, .slice a0 len0 cap0, .int .i64 e0], .agg #[.bool s1, .slice a1 len1 cap1, .int .i64 e1]] w fun e w' => e = .returned (.bool true) ∧ Below w.heap.size w w' := by
  by_cases l0 : len0 ≤ 10
  · by_cases l1 : len1 ≤ 10
    · obtain ⟨a, r0⟩ := w0.rd (by omega)
      obtain ⟨b, r1⟩ := w1.rd (by omega)
      cases m0 : mayC s0 len0 a e0
      · exact quotDecimals_no0 s0 a0 len0 cap0 e0 s1 a1 len1 cap1 e1 w a b _ hT r0 r1 l0 l1 m0 rfl
      · cases m1 : mayC s1 len1 b e1
        · exact quotDecimals_no1 s0 a0 len0 cap0 e0 s1 a1 len1 cap1 e1 w a b hT r0 r1 l0 l1 m0 m1
        · obtain ⟨l, hl⟩ := fm_ex false true (sg s0 a) e0
          obtain ⟨h, hh⟩ := fm_ex true true (sg s0 a) e0
          obtain ⟨lb, hlb⟩ := fm_ex false true (sg s1 b) e1
          obtain ⟨hb, hhb⟩ := fm_ex true true (sg s1 b) e1
          by_cases z : len0 = 0
          · rcases fm_two hl hh with e | e
            · exact quotDecimals_zsame s0 a0 len0 cap0 e0 s1 a1 len1 cap1 e1 w a b l h lb hb _ hT r0 r1 l0 l1 m0 m1 hl hh hlb hhb rfl z e
            · exact quotDecimals_znext s0 a0 len0 cap0 e0 s1 a1 len1 cap1 e1 w a b l h lb hb _ hT r0 r1 l0 l1 m0 m1 hl hh hlb hhb rfl z e
          · rcases fm_two hl hh with e | e
            · exact quotDecimals_psame s0 a0 len0 cap0 e0 s1 a1 len1 cap1 e1 w a b l h lb hb _ hT r0 r1 l0 l1 m0 m1 hl hh hlb hhb rfl (by omega) e
            · exact quotDecimals_pnext s0 a0 len0 cap0 e0 s1 a1 len1 cap1 e1 w a b l h lb hb _ hT r0 r1 l0 l1 m0 m1 hl hh hlb hhb rfl (by omega) e
    · exact quotDecimals_far1 s0 a0 len0 cap0 e0 s1 a1 len1 cap1 e1 w hT l0 (by omega)
  · exact quotDecimals_far0 s0 a0 len0 cap0 e0 s1 a1 len1 cap1 e1 w hT (by omega)
end Go.Proofs.YtpmakljahhhnfaaDoor
