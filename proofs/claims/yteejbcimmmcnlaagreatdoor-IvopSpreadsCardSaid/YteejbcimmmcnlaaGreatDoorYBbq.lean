/-
  Contracts and words that the statement's proof rests on, several texts in one: Fv.
-/
import Derived.Test.YteejbcimmmcnlaaGreatDoorYBbb
import Derived.Test.YteejbcimmmcnlaaGreatDoorYBbl
import Derived.Test.YteejbcimmmcnlaaGreatDoorYBbo
import Derived.Test.YteejbcimmmcnlaaGreatDoorYBbp
/-
  What ivop.byEdge does: quotients where nought is on the divisor's edge.
-/
namespace Go.Proofs.YteejbcimmmcnlaaGreatDoor
open Go.RowKit
set_option linter.unusedVariables false
set_option linter.unusedSimpArgs false
set_option maxRecDepth 100000

set_option maxHeartbeats 8000000 in
theorem fkEdge {w : World} {K1 M1 E1 K1b M1b E1b K2 M2 E2 K2b M2b E2b : Int} {s1 s1b s2 s2b : Bool} {xa xb ya yb : Int} {z : Sp} {q : Bool → Int → Int → Int} (hT : Tab w) (hq : QF q) (v1 : Ci false K1 s1 M1 E1 K1b s1b M1b E1b (some (xa, xb))) (v2 : Ci false K2 s2 M2 E2 K2b s2b M2b E2b (some (ya, yb)))
    (hd : (0 < yb ∧ ya = 0) ∨ (ya < 0 ∧ yb = 0)) (hp : 0 < xa ∨ xb < 0) (hr : divI q (some (xa, xb)) (some (ya, yb)) = z) :
    Calls Tryz.prog 62 #[.agg #[.bool false, .int .i64 K1, .bool s1, .int .u64 M1, .int .i64 E1, .int .i64 K1b, .bool s1b, .int .u64 M1b, .int .i64 E1b], .agg #[.bool false, .int .i64 K2, .bool s2, .int .u64 M2, .int .i64 E2, .int .i64 K2b, .bool s2b, .int .u64 M2b, .int .i64 E2b]] w (PV w z) := by
  have hxx := v1.ok.2.1; obtain ⟨_, a1, b1, _, _, _⟩ := v1; obtain ⟨_, a2, b2, _, _, _⟩ := v2; have HD := Lib.hid hd; have HPP := Lib.hid hp; have HXX := Lib.hid hxx; have HR0 := Lib.hid hr; have HQ := Lib.hid hq; clear hd hp hxx hr hq
  go_enter Tryz.func62, Tryz.ntmps62
  go_upto_region 1 with (fail)
  generalize hW1 : ((w.alloc _).alloc _).alloc _ = w1 at *; obtain ⟨X2, X3, XR, HB⟩ := Bo.en3 hW1; replace hT := hT.below HB.out; clear hW1; have ltX2 := X2.lt; have ltX3 := X3.lt; have ltXR := XR.lt
  refine Jo.region_inv (T := [0, 1, 2, 3, 4, 5, 6]) (ds := [some 7, some 8, some 9, some 10, some 5, some 6, none, none]) (ls := [[], [0], [], [2], [], [], [1, 4, 5], []]) (k := 8) (L := [(some 7, 0), (some 8, 1), (some 9, 2), (some 10, 3), (some 5, 4), (some 6, 5), (none, 6)]) (fuel := 1)
    (I := Jo.Two2 w1 (.pointer (some ⟨w.heap.size, 1, none⟩)) (.agg #[.int .i64 K1, .bool s1, .int .u64 M1, .int .i64 E1]) (.pointer (some ⟨w.heap.size + 1, 5, none⟩)) (.agg #[.int .i64 K2b, .bool s2b, .int .u64 M2b, .int .i64 E2b]) #[.int .i64 0, .bool false, .int .u64 0, .int .i64 0] #[.int .i64 K1, .bool s1, .int .u64 M1, .int .i64 E1] 24)
    (by kernel_rfl) (by kernel_rfl) (by decide) rfl rfl Jo.Two2.nil ?_ (fun l vs w2 hl hI => ?_)
  · refine Jo.icons (i := 0) (o := ⟨some 7, _, _, _, _, _⟩) (di := some 7) (L := []) rfl rfl rfl (fun l vs wj hI hn hd K hK => ?_) ?_
    · simp only [Jo.putl, Jo.ze, Act.put, Jo.za, Jo.zb, Jo.zc] at hK ⊢; go_simp; exact hK.out _ _ (hI.pure hn (.inl ⟨rfl, rfl⟩))
    refine Jo.icons (i := 1) (o := ⟨some 8, _, _, _, _, _⟩) (di := some 8) (L := [(some 7, 0)]) rfl rfl rfl (fun l vs wj hI hn hd K hK => ?_) ?_
    · have e0 := hI.2.2.1 (hd 0 (by decide)); have y0 := (X2.below hI.1).a 1 (.int .i64 K1) rfl; have y1 := (X2.below hI.1).a 2 (.bool s1) rfl; have y2 := (X2.below hI.1).a 3 (.int .u64 M1) rfl; have y3 := (X2.below hI.1).a 4 (.int .i64 E1) rfl; simp only [Jo.putl, Jo.zd, Jo.ze, Act.put, Jo.za, Jo.zb, Jo.zc] at hK ⊢; simp only [e0] at hK ⊢; go_simp; exact hK.out _ _ (hI.pure hn (.inr (.inl ⟨rfl, rfl⟩)))
    refine Jo.icons (i := 2) (o := ⟨some 9, _, _, _, _, _⟩) (di := some 9) (L := []) rfl rfl rfl (fun l vs wj hI hn hd K hK => ?_) ?_
    · simp only [Jo.putl, Jo.ze, Act.put, Jo.za, Jo.zb, Jo.zc] at hK ⊢; go_simp; exact hK.out _ _ (hI.pure hn (.inr (.inr (.inl ⟨rfl, rfl⟩))))
    refine Jo.icons (i := 3) (o := ⟨some 10, _, _, _, _, _⟩) (di := some 10) (L := [(some 9, 2)]) rfl rfl rfl (fun l vs wj hI hn hd K hK => ?_) ?_
    · have e0 := hI.2.2.2.2.1 (hd 2 (by decide)); have y0 := (X3.below hI.1).a 5 (.int .i64 K2b) rfl; have y1 := (X3.below hI.1).a 6 (.bool s2b) rfl; have y2 := (X3.below hI.1).a 7 (.int .u64 M2b) rfl; have y3 := (X3.below hI.1).a 8 (.int .i64 E2b) rfl; simp only [Jo.putl, Jo.zd, Jo.ze, Act.put, Jo.za, Jo.zb, Jo.zc] at hK ⊢; simp only [e0] at hK ⊢; go_simp; exact hK.out _ _ (hI.pure hn (.inr (.inr (.inr ⟨rfl, rfl⟩))))
    refine Jo.icons (i := 4) (o := ⟨some 5, _, _, _, _, _⟩) (di := some 5) (L := []) rfl rfl rfl (fun l vs wj hI hn hd K hK => ?_) ?_
    · simp only [Jo.putl, Jo.ze, Act.put, Jo.za, Jo.zb, Jo.zc] at hK ⊢; go_simp; exact hK.out _ _ (hI.new4 hn)
    refine Jo.icons (i := 5) (o := ⟨some 6, _, _, _, _, _⟩) (di := some 6) (L := []) rfl rfl rfl (fun l vs wj hI hn hd K hK => ?_) ?_
    · simp only [Jo.putl, Jo.ze, Act.put, Jo.za, Jo.zb, Jo.zc] at hK ⊢; go_simp; exact hK.out _ _ (hI.new5 hn)
    refine Jo.icons (i := 6) (o := ⟨none, _, _, _, _, _⟩) (di := none) (L := [(some 8, 1), (some 5, 4), (some 6, 5)]) rfl rfl rfl (fun l vs wj hI hn hd K hK => ?_) ?_
    · have m4 := hd 4 (by decide); have m5 := hd 5 (by decide); obtain ⟨g, e4, X5⟩ := hI.box4 m4 hn; have e1 := hI.2.2.2.1 (hd 1 (by decide)); have y0 := X5.a 0 (.int .i64 0) rfl; have u0 := X5.frozen 0; have y1 := X5.a 1 (.bool false) rfl; have u1 := X5.frozen 1; have y2 := X5.a 2 (.int .u64 0) rfl; have u2 := X5.frozen 2; have y3 := X5.a 3 (.int .i64 0) rfl; have u3 := X5.frozen 3; simp only [Jo.putl, Jo.zd, Jo.ze, Act.put, Jo.za, Jo.zb, Jo.zc] at hK ⊢
      simp only [e1, e4] at hK ⊢; go_simp; have SX := StN.mk4 X5 (.int .i64 K1) (.bool s1) (.int .u64 M1) (.int .i64 E1); exact hK.out undef _ (hI.sto hn m4 m5 e4 SX)
    exact Jo.StepsI.nil
  obtain ⟨hJ, e0, e1, e2, e3, g5, g6, e4, e5, hB5, hB6, hne, X5, X6⟩ := hI.all hl; simp only [Jo.putl, Jo.zd, Jo.ze, Act.put, Jo.za, Jo.zb, Jo.zc]; simp only [e0, e1, e2, e3, e4, e5]; clear hI hl e0 e1 e2 e3 e4 e5 vs l; replace X2 := X2.below hJ; replace X3 := X3.below hJ; replace XR := XR.below hJ; replace hT := hT.below hJ; replace HB := Lib.hid (bt HB.out hJ); obtain ⟨xX60, xX61, xX62, xX63⟩ := X6.u4
  have zX60 := X6.frozen
  refine Jo.jnext (i := 7) (o := ⟨none, _, _, _, _, _⟩) (by kernel_rfl) rfl (fun K hK => ?_)
  go_simp; refine hK.out _ _ ?_; clear hK K xX60 zX60 xX61 xX62 xX63; generalize hS : (((w2.setCell _ _).setCell _ _).setCell _ _).setCell _ _ = w3 at *; have SX := StN.of4 X6 hS; replace X2 := X2.stn SX (by omega); replace X3 := X3.stn SX (by omega); replace XR := XR.stn SX (by omega); replace X5 := X5.stn SX (by omega); replace hT := hT.stn SX (by simp [no8]); replace HB := Lib.hid (SX.below HB.out (by omega))
  replace X6 := SX.box; clear SX hS; refine Jo.jdone (by kernel_rfl) ?_
  rcases HD.out with hd | hd
  · rcases HPP.out with hp | hp
    · have hxx := HXX.out; have hr := HR0.out; obtain ⟨hd1, y0⟩ := hd; subst y0; rw [(dvI_up hd1 hxx).1 hp] at hr; obtain ⟨u, hu⟩ : ∃ u, q false xa yb = u := ⟨_, rfl⟩; rw [hu] at hr; have hqt := HQ.out false xa yb; rw [hu] at hqt; have HQT := Lib.hid hqt; have HR := Lib.hid hr
      have HSA : Hid (cmpI (rk K1 s1 M1 E1) 0 = 1) := Lib.hid (by rw [a1.rk]; exact sgn_pos (by omega))
      have HSB : Hid (cmpI (rk K2b s2b M2b E2b) 0 = 1) := Lib.hid (by rw [b2.rk]; exact sgn_pos (by omega))
      have HSN : Hid (cmpI (rk K1 s1 M1 E1) 0 = 1) := Lib.hid (by rw [a1.rk]; exact sgn_pos (by omega))
      have HSE : Hid (cmpI (rk K2b s2b M2b E2b) 0 = 1) := Lib.hid (by rw [b2.rk]; exact sgn_pos (by omega))
      clear hu hqt hr hxx hd1 hp HXX HR0 HQ; obtain ⟨xX50, xX51, xX52, xX53⟩ := X5.u4
      go_wp2_with fail
      refine (nSign a1.top HSA.out).mono ?_; rintro ee w4 ⟨rfl, B⟩; clear xX50 xX51 xX52 xX53; replace X2 := X2.below B; replace X3 := X3.below B; replace XR := XR.below B; replace X5 := X5.below B; replace X6 := X6.below B; replace hT := hT.below B; replace HB := Lib.hid (bt HB.out B); clear B; clear HSA; obtain ⟨xX60, xX61, xX62, xX63⟩ := X6.u4
      go_wp2_with fail
      refine (nSign b2.top HSB.out).mono ?_; rintro ee w6 ⟨rfl, B⟩; clear xX60 xX61 xX62 xX63; replace X2 := X2.below B; replace X3 := X3.below B; replace XR := XR.below B; replace X5 := X5.below B; replace X6 := X6.below B; replace hT := hT.below B; replace HB := Lib.hid (bt HB.out B); clear B; clear HSB
      go_upto_region 6 with (fail)
      refine Jo.rk [0, 1, 2, 3, 4] [some 21, some 22, some 23, some 24, some 25] [[], [0], [], [2], [1, 3]] 5 0 [Jo.q4 K1 s1 M1 E1, Jo.qi 1, Jo.q4 K2b s2b M2b E2b, Jo.qi 1, Jo.qb true] (by kernel_rfl) (by kernel_rfl) (by decide) rfl ?_ ?_
      · refine Jo.jm rfl ?_ ?_
        · rintro wj hJ K hK; simp only [Jo.z] at hK ⊢; obtain ⟨xX50, xX51, xX52, xX53⟩ := (X5.below hJ).u4; go_simp; exact hK.out _ _ rfl (br _ _)
        refine Jo.jm rfl ?_ ?_
        · rintro wj hJ _ rfl K hK; simp only [Jo.z] at hK ⊢; go_simp; refine (nSign a1.top HSN.out).mono ?_; rintro ee wk ⟨rfl, B⟩; exact hK.out _ _ rfl B
        refine Jo.jm rfl ?_ ?_
        · rintro wj hJ K hK; simp only [Jo.z] at hK ⊢; obtain ⟨xX60, xX61, xX62, xX63⟩ := (X6.below hJ).u4; go_simp; exact hK.out _ _ rfl (br _ _)
        refine Jo.jm rfl ?_ ?_
        · rintro wj hJ _ rfl K hK; simp only [Jo.z] at hK ⊢; go_simp; refine (nSign b2.top HSE.out).mono ?_; rintro ee wk ⟨rfl, B⟩; exact hK.out _ _ rfl B
        refine Jo.jm rfl ?_ ?_
        · rintro wj hJ _ rfl _ rfl K hK; simp only [Jo.z] at hK ⊢; go_simp
          exact hK.out _ _ (by first | rfl | (show Value.bool _ = Value.bool _; simp)) (br _ _)
        exact Jo.Steps.nil
      rintro w8 hJ _ rfl _ rfl _ rfl _ rfl _ rfl -; simp only [Jo.z]; replace X2 := X2.below hJ; replace X3 := X3.below hJ; replace XR := XR.below hJ; replace X5 := X5.below hJ; replace X6 := X6.below hJ; replace hT := hT.below hJ; replace HB := Lib.hid (bt HB.out hJ); refine Jo.jdone (by kernel_rfl) ?_; clear HSN HSE; obtain ⟨xX50, xX51, xX52, xX53⟩ := X5.u4; obtain ⟨xX60, xX61, xX62, xX63⟩ := X6.u4
      go_wp2_with fail
      refine (kDiv hT a1.top b2.top a1.rk b2.rk HQT.out).mono ?_; rintro ee w9 ⟨K8, s8, M8, E8, rfl, q8, B⟩; clear xX50 xX51 xX52 xX53 xX60 xX61 xX62 xX63; replace X2 := X2.below B; replace X3 := X3.below B; replace XR := XR.below B; replace X5 := X5.below B; replace X6 := X6.below B; replace hT := hT.below B; replace HB := Lib.hid (bt HB.out B); clear B
      go_wp2_with fail
      refine (nInf (r := 19342822337206103650074625) (s := false) (by decide)).mono ?_; rintro ee wA ⟨K7, s7, M7, E7, rfl, q7, B⟩; replace X2 := X2.below B; replace X3 := X3.below B; replace XR := XR.below B; replace X5 := X5.below B; replace X6 := X6.below B; replace hT := hT.below B; replace HB := Lib.hid (bt HB.out B); clear B
      go_wp2_with fail
      refine (kvMake q8.top q7.top q8.rk q7.rk HR.out).mono ?_; rintro ee wB ⟨e9, K9, s9, M9, E9, K9b, s9b, M9b, E9b, rfl, v9, B⟩; replace X2 := X2.below B; replace X3 := X3.below B; replace XR := XR.below B; replace X5 := X5.below B; replace X6 := X6.below B; replace hT := hT.below B; replace HB := Lib.hid (bt HB.out B); clear B; clear hT; obtain ⟨xXR0, xXR1, xXR2, xXR3, xXR4, xXR5, xXR6, xXR7, xXR8⟩ := XR.u9
      have zXR0 := XR.frozen; go_wp2; clear xXR0 zXR0 xXR1 xXR2 xXR3 xXR4 xXR5 xXR6 xXR7 xXR8; have SX := StN.mk9 XR (.bool e9) (.int .i64 K9) (.bool s9) (.int .u64 M9) (.int .i64 E9) (.int .i64 K9b) (.bool s9b) (.int .u64 M9b) (.int .i64 E9b); exact bodyPost_ret (by simp [results, Tryz.results62, go_sem, SX.box.cell]) rfl ⟨_, _, _, _, _, _, _, _, _, rfl, v9, (SX.below HB.out (by omega))⟩
    · have hxx := HXX.out; have hr := HR0.out; obtain ⟨hd1, y0⟩ := hd; subst y0; rw [(dvI_up hd1 hxx).2 hp] at hr; obtain ⟨u, hu⟩ : ∃ u, q true xb yb = u := ⟨_, rfl⟩; rw [hu] at hr; have hqt := HQ.out true xb yb; rw [hu] at hqt; have HQT := Lib.hid hqt; have HR := Lib.hid hr
      have HSA : Hid (cmpI (rk K1 s1 M1 E1) 0 = -1) := Lib.hid (by rw [a1.rk]; exact sgn_neg (by omega))
      have HSB : Hid (cmpI (rk K2b s2b M2b E2b) 0 = 1) := Lib.hid (by rw [b2.rk]; exact sgn_pos (by omega))
      have HSN : Hid (cmpI (rk K1b s1b M1b E1b) 0 = -1) := Lib.hid (by rw [b1.rk]; exact sgn_neg (by omega))
      have HSE : Hid (cmpI (rk K2b s2b M2b E2b) 0 = 1) := Lib.hid (by rw [b2.rk]; exact sgn_pos (by omega))
      clear hu hqt hr hxx hd1 hp HXX HR0 HQ; obtain ⟨xX50, xX51, xX52, xX53⟩ := X5.u4
      go_wp2_with fail
      refine (nSign a1.top HSA.out).mono ?_; rintro ee w4 ⟨rfl, B⟩; clear xX50 xX51 xX52 xX53; replace X2 := X2.below B; replace X3 := X3.below B; replace XR := XR.below B; replace X5 := X5.below B; replace X6 := X6.below B; replace hT := hT.below B; replace HB := Lib.hid (bt HB.out B); clear B; clear HSA; obtain ⟨xX20, xX21, xX22, xX23, xX24, xX25, xX26, xX27, xX28⟩ := X2.u9; obtain ⟨xX50, xX51, xX52, xX53⟩ := X5.u4
      have zX50 := X5.frozen
      go_upto_region 4 with (fail)
      clear xX20 xX21 xX22 xX23 xX24 xX25 xX26 xX27 xX28 xX50 zX50 xX51 xX52 xX53; generalize hS : (((w4.setCell _ _).setCell _ _).setCell _ _).setCell _ _ = w5 at *; have SX := StN.of4 X5 hS; replace X2 := X2.stn SX (by omega); replace X3 := X3.stn SX (by omega); replace XR := XR.stn SX (by omega); replace X6 := X6.stn SX (by omega); replace hT := hT.stn SX (by simp [no8]); replace HB := Lib.hid (SX.below HB.out (by omega))
      replace X5 := SX.box; clear SX hS; obtain ⟨xX60, xX61, xX62, xX63⟩ := X6.u4
      go_wp2_with fail
      refine (nSign b2.top HSB.out).mono ?_; rintro ee w6 ⟨rfl, B⟩; clear xX60 xX61 xX62 xX63; replace X2 := X2.below B; replace X3 := X3.below B; replace XR := XR.below B; replace X5 := X5.below B; replace X6 := X6.below B; replace hT := hT.below B; replace HB := Lib.hid (bt HB.out B); clear B; clear HSB
      go_upto_region 6 with (fail)
      refine Jo.region_joint (T := [0, 1, 2, 3, 4]) (ds := [some 21, some 22, some 23, some 24, some 25]) (ls := [[], [0], [], [2], [1, 3]]) (k := 5) (L := [(some 21, 0), (some 22, 1), (some 23, 2), (some 24, 3), (some 25, 4)]) (fuel := 0) (J := fun wj => Below (World.heap w6).size w6 wj)
        (F := [Jo.q4 K1b s1b M1b E1b, Jo.Fact.eq (.int .i64 (-1)), Jo.q4 K2b s2b M2b E2b, Jo.qi 1, Jo.qb false])
        (by kernel_rfl) (by kernel_rfl) (by decide) rfl rfl (fun _ _ h b => bt h b) ((br _ _).drew) ?_ (fun vs w8 hJ hd => ?_)
      · refine Jo.jm rfl ?_ ?_
        · rintro wj hJ K hK; simp only [Jo.z] at hK ⊢; obtain ⟨xX50, xX51, xX52, xX53⟩ := (X5.below hJ).u4; go_simp; exact hK.out _ _ rfl (br _ _)
        refine Jo.jm rfl ?_ ?_
        · rintro wj hJ _ rfl K hK; simp only [Jo.z] at hK ⊢; go_simp; refine (nSign b1.top HSN.out).mono ?_; rintro ee wk ⟨rfl, B⟩; exact hK.out _ _ rfl B
        refine Jo.jm rfl ?_ ?_
        · rintro wj hJ K hK; simp only [Jo.z] at hK ⊢; obtain ⟨xX60, xX61, xX62, xX63⟩ := (X6.below hJ).u4; go_simp; exact hK.out _ _ rfl (br _ _)
        refine Jo.jm rfl ?_ ?_
        · rintro wj hJ _ rfl K hK; simp only [Jo.z] at hK ⊢; go_simp; refine (nSign b2.top HSE.out).mono ?_; rintro ee wk ⟨rfl, B⟩; exact hK.out _ _ rfl B
        refine Jo.jm rfl ?_ ?_
        · rintro wj hJ _ rfl _ rfl K hK; simp only [Jo.z] at hK ⊢; go_simp
          exact hK.out _ _ (by first | rfl | (show Value.bool _ = Value.bool _; simp)) (br _ _)
        exact Jo.Steps.nil
      simp only [Jo.putl, Jo.zd, Jo.ze, Act.put, Jo.za, Jo.zb, Jo.zc]
      rw [show vs 0 = _ from hd 0 (by decide), show vs 1 = _ from hd 1 (by decide), show vs 2 = _ from hd 2 (by decide), show vs 3 = _ from hd 3 (by decide), show vs 4 = _ from hd 4 (by decide)]
      clear hd; replace X2 := X2.below hJ; replace X3 := X3.below hJ; replace XR := XR.below hJ; replace X5 := X5.below hJ; replace X6 := X6.below hJ; replace hT := hT.below hJ; replace HB := Lib.hid (bt HB.out hJ); refine Jo.jdone (by kernel_rfl) ?_; clear HSN HSE
      go_upto_region 8 with (fail)
      refine Jo.rk [0, 1, 2, 3, 4] [some 31, some 32, some 33, some 34, some 35, none] [[], [], [], [1, 2], [0, 3], []] 6 1 [Jo.Fact.num (-19342822337206103650074625), Jo.q4 K1b s1b M1b E1b, Jo.q4 K2b s2b M2b E2b, Jo.Fact.num u, Jo.Fact.iv z, Jo.Fact.any] (by kernel_rfl) (by kernel_rfl) (by decide) rfl ?_ ?_
      · refine Jo.jm rfl ?_ ?_
        · rintro wj hJ K hK; simp only [Jo.z] at hK ⊢; go_simp; refine (nInf (r := -19342822337206103650074625) (s := true) (by decide)).mono ?_; rintro ee wk ⟨K7, s7, M7, E7, rfl, q7, B⟩; exact hK.out _ _ ⟨K7, s7, M7, E7, rfl, q7⟩ B
        refine Jo.jm rfl ?_ ?_
        · rintro wj hJ K hK; simp only [Jo.z] at hK ⊢; obtain ⟨xX50, xX51, xX52, xX53⟩ := (X5.below hJ).u4; go_simp; exact hK.out _ _ rfl (br _ _)
        refine Jo.jm rfl ?_ ?_
        · rintro wj hJ K hK; simp only [Jo.z] at hK ⊢; obtain ⟨xX60, xX61, xX62, xX63⟩ := (X6.below hJ).u4; go_simp; exact hK.out _ _ rfl (br _ _)
        refine Jo.jm rfl ?_ ?_
        · rintro wj hJ _ rfl _ rfl K hK; simp only [Jo.z] at hK ⊢; go_simp; refine (kDiv (hT.below hJ) b1.top b2.top b1.rk b2.rk HQT.out).mono ?_; rintro ee wk ⟨K8, s8, M8, E8, rfl, q8, B⟩; exact hK.out _ _ ⟨K8, s8, M8, E8, rfl, q8⟩ B
        refine Jo.jm rfl ?_ ?_
        · rintro wj hJ _ ⟨K7, s7, M7, E7, rfl, q7⟩ _ ⟨K8, s8, M8, E8, rfl, q8⟩ K hK; simp only [Jo.z] at hK ⊢; go_simp; refine (kvMake q7.top q8.top q7.rk q8.rk HR.out).mono ?_; rintro ee wk ⟨e9, K9, s9, M9, E9, K9b, s9b, M9b, E9b, rfl, v9, B⟩; exact hK.out _ _ ⟨e9, K9, s9, M9, E9, K9b, s9b, M9b, E9b, rfl, v9⟩ B
        exact Jo.Steps.nil
      rintro w9 hJ _ ⟨K7, s7, M7, E7, rfl, q7⟩ _ rfl _ rfl _ ⟨K8, s8, M8, E8, rfl, q8⟩ _ ⟨e9, K9, s9, M9, E9, K9b, s9b, M9b, E9b, rfl, v9⟩ -; simp only [Jo.z]; replace X2 := X2.below hJ; replace X3 := X3.below hJ; replace XR := XR.below hJ; replace X5 := X5.below hJ; replace X6 := X6.below hJ; replace hT := hT.below hJ; replace HB := Lib.hid (bt HB.out hJ); clear hT; obtain ⟨xXR0, xXR1, xXR2, xXR3, xXR4, xXR5, xXR6, xXR7, xXR8⟩ := XR.u9
      have zXR0 := XR.frozen
      refine Jo.jnext (i := 5) (o := ⟨none, _, _, _, _, _⟩) (by kernel_rfl) rfl (fun K hK => ?_)
      go_simp; refine hK.out _ _ ?_; clear hK K xXR0 zXR0 xXR1 xXR2 xXR3 xXR4 xXR5 xXR6 xXR7 xXR8; have SX := StN.mk9 XR (.bool e9) (.int .i64 K9) (.bool s9) (.int .u64 M9) (.int .i64 E9) (.int .i64 K9b) (.bool s9b) (.int .u64 M9b) (.int .i64 E9b); refine Jo.jdone (by kernel_rfl) ?_; go_wp2; exact bodyPost_ret (by simp [results, Tryz.results62, go_sem, SX.box.cell]) rfl ⟨_, _, _, _, _, _, _, _, _, rfl, v9, (SX.below HB.out (by omega))⟩
  · have hd := And.intro hd.1 hd.2
    rcases HPP.out with hp | hp
    · have hxx := HXX.out; have hr := HR0.out; obtain ⟨hd1, y0⟩ := hd; subst y0; rw [(dvI_dn hd1 hxx).1 hp] at hr; obtain ⟨u, hu⟩ : ∃ u, q true xa ya = u := ⟨_, rfl⟩; rw [hu] at hr; have hqt := HQ.out true xa ya; rw [hu] at hqt; have HQT := Lib.hid hqt; have HR := Lib.hid hr
      have HSA : Hid (cmpI (rk K1 s1 M1 E1) 0 = 1) := Lib.hid (by rw [a1.rk]; exact sgn_pos (by omega))
      have HSB : Hid (cmpI (rk K2b s2b M2b E2b) 0 = 0) := Lib.hid (by rw [b2.rk]; exact sgn_nil)
      have HSN : Hid (cmpI (rk K1 s1 M1 E1) 0 = 1) := Lib.hid (by rw [a1.rk]; exact sgn_pos (by omega))
      have HSE : Hid (cmpI (rk K2 s2 M2 E2) 0 = -1) := Lib.hid (by rw [a2.rk]; exact sgn_neg (by omega))
      clear hu hqt hr hxx hd1 hp HXX HR0 HQ; obtain ⟨xX50, xX51, xX52, xX53⟩ := X5.u4
      go_wp2_with fail
      refine (nSign a1.top HSA.out).mono ?_; rintro ee w4 ⟨rfl, B⟩; clear xX50 xX51 xX52 xX53; replace X2 := X2.below B; replace X3 := X3.below B; replace XR := XR.below B; replace X5 := X5.below B; replace X6 := X6.below B; replace hT := hT.below B; replace HB := Lib.hid (bt HB.out B); clear B; clear HSA; obtain ⟨xX60, xX61, xX62, xX63⟩ := X6.u4
      go_wp2_with fail
      refine (nSign b2.top HSB.out).mono ?_; rintro ee w6 ⟨rfl, B⟩; clear xX60 xX61 xX62 xX63; replace X2 := X2.below B; replace X3 := X3.below B; replace XR := XR.below B; replace X5 := X5.below B; replace X6 := X6.below B; replace hT := hT.below B; replace HB := Lib.hid (bt HB.out B); clear B; clear HSB; obtain ⟨xX30, xX31, xX32, xX33, xX34, xX35, xX36, xX37, xX38⟩ := X3.u9; obtain ⟨xX60, xX61, xX62, xX63⟩ := X6.u4
      have zX60 := X6.frozen
      go_upto_region 6 with (fail)
      clear xX30 xX31 xX32 xX33 xX34 xX35 xX36 xX37 xX38 xX60 zX60 xX61 xX62 xX63; generalize hS : (((w6.setCell _ _).setCell _ _).setCell _ _).setCell _ _ = w7 at *; have SX := StN.of4 X6 hS; replace X2 := X2.stn SX (by omega); replace X3 := X3.stn SX (by omega); replace XR := XR.stn SX (by omega); replace X5 := X5.stn SX (by omega); replace hT := hT.stn SX (by simp [no8]); replace HB := Lib.hid (SX.below HB.out (by omega))
      replace X6 := SX.box; clear SX hS
      refine Jo.region_joint (T := [0, 1, 2, 3, 4]) (ds := [some 21, some 22, some 23, some 24, some 25]) (ls := [[], [0], [], [2], [1, 3]]) (k := 5) (L := [(some 21, 0), (some 22, 1), (some 23, 2), (some 24, 3), (some 25, 4)]) (fuel := 0) (J := fun wj => Below (World.heap w7).size w7 wj)
        (F := [Jo.q4 K1 s1 M1 E1, Jo.qi 1, Jo.q4 K2 s2 M2 E2, Jo.Fact.eq (.int .i64 (-1)), Jo.qb false])
        (by kernel_rfl) (by kernel_rfl) (by decide) rfl rfl (fun _ _ h b => bt h b) ((br _ _).drew) ?_ (fun vs w8 hJ hd => ?_)
      · refine Jo.jm rfl ?_ ?_
        · rintro wj hJ K hK; simp only [Jo.z] at hK ⊢; obtain ⟨xX50, xX51, xX52, xX53⟩ := (X5.below hJ).u4; go_simp; exact hK.out _ _ rfl (br _ _)
        refine Jo.jm rfl ?_ ?_
        · rintro wj hJ _ rfl K hK; simp only [Jo.z] at hK ⊢; go_simp; refine (nSign a1.top HSN.out).mono ?_; rintro ee wk ⟨rfl, B⟩; exact hK.out _ _ rfl B
        refine Jo.jm rfl ?_ ?_
        · rintro wj hJ K hK; simp only [Jo.z] at hK ⊢; obtain ⟨xX60, xX61, xX62, xX63⟩ := (X6.below hJ).u4; go_simp; exact hK.out _ _ rfl (br _ _)
        refine Jo.jm rfl ?_ ?_
        · rintro wj hJ _ rfl K hK; simp only [Jo.z] at hK ⊢; go_simp; refine (nSign a2.top HSE.out).mono ?_; rintro ee wk ⟨rfl, B⟩; exact hK.out _ _ rfl B
        refine Jo.jm rfl ?_ ?_
        · rintro wj hJ _ rfl _ rfl K hK; simp only [Jo.z] at hK ⊢; go_simp
          exact hK.out _ _ (by first | rfl | (show Value.bool _ = Value.bool _; simp)) (br _ _)
        exact Jo.Steps.nil
      simp only [Jo.putl, Jo.zd, Jo.ze, Act.put, Jo.za, Jo.zb, Jo.zc]
      rw [show vs 0 = _ from hd 0 (by decide), show vs 1 = _ from hd 1 (by decide), show vs 2 = _ from hd 2 (by decide), show vs 3 = _ from hd 3 (by decide), show vs 4 = _ from hd 4 (by decide)]
      clear hd; replace X2 := X2.below hJ; replace X3 := X3.below hJ; replace XR := XR.below hJ; replace X5 := X5.below hJ; replace X6 := X6.below hJ; replace hT := hT.below hJ; replace HB := Lib.hid (bt HB.out hJ); refine Jo.jdone (by kernel_rfl) ?_; clear HSN HSE
      go_upto_region 8 with (fail)
      refine Jo.rk [0, 1, 2, 3, 4] [some 31, some 32, some 33, some 34, some 35, none] [[], [], [], [1, 2], [0, 3], []] 6 1 [Jo.Fact.num (-19342822337206103650074625), Jo.q4 K1 s1 M1 E1, Jo.q4 K2 s2 M2 E2, Jo.Fact.num u, Jo.Fact.iv z, Jo.Fact.any] (by kernel_rfl) (by kernel_rfl) (by decide) rfl ?_ ?_
      · refine Jo.jm rfl ?_ ?_
        · rintro wj hJ K hK; simp only [Jo.z] at hK ⊢; go_simp; refine (nInf (r := -19342822337206103650074625) (s := true) (by decide)).mono ?_; rintro ee wk ⟨K7, s7, M7, E7, rfl, q7, B⟩; exact hK.out _ _ ⟨K7, s7, M7, E7, rfl, q7⟩ B
        refine Jo.jm rfl ?_ ?_
        · rintro wj hJ K hK; simp only [Jo.z] at hK ⊢; obtain ⟨xX50, xX51, xX52, xX53⟩ := (X5.below hJ).u4; go_simp; exact hK.out _ _ rfl (br _ _)
        refine Jo.jm rfl ?_ ?_
        · rintro wj hJ K hK; simp only [Jo.z] at hK ⊢; obtain ⟨xX60, xX61, xX62, xX63⟩ := (X6.below hJ).u4; go_simp; exact hK.out _ _ rfl (br _ _)
        refine Jo.jm rfl ?_ ?_
        · rintro wj hJ _ rfl _ rfl K hK; simp only [Jo.z] at hK ⊢; go_simp; refine (kDiv (hT.below hJ) a1.top a2.top a1.rk a2.rk HQT.out).mono ?_; rintro ee wk ⟨K8, s8, M8, E8, rfl, q8, B⟩; exact hK.out _ _ ⟨K8, s8, M8, E8, rfl, q8⟩ B
        refine Jo.jm rfl ?_ ?_
        · rintro wj hJ _ ⟨K7, s7, M7, E7, rfl, q7⟩ _ ⟨K8, s8, M8, E8, rfl, q8⟩ K hK; simp only [Jo.z] at hK ⊢; go_simp; refine (kvMake q7.top q8.top q7.rk q8.rk HR.out).mono ?_; rintro ee wk ⟨e9, K9, s9, M9, E9, K9b, s9b, M9b, E9b, rfl, v9, B⟩; exact hK.out _ _ ⟨e9, K9, s9, M9, E9, K9b, s9b, M9b, E9b, rfl, v9⟩ B
        exact Jo.Steps.nil
      rintro w9 hJ _ ⟨K7, s7, M7, E7, rfl, q7⟩ _ rfl _ rfl _ ⟨K8, s8, M8, E8, rfl, q8⟩ _ ⟨e9, K9, s9, M9, E9, K9b, s9b, M9b, E9b, rfl, v9⟩ -; simp only [Jo.z]; replace X2 := X2.below hJ; replace X3 := X3.below hJ; replace XR := XR.below hJ; replace X5 := X5.below hJ; replace X6 := X6.below hJ; replace hT := hT.below hJ; replace HB := Lib.hid (bt HB.out hJ); clear hT; obtain ⟨xXR0, xXR1, xXR2, xXR3, xXR4, xXR5, xXR6, xXR7, xXR8⟩ := XR.u9
      have zXR0 := XR.frozen
      refine Jo.jnext (i := 5) (o := ⟨none, _, _, _, _, _⟩) (by kernel_rfl) rfl (fun K hK => ?_)
      go_simp; refine hK.out _ _ ?_; clear hK K xXR0 zXR0 xXR1 xXR2 xXR3 xXR4 xXR5 xXR6 xXR7 xXR8; have SX := StN.mk9 XR (.bool e9) (.int .i64 K9) (.bool s9) (.int .u64 M9) (.int .i64 E9) (.int .i64 K9b) (.bool s9b) (.int .u64 M9b) (.int .i64 E9b); refine Jo.jdone (by kernel_rfl) ?_; go_wp2; exact bodyPost_ret (by simp [results, Tryz.results62, go_sem, SX.box.cell]) rfl ⟨_, _, _, _, _, _, _, _, _, rfl, v9, (SX.below HB.out (by omega))⟩
    · have hxx := HXX.out; have hr := HR0.out; obtain ⟨hd1, y0⟩ := hd; subst y0; rw [(dvI_dn hd1 hxx).2 hp] at hr; obtain ⟨u, hu⟩ : ∃ u, q false xb ya = u := ⟨_, rfl⟩; rw [hu] at hr; have hqt := HQ.out false xb ya; rw [hu] at hqt; have HQT := Lib.hid hqt; have HR := Lib.hid hr
      have HSA : Hid (cmpI (rk K1 s1 M1 E1) 0 = -1) := Lib.hid (by rw [a1.rk]; exact sgn_neg (by omega))
      have HSB : Hid (cmpI (rk K2b s2b M2b E2b) 0 = 0) := Lib.hid (by rw [b2.rk]; exact sgn_nil)
      have HSN : Hid (cmpI (rk K1b s1b M1b E1b) 0 = -1) := Lib.hid (by rw [b1.rk]; exact sgn_neg (by omega))
      have HSE : Hid (cmpI (rk K2 s2 M2 E2) 0 = -1) := Lib.hid (by rw [a2.rk]; exact sgn_neg (by omega))
      clear hu hqt hr hxx hd1 hp HXX HR0 HQ; obtain ⟨xX50, xX51, xX52, xX53⟩ := X5.u4
      go_wp2_with fail
      refine (nSign a1.top HSA.out).mono ?_; rintro ee w4 ⟨rfl, B⟩; clear xX50 xX51 xX52 xX53; replace X2 := X2.below B; replace X3 := X3.below B; replace XR := XR.below B; replace X5 := X5.below B; replace X6 := X6.below B; replace hT := hT.below B; replace HB := Lib.hid (bt HB.out B); clear B; clear HSA; obtain ⟨xX20, xX21, xX22, xX23, xX24, xX25, xX26, xX27, xX28⟩ := X2.u9; obtain ⟨xX50, xX51, xX52, xX53⟩ := X5.u4
      have zX50 := X5.frozen
      go_upto_region 4 with (fail)
      clear xX20 xX21 xX22 xX23 xX24 xX25 xX26 xX27 xX28 xX50 zX50 xX51 xX52 xX53; generalize hS : (((w4.setCell _ _).setCell _ _).setCell _ _).setCell _ _ = w5 at *; have SX := StN.of4 X5 hS; replace X2 := X2.stn SX (by omega); replace X3 := X3.stn SX (by omega); replace XR := XR.stn SX (by omega); replace X6 := X6.stn SX (by omega); replace hT := hT.stn SX (by simp [no8]); replace HB := Lib.hid (SX.below HB.out (by omega))
      replace X5 := SX.box; clear SX hS; obtain ⟨xX60, xX61, xX62, xX63⟩ := X6.u4
      go_wp2_with fail
      refine (nSign b2.top HSB.out).mono ?_; rintro ee w6 ⟨rfl, B⟩; clear xX60 xX61 xX62 xX63; replace X2 := X2.below B; replace X3 := X3.below B; replace XR := XR.below B; replace X5 := X5.below B; replace X6 := X6.below B; replace hT := hT.below B; replace HB := Lib.hid (bt HB.out B); clear B; clear HSB; obtain ⟨xX30, xX31, xX32, xX33, xX34, xX35, xX36, xX37, xX38⟩ := X3.u9; obtain ⟨xX60, xX61, xX62, xX63⟩ := X6.u4
      have zX60 := X6.frozen
      go_upto_region 6 with (fail)
      clear xX30 xX31 xX32 xX33 xX34 xX35 xX36 xX37 xX38 xX60 zX60 xX61 xX62 xX63; generalize hS : (((w6.setCell _ _).setCell _ _).setCell _ _).setCell _ _ = w7 at *; have SX := StN.of4 X6 hS; replace X2 := X2.stn SX (by omega); replace X3 := X3.stn SX (by omega); replace XR := XR.stn SX (by omega); replace X5 := X5.stn SX (by omega); replace hT := hT.stn SX (by simp [no8]); replace HB := Lib.hid (SX.below HB.out (by omega))
      replace X6 := SX.box; clear SX hS; refine Jo.rk [0, 1, 2, 3, 4] [some 21, some 22, some 23, some 24, some 25] [[], [0], [], [2], [1, 3]] 5 0 [Jo.q4 K1b s1b M1b E1b, Jo.Fact.eq (.int .i64 (-1)), Jo.q4 K2 s2 M2 E2, Jo.Fact.eq (.int .i64 (-1)), Jo.qb true] (by kernel_rfl) (by kernel_rfl) (by decide) rfl ?_ ?_
      · refine Jo.jm rfl ?_ ?_
        · rintro wj hJ K hK; simp only [Jo.z] at hK ⊢; obtain ⟨xX50, xX51, xX52, xX53⟩ := (X5.below hJ).u4; go_simp; exact hK.out _ _ rfl (br _ _)
        refine Jo.jm rfl ?_ ?_
        · rintro wj hJ _ rfl K hK; simp only [Jo.z] at hK ⊢; go_simp; refine (nSign b1.top HSN.out).mono ?_; rintro ee wk ⟨rfl, B⟩; exact hK.out _ _ rfl B
        refine Jo.jm rfl ?_ ?_
        · rintro wj hJ K hK; simp only [Jo.z] at hK ⊢; obtain ⟨xX60, xX61, xX62, xX63⟩ := (X6.below hJ).u4; go_simp; exact hK.out _ _ rfl (br _ _)
        refine Jo.jm rfl ?_ ?_
        · rintro wj hJ _ rfl K hK; simp only [Jo.z] at hK ⊢; go_simp; refine (nSign a2.top HSE.out).mono ?_; rintro ee wk ⟨rfl, B⟩; exact hK.out _ _ rfl B
        refine Jo.jm rfl ?_ ?_
        · rintro wj hJ _ rfl _ rfl K hK; simp only [Jo.z] at hK ⊢; go_simp
          exact hK.out _ _ (by first | rfl | (show Value.bool _ = Value.bool _; simp)) (br _ _)
        exact Jo.Steps.nil
      rintro w8 hJ _ rfl _ rfl _ rfl _ rfl _ rfl -; simp only [Jo.z]; replace X2 := X2.below hJ; replace X3 := X3.below hJ; replace XR := XR.below hJ; replace X5 := X5.below hJ; replace X6 := X6.below hJ; replace hT := hT.below hJ; replace HB := Lib.hid (bt HB.out hJ); refine Jo.jdone (by kernel_rfl) ?_; clear HSN HSE; obtain ⟨xX50, xX51, xX52, xX53⟩ := X5.u4; obtain ⟨xX60, xX61, xX62, xX63⟩ := X6.u4
      go_wp2_with fail
      refine (kDiv hT b1.top a2.top b1.rk a2.rk HQT.out).mono ?_; rintro ee w9 ⟨K8, s8, M8, E8, rfl, q8, B⟩; clear xX50 xX51 xX52 xX53 xX60 xX61 xX62 xX63; replace X2 := X2.below B; replace X3 := X3.below B; replace XR := XR.below B; replace X5 := X5.below B; replace X6 := X6.below B; replace hT := hT.below B; replace HB := Lib.hid (bt HB.out B); clear B
      go_wp2_with fail
      refine (nInf (r := 19342822337206103650074625) (s := false) (by decide)).mono ?_; rintro ee wA ⟨K7, s7, M7, E7, rfl, q7, B⟩; replace X2 := X2.below B; replace X3 := X3.below B; replace XR := XR.below B; replace X5 := X5.below B; replace X6 := X6.below B; replace hT := hT.below B; replace HB := Lib.hid (bt HB.out B); clear B
      go_wp2_with fail
      refine (kvMake q8.top q7.top q8.rk q7.rk HR.out).mono ?_; rintro ee wB ⟨e9, K9, s9, M9, E9, K9b, s9b, M9b, E9b, rfl, v9, B⟩; replace X2 := X2.below B; replace X3 := X3.below B; replace XR := XR.below B; replace X5 := X5.below B; replace X6 := X6.below B; replace hT := hT.below B; replace HB := Lib.hid (bt HB.out B); clear B; clear hT; obtain ⟨xXR0, xXR1, xXR2, xXR3, xXR4, xXR5, xXR6, xXR7, xXR8⟩ := XR.u9
      have zXR0 := XR.frozen; go_wp2; clear xXR0 zXR0 xXR1 xXR2 xXR3 xXR4 xXR5 xXR6 xXR7 xXR8; have SX := StN.mk9 XR (.bool e9) (.int .i64 K9) (.bool s9) (.int .u64 M9) (.int .i64 E9) (.int .i64 K9b) (.bool s9b) (.int .u64 M9b) (.int .i64 E9b); exact bodyPost_ret (by simp [results, Tryz.results62, go_sem, SX.box.cell]) rfl ⟨_, _, _, _, _, _, _, _, _, rfl, v9, (SX.below HB.out (by omega))⟩
end Go.Proofs.YteejbcimmmcnlaaGreatDoor
