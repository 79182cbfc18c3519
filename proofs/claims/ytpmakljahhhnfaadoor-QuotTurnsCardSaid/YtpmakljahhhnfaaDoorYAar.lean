/-
  Contracts and words that the statement's proof rests on, several texts in one: Ei.
-/
import Derived.Below
import Derived.BigQuiet
import Derived.Carry
import Derived.Deep.DeepCutAuto
import Derived.Deep.Draws
import Derived.Deep.MidRow
import Derived.Deep.QuietTactic
import Derived.Deep.RegionHeld3
import Derived.Deep.RegionWith
import Derived.IntWalk
import Derived.Laws.CopyOwn
import Derived.Laws.MakeOwn
import Derived.Laws.OwnMore
import Derived.Laws.Rows
import Derived.Lib.BitFns
import Derived.Lib.Hide
import Derived.Maps.AppendAt
import Derived.StillTailTactics
import Derived.Test.YtpmakljahhhnfaaDoorRows
import Derived.WalkKit
import Derived.WalkLawsBesides
import Derived.WalkSpells
import Derived.Test.YtpmakljahhhnfaaDoorYAao
import Derived.Test.YtpmakljahhhnfaaDoorYAaq
/-
  What dy.Floor and Cmp do.
-/
namespace Go.Proofs.YtpmakljahhhnfaaDoor
open Go.RowKit
set_option linter.unusedVariables false
set_option maxRecDepth 100000

set_option maxHeartbeats 4000000 in
theorem dcmp_signs {w : World} {A B : Option Addr} {n c m d : Nat} {s t : Bool} {z e y f N1 E1 N2 E2 σ τ r : Int} (hT : Tab w) (h : Wr w s A n c z) (k : Wr w t B m d y) (hn : n ≤ 100000) (hm : m ≤ 100000) (b1 : -4194304 ≤ E1) (b2 : E1 ≤ 4194304) (b3 : -4194304 ≤ E2) (b4 : E2 ≤ 4194304)
    (HN1 : Hid ((mk z e).1 = N1)) (HE1 : Hid ((mk z e).2 = E1)) (HN2 : Hid ((mk y f).1 = N2)) (HE2 : Hid ((mk y f).2 = E2)) (HS : Hid (cmpI N1 0 = σ)) (HS2 : Hid (cmpI N2 0 = τ)) (hne : σ ≠ τ) (HR : Hid (cmpI σ τ = r)) :
    Calls Tryd.prog 12 #[.agg #[.bool s, .slice A n c, .int .i64 e], .agg #[.bool t, .slice B m d, .int .i64 f]] w (PI w r) := by
  have q1 : (σ != τ) = true := by simpa using hne
  clear hne
  go_enter Tryd.func12, Tryd.ntmps12
  go_upto_region 1 with (fail)
  have X1 := (Bo.newAt w (g := w.heap.size) (by simp) #[.bool s, .slice A n c, .int .i64 e] 30).below (bel1 _ (.cells #[.bool t, .slice B m d, .int .i64 f] 30))
  have X2 := (Bo.newAt (w.alloc (.cells #[.bool s, .slice A n c, .int .i64 e] 30)) (g := w.heap.size + 1) (by simp) #[.bool t, .slice B m d, .int .i64 f] 30)
  have HB := Lib.hid (bel2 w (.cells #[.bool s, .slice A n c, .int .i64 e] 30) (.cells #[.bool t, .slice B m d, .int .i64 f] 30))
  replace hT := hT.below HB.out
  replace h := h.below HB.out
  replace k := k.below HB.out
  generalize hW1 : ((w.alloc (.cells #[.bool s, .slice A n c, .int .i64 e] 30)).alloc (.cells #[.bool t, .slice B m d, .int .i64 f] 30)) = w1 at *
  clear hW1
  refine Jo.region_joint (T := [0, 1, 2, 3]) (ds := [some 9, some 10, some 11, some 12, none, none]) (ls := [[], [0], [], [2], [], []]) (k := 6) (L := [(some 9, 0), (some 10, 1), (some 11, 2), (some 12, 3)]) (fuel := 2) (J := fun wj => Below (World.heap w1).size w1 wj)
    (F := [Jo.Fact.eq (.agg #[.bool s, .slice A n c, .int .i64 e]), Jo.Fact.dy N1 E1 n, Jo.Fact.eq (.agg #[.bool t, .slice B m d, .int .i64 f]), Jo.Fact.dy N2 E2 m, Jo.Fact.any, Jo.Fact.any])
    (by kernel_rfl) (by kernel_rfl) (by decide) rfl rfl (fun _ _ h b => bt h b) ((Below.refl _ _).drew) ?_ (fun vs w2 hJ hd => ?_)
  · refine Jo.jcons (i := 0) (o := ⟨some 9, _, _, _, _, _⟩) (di := some 9) (L := []) (f := Jo.Fact.eq (.agg #[.bool s, .slice A n c, .int .i64 e])) rfl rfl rfl rfl (fun vs wj hJ hd K hK => ?_) ?_
    · clear hd
      simp only [Jo.putl, Jo.ze, Act.put, Jo.za, Jo.zb, Jo.zc] at hK ⊢
      have xX10 : World.cell? wj ⟨w.heap.size, 0, none⟩ = some (.bool s) := (X1.below hJ).cell 0
      have xX11 : World.cell? wj ⟨w.heap.size, 1, none⟩ = some (.slice A n c) := (X1.below hJ).cell 1
      have xX12 : World.cell? wj ⟨w.heap.size, 2, none⟩ = some (.int .i64 e) := (X1.below hJ).cell 2
      go_simp
      exact hK.out _ _ rfl (Below.refl _ _)
    refine Jo.jcons (i := 1) (o := ⟨some 10, _, _, _, _, _⟩) (di := some 10) (L := [(some 9, 0)]) (f := Jo.Fact.dy N1 E1 n) rfl rfl rfl rfl (fun vs wj hJ hd K hK => ?_) ?_
    · have d0 : (Jo.Fact.eq (.agg #[.bool s, .slice A n c, .int .i64 e])).P (vs 0) wj := hd 0 (by decide)
      clear hd
      simp only [Jo.putl, Jo.zd, Jo.ze, Act.put, Jo.za, Jo.zb, Jo.zc] at hK ⊢
      generalize vs 0 = u0 at hK d0 ⊢
      replace d0 : u0 = _ := d0
      subst d0
      go_simp
      refine (dTaken (hT.below hJ) (h.below hJ) (by omega) HN1.out HE1.out).mono ?_
      rintro ee wk ⟨s1, A1, n1, c1, rfl, p1, k1, B⟩
      exact hK.out _ _ ⟨s1, A1, n1, c1, rfl, p1, k1⟩ B
    refine Jo.jcons (i := 2) (o := ⟨some 11, _, _, _, _, _⟩) (di := some 11) (L := []) (f := Jo.Fact.eq (.agg #[.bool t, .slice B m d, .int .i64 f])) rfl rfl rfl rfl (fun vs wj hJ hd K hK => ?_) ?_
    · clear hd
      simp only [Jo.putl, Jo.ze, Act.put, Jo.za, Jo.zb, Jo.zc] at hK ⊢
      have xX20 : World.cell? wj ⟨w.heap.size + 1, 0, none⟩ = some (.bool t) := (X2.below hJ).cell 0
      have xX21 : World.cell? wj ⟨w.heap.size + 1, 1, none⟩ = some (.slice B m d) := (X2.below hJ).cell 1
      have xX22 : World.cell? wj ⟨w.heap.size + 1, 2, none⟩ = some (.int .i64 f) := (X2.below hJ).cell 2
      go_simp
      exact hK.out _ _ rfl (Below.refl _ _)
    refine Jo.jcons (i := 3) (o := ⟨some 12, _, _, _, _, _⟩) (di := some 12) (L := [(some 11, 2)]) (f := Jo.Fact.dy N2 E2 m) rfl rfl rfl rfl (fun vs wj hJ hd K hK => ?_) ?_
    · have d2 : (Jo.Fact.eq (.agg #[.bool t, .slice B m d, .int .i64 f])).P (vs 2) wj := hd 2 (by decide)
      clear hd
      simp only [Jo.putl, Jo.zd, Jo.ze, Act.put, Jo.za, Jo.zb, Jo.zc] at hK ⊢
      generalize vs 2 = u2 at hK d2 ⊢
      replace d2 : u2 = _ := d2
      subst d2
      go_simp
      refine (dTaken (hT.below hJ) (k.below hJ) (by omega) HN2.out HE2.out).mono ?_
      rintro ee wk ⟨s2, A2, n2, c2, rfl, p2, k2, B⟩
      exact hK.out _ _ ⟨s2, A2, n2, c2, rfl, p2, k2⟩ B
    exact Jo.Steps.nil
  have d0 : (Jo.Fact.eq (.agg #[.bool s, .slice A n c, .int .i64 e])).P (vs 0) w2 := hd 0 (by decide)
  have d1 : (Jo.Fact.dy N1 E1 n).P (vs 1) w2 := hd 1 (by decide)
  have d2 : (Jo.Fact.eq (.agg #[.bool t, .slice B m d, .int .i64 f])).P (vs 2) w2 := hd 2 (by decide)
  have d3 : (Jo.Fact.dy N2 E2 m).P (vs 3) w2 := hd 3 (by decide)
  clear hd
  simp only [Jo.putl, Jo.zd, Jo.ze, Act.put, Jo.za, Jo.zb, Jo.zc]
  generalize vs 0 = u0 at d0 ⊢
  generalize vs 1 = u1 at d1 ⊢
  generalize vs 2 = u2 at d2 ⊢
  generalize vs 3 = u3 at d3 ⊢
  clear vs
  replace d0 : u0 = _ := d0
  subst d0
  obtain ⟨s1, A1, n1, c1, rfl, p1, k1⟩ := d1
  replace d2 : u2 = _ := d2
  subst d2
  obtain ⟨s2, A2, n2, c2, rfl, p2, k2⟩ := d3
  replace X1 := X1.below hJ
  replace X2 := X2.below hJ
  replace hT := hT.below hJ
  replace h := h.below hJ
  replace k := k.below hJ
  replace HB := Lib.hid (bt HB.out hJ)
  have xX10 := X1.at (i := 0) (v := .bool s) rfl
  have zX10 := X1.frozen 0
  have xX11 := X1.at (i := 1) (v := .slice A n c) rfl
  have zX11 := X1.frozen 1
  have xX12 := X1.at (i := 2) (v := .int .i64 e) rfl
  have zX12 := X1.frozen 2
  refine Jo.jnext (i := 4) (o := ⟨none, _, _, _, _, _⟩) (by kernel_rfl) rfl (fun K hK => ?_)
  go_simp
  refine hK.out _ _ ?_
  clear hK K xX10 zX10 xX11 zX11 xX12 zX12
  have SX := StN.mk3 X1 (.bool s1) (.slice A1 n1 c1) (.int .i64 E1)
  replace X2 := X2.stn SX (by omega)
  replace p1 := p1.stn SX (by simp [no32])
  replace p2 := p2.stn SX (by simp [no32])
  replace HB := Lib.hid (SX.below HB.out (by omega))
  replace X1 := SX.box
  clear SX
  generalize (World.setCell (World.setCell (World.setCell w2 ⟨w.heap.size, 0, none⟩ (.bool s1)) ⟨w.heap.size, 1, none⟩ (.slice A1 n1 c1)) ⟨w.heap.size, 2, none⟩ (.int .i64 E1)) = w3 at *
  have xX20 := X2.at (i := 0) (v := .bool t) rfl
  have zX20 := X2.frozen 0
  have xX21 := X2.at (i := 1) (v := .slice B m d) rfl
  have zX21 := X2.frozen 1
  have xX22 := X2.at (i := 2) (v := .int .i64 f) rfl
  have zX22 := X2.frozen 2
  refine Jo.jnext (i := 5) (o := ⟨none, _, _, _, _, _⟩) (by kernel_rfl) rfl (fun K hK => ?_)
  go_simp
  refine hK.out _ _ ?_
  clear hK K xX20 zX20 xX21 zX21 xX22 zX22
  have SX := StN.mk3 X2 (.bool s2) (.slice A2 n2 c2) (.int .i64 E2)
  replace X1 := X1.stn SX (by omega)
  replace p1 := p1.stn SX (by simp [no32])
  replace p2 := p2.stn SX (by simp [no32])
  replace HB := Lib.hid (SX.below HB.out (by omega))
  replace X2 := SX.box
  clear SX
  generalize (World.setCell (World.setCell (World.setCell w3 ⟨w.heap.size + 1, 0, none⟩ (.bool s2)) ⟨w.heap.size + 1, 1, none⟩ (.slice A2 n2 c2)) ⟨w.heap.size + 1, 2, none⟩ (.int .i64 E2)) = w4 at *
  refine Jo.jdone (by kernel_rfl) ?_
  go_upto_region 2 with (fail)
  refine Jo.region_joint (T := [0, 1, 2, 3, 4, 5, 6, 7]) (ds := [some 13, some 14, some 15, some 16, some 17, some 18, some 5, some 6]) (ls := [[], [0], [1], [], [3], [4], [2], [5]]) (k := 8) (L := [(some 13, 0), (some 14, 1), (some 15, 2), (some 16, 3), (some 17, 4), (some 18, 5), (some 5, 6), (some 6, 7)]) (fuel := 0) (J := fun wj => Below (World.heap w4).size w4 wj)
    (F := [Jo.Fact.eq (.pointer (some ⟨w.heap.size, 0, none⟩)), Jo.Fact.eq (.agg #[.bool s1, .slice A1 n1 c1]), Jo.Fact.eq (.int .i64 σ), Jo.Fact.eq (.pointer (some ⟨w.heap.size + 1, 0, none⟩)), Jo.Fact.eq (.agg #[.bool s2, .slice A2 n2 c2]), Jo.Fact.eq (.int .i64 τ), Jo.Fact.eq (.int .i64 σ), Jo.Fact.eq (.int .i64 τ)])
    (by kernel_rfl) (by kernel_rfl) (by decide) rfl rfl (fun _ _ h b => bt h b) ((Below.refl _ _).drew) ?_ (fun vs w5 hJ hd => ?_)
  · refine Jo.jcons (i := 0) (o := ⟨some 13, _, _, _, _, _⟩) (di := some 13) (L := []) (f := Jo.Fact.eq (.pointer (some ⟨w.heap.size, 0, none⟩))) rfl rfl rfl rfl (fun vs wj hJ hd K hK => ?_) ?_
    · clear hd
      simp only [Jo.putl, Jo.ze, Act.put, Jo.za, Jo.zb, Jo.zc] at hK ⊢
      go_simp
      exact hK.out _ _ rfl (Below.refl _ _)
    refine Jo.jcons (i := 1) (o := ⟨some 14, _, _, _, _, _⟩) (di := some 14) (L := [(some 13, 0)]) (f := Jo.Fact.eq (.agg #[.bool s1, .slice A1 n1 c1])) rfl rfl rfl rfl (fun vs wj hJ hd K hK => ?_) ?_
    · have d0 : (Jo.Fact.eq (.pointer (some ⟨w.heap.size, 0, none⟩))).P (vs 0) wj := hd 0 (by decide)
      clear hd
      simp only [Jo.putl, Jo.zd, Jo.ze, Act.put, Jo.za, Jo.zb, Jo.zc] at hK ⊢
      generalize vs 0 = u0 at hK d0 ⊢
      replace d0 : u0 = _ := d0
      subst d0
      have xX10 : World.cell? wj ⟨w.heap.size, 0, none⟩ = some (.bool s1) := (X1.below hJ).cell 0
      have xX11 : World.cell? wj ⟨w.heap.size, 1, none⟩ = some (.slice A1 n1 c1) := (X1.below hJ).cell 1
      have xX12 : World.cell? wj ⟨w.heap.size, 2, none⟩ = some (.int .i64 E1) := (X1.below hJ).cell 2
      go_simp
      exact hK.out _ _ rfl (Below.refl _ _)
    refine Jo.jcons (i := 2) (o := ⟨some 15, _, _, _, _, _⟩) (di := some 15) (L := [(some 14, 1)]) (f := Jo.Fact.eq (.int .i64 σ)) rfl rfl rfl rfl (fun vs wj hJ hd K hK => ?_) ?_
    · have d1 : (Jo.Fact.eq (.agg #[.bool s1, .slice A1 n1 c1])).P (vs 1) wj := hd 1 (by decide)
      clear hd
      simp only [Jo.putl, Jo.zd, Jo.ze, Act.put, Jo.za, Jo.zb, Jo.zc] at hK ⊢
      generalize vs 1 = u1 at hK d1 ⊢
      replace d1 : u1 = _ := d1
      subst d1
      go_simp
      refine (wSign (p1.below hJ).wr HS.out).mono ?_
      rintro ee wk ⟨rfl, B⟩
      exact hK.out _ _ rfl B
    refine Jo.jcons (i := 3) (o := ⟨some 16, _, _, _, _, _⟩) (di := some 16) (L := []) (f := Jo.Fact.eq (.pointer (some ⟨w.heap.size + 1, 0, none⟩))) rfl rfl rfl rfl (fun vs wj hJ hd K hK => ?_) ?_
    · clear hd
      simp only [Jo.putl, Jo.ze, Act.put, Jo.za, Jo.zb, Jo.zc] at hK ⊢
      go_simp
      exact hK.out _ _ rfl (Below.refl _ _)
    refine Jo.jcons (i := 4) (o := ⟨some 17, _, _, _, _, _⟩) (di := some 17) (L := [(some 16, 3)]) (f := Jo.Fact.eq (.agg #[.bool s2, .slice A2 n2 c2])) rfl rfl rfl rfl (fun vs wj hJ hd K hK => ?_) ?_
    · have d3 : (Jo.Fact.eq (.pointer (some ⟨w.heap.size + 1, 0, none⟩))).P (vs 3) wj := hd 3 (by decide)
      clear hd
      simp only [Jo.putl, Jo.zd, Jo.ze, Act.put, Jo.za, Jo.zb, Jo.zc] at hK ⊢
      generalize vs 3 = u3 at hK d3 ⊢
      replace d3 : u3 = _ := d3
      subst d3
      have xX20 : World.cell? wj ⟨w.heap.size + 1, 0, none⟩ = some (.bool s2) := (X2.below hJ).cell 0
      have xX21 : World.cell? wj ⟨w.heap.size + 1, 1, none⟩ = some (.slice A2 n2 c2) := (X2.below hJ).cell 1
      have xX22 : World.cell? wj ⟨w.heap.size + 1, 2, none⟩ = some (.int .i64 E2) := (X2.below hJ).cell 2
      go_simp
      exact hK.out _ _ rfl (Below.refl _ _)
    refine Jo.jcons (i := 5) (o := ⟨some 18, _, _, _, _, _⟩) (di := some 18) (L := [(some 17, 4)]) (f := Jo.Fact.eq (.int .i64 τ)) rfl rfl rfl rfl (fun vs wj hJ hd K hK => ?_) ?_
    · have d4 : (Jo.Fact.eq (.agg #[.bool s2, .slice A2 n2 c2])).P (vs 4) wj := hd 4 (by decide)
      clear hd
      simp only [Jo.putl, Jo.zd, Jo.ze, Act.put, Jo.za, Jo.zb, Jo.zc] at hK ⊢
      generalize vs 4 = u4 at hK d4 ⊢
      replace d4 : u4 = _ := d4
      subst d4
      go_simp
      refine (wSign (p2.below hJ).wr HS2.out).mono ?_
      rintro ee wk ⟨rfl, B⟩
      exact hK.out _ _ rfl B
    refine Jo.jcons (i := 6) (o := ⟨some 5, _, _, _, _, _⟩) (di := some 5) (L := [(some 15, 2)]) (f := Jo.Fact.eq (.int .i64 σ)) rfl rfl rfl rfl (fun vs wj hJ hd K hK => ?_) ?_
    · have d2 : (Jo.Fact.eq (.int .i64 σ)).P (vs 2) wj := hd 2 (by decide)
      clear hd
      simp only [Jo.putl, Jo.zd, Jo.ze, Act.put, Jo.za, Jo.zb, Jo.zc] at hK ⊢
      generalize vs 2 = u2 at hK d2 ⊢
      replace d2 : u2 = _ := d2
      subst d2
      go_simp
      exact hK.out _ _ rfl (Below.refl _ _)
    refine Jo.jcons (i := 7) (o := ⟨some 6, _, _, _, _, _⟩) (di := some 6) (L := [(some 18, 5)]) (f := Jo.Fact.eq (.int .i64 τ)) rfl rfl rfl rfl (fun vs wj hJ hd K hK => ?_) ?_
    · have d5 : (Jo.Fact.eq (.int .i64 τ)).P (vs 5) wj := hd 5 (by decide)
      clear hd
      simp only [Jo.putl, Jo.zd, Jo.ze, Act.put, Jo.za, Jo.zb, Jo.zc] at hK ⊢
      generalize vs 5 = u5 at hK d5 ⊢
      replace d5 : u5 = _ := d5
      subst d5
      go_simp
      exact hK.out _ _ rfl (Below.refl _ _)
    exact Jo.Steps.nil
  have d0 : (Jo.Fact.eq (.pointer (some ⟨w.heap.size, 0, none⟩))).P (vs 0) w5 := hd 0 (by decide)
  have d1 : (Jo.Fact.eq (.agg #[.bool s1, .slice A1 n1 c1])).P (vs 1) w5 := hd 1 (by decide)
  have d2 : (Jo.Fact.eq (.int .i64 σ)).P (vs 2) w5 := hd 2 (by decide)
  have d3 : (Jo.Fact.eq (.pointer (some ⟨w.heap.size + 1, 0, none⟩))).P (vs 3) w5 := hd 3 (by decide)
  have d4 : (Jo.Fact.eq (.agg #[.bool s2, .slice A2 n2 c2])).P (vs 4) w5 := hd 4 (by decide)
  have d5 : (Jo.Fact.eq (.int .i64 τ)).P (vs 5) w5 := hd 5 (by decide)
  have d6 : (Jo.Fact.eq (.int .i64 σ)).P (vs 6) w5 := hd 6 (by decide)
  have d7 : (Jo.Fact.eq (.int .i64 τ)).P (vs 7) w5 := hd 7 (by decide)
  clear hd
  simp only [Jo.putl, Jo.zd, Jo.ze, Act.put, Jo.za, Jo.zb, Jo.zc]
  generalize vs 0 = u0 at d0 ⊢
  generalize vs 1 = u1 at d1 ⊢
  generalize vs 2 = u2 at d2 ⊢
  generalize vs 3 = u3 at d3 ⊢
  generalize vs 4 = u4 at d4 ⊢
  generalize vs 5 = u5 at d5 ⊢
  generalize vs 6 = u6 at d6 ⊢
  generalize vs 7 = u7 at d7 ⊢
  clear vs
  replace d0 : u0 = _ := d0
  subst d0
  replace d1 : u1 = _ := d1
  subst d1
  replace d2 : u2 = _ := d2
  subst d2
  replace d3 : u3 = _ := d3
  subst d3
  replace d4 : u4 = _ := d4
  subst d4
  replace d5 : u5 = _ := d5
  subst d5
  replace d6 : u6 = _ := d6
  subst d6
  replace d7 : u7 = _ := d7
  subst d7
  replace X1 := X1.below hJ
  replace X2 := X2.below hJ
  replace p1 := p1.below hJ
  replace p2 := p2.below hJ
  replace HB := Lib.hid (bt HB.out hJ)
  refine Jo.jdone (by kernel_rfl) ?_
  go_wp2_with (first | (go_at_call 35; ((with_reducible refine (compareInt_any _ _ _).mono ?_); rintro ee w6 ⟨rfl, rfl⟩)))
  go_ret
  exact ⟨ret_int HR.out, HB.out⟩

set_option maxHeartbeats 4000000 in
theorem dcmp_tops {w : World} {A B : Option Addr} {n c m d : Nat} {s t : Bool} {z e y f N1 E1 N2 E2 σ τ x1 x2 p r : Int} (hT : Tab w) (h : Wr w s A n c z) (k : Wr w t B m d y) (hn : n ≤ 100000) (hm : m ≤ 100000) (b1 : -4194304 ≤ E1) (b2 : E1 ≤ 4194304) (b3 : -4194304 ≤ E2) (b4 : E2 ≤ 4194304)
    (HN1 : Hid ((mk z e).1 = N1)) (HE1 : Hid ((mk z e).2 = E1)) (HN2 : Hid ((mk y f).1 = N2)) (HE2 : Hid ((mk y f).2 = E2)) (HS : Hid (cmpI N1 0 = σ)) (HS2 : Hid (cmpI N2 0 = τ)) (heq : σ = τ) (HX1 : Hid (((blen N1.natAbs : Nat) : Int) + E1 = x1)) (HX2 : Hid (((blen N2.natAbs : Nat) : Int) + E2 = x2)) (HP : Hid (cmpI x1 x2 = p)) (hp : p ≠ 0) (HR : Hid (σ * p = r)) :
    Calls Tryd.prog 12 #[.agg #[.bool s, .slice A n c, .int .i64 e], .agg #[.bool t, .slice B m d, .int .i64 f]] w (PI w r) := by
  subst heq
  have q1 : (σ != σ) = false := by simp
  have q2 : (p != 0) = true := by simpa using hp
  have bs : -1 ≤ σ ∧ σ ≤ 1 := HS.out ▸ cmpI_bd _ _
  have bp : -1 ≤ p ∧ p ≤ 1 := HP.out ▸ cmpI_bd _ _
  have HW : Hid (IntKind.i64.wrap (σ * p) = r) := Lib.hid (by
    rw [← HR.out]
    refine IntWalk.i64_in _ ?_
    obtain ⟨s1, s2⟩ := bs
    obtain ⟨p1, p2⟩ := bp
    rcases (by omega : σ = -1 ∨ σ = 0 ∨ σ = 1) with e | e | e <;> rcases (by omega : p = -1 ∨ p = 0 ∨ p = 1) with e2 | e2 | e2 <;> rw [e, e2] <;> decide)
  clear hp bs bp
  go_enter Tryd.func12, Tryd.ntmps12
  go_upto_region 1 with (fail)
  have X1 := (Bo.newAt w (g := w.heap.size) (by simp) #[.bool s, .slice A n c, .int .i64 e] 30).below (bel1 _ (.cells #[.bool t, .slice B m d, .int .i64 f] 30))
  have X2 := (Bo.newAt (w.alloc (.cells #[.bool s, .slice A n c, .int .i64 e] 30)) (g := w.heap.size + 1) (by simp) #[.bool t, .slice B m d, .int .i64 f] 30)
  have HB := Lib.hid (bel2 w (.cells #[.bool s, .slice A n c, .int .i64 e] 30) (.cells #[.bool t, .slice B m d, .int .i64 f] 30))
  replace hT := hT.below HB.out
  replace h := h.below HB.out
  replace k := k.below HB.out
  generalize hW1 : ((w.alloc (.cells #[.bool s, .slice A n c, .int .i64 e] 30)).alloc (.cells #[.bool t, .slice B m d, .int .i64 f] 30)) = w1 at *
  clear hW1
  refine Jo.region_joint (T := [0, 1, 2, 3]) (ds := [some 9, some 10, some 11, some 12, none, none]) (ls := [[], [0], [], [2], [], []]) (k := 6) (L := [(some 9, 0), (some 10, 1), (some 11, 2), (some 12, 3)]) (fuel := 2) (J := fun wj => Below (World.heap w1).size w1 wj)
    (F := [Jo.Fact.eq (.agg #[.bool s, .slice A n c, .int .i64 e]), Jo.Fact.dy N1 E1 n, Jo.Fact.eq (.agg #[.bool t, .slice B m d, .int .i64 f]), Jo.Fact.dy N2 E2 m, Jo.Fact.any, Jo.Fact.any])
    (by kernel_rfl) (by kernel_rfl) (by decide) rfl rfl (fun _ _ h b => bt h b) ((Below.refl _ _).drew) ?_ (fun vs w2 hJ hd => ?_)
  · refine Jo.jcons (i := 0) (o := ⟨some 9, _, _, _, _, _⟩) (di := some 9) (L := []) (f := Jo.Fact.eq (.agg #[.bool s, .slice A n c, .int .i64 e])) rfl rfl rfl rfl (fun vs wj hJ hd K hK => ?_) ?_
    · clear hd
      simp only [Jo.putl, Jo.ze, Act.put, Jo.za, Jo.zb, Jo.zc] at hK ⊢
      have xX10 : World.cell? wj ⟨w.heap.size, 0, none⟩ = some (.bool s) := (X1.below hJ).cell 0
      have xX11 : World.cell? wj ⟨w.heap.size, 1, none⟩ = some (.slice A n c) := (X1.below hJ).cell 1
      have xX12 : World.cell? wj ⟨w.heap.size, 2, none⟩ = some (.int .i64 e) := (X1.below hJ).cell 2
      go_simp
      exact hK.out _ _ rfl (Below.refl _ _)
    refine Jo.jcons (i := 1) (o := ⟨some 10, _, _, _, _, _⟩) (di := some 10) (L := [(some 9, 0)]) (f := Jo.Fact.dy N1 E1 n) rfl rfl rfl rfl (fun vs wj hJ hd K hK => ?_) ?_
    · have d0 : (Jo.Fact.eq (.agg #[.bool s, .slice A n c, .int .i64 e])).P (vs 0) wj := hd 0 (by decide)
      clear hd
      simp only [Jo.putl, Jo.zd, Jo.ze, Act.put, Jo.za, Jo.zb, Jo.zc] at hK ⊢
      generalize vs 0 = u0 at hK d0 ⊢
      replace d0 : u0 = _ := d0
      subst d0
      go_simp
      refine (dTaken (hT.below hJ) (h.below hJ) (by omega) HN1.out HE1.out).mono ?_
      rintro ee wk ⟨s1, A1, n1, c1, rfl, p1, k1, B⟩
      exact hK.out _ _ ⟨s1, A1, n1, c1, rfl, p1, k1⟩ B
    refine Jo.jcons (i := 2) (o := ⟨some 11, _, _, _, _, _⟩) (di := some 11) (L := []) (f := Jo.Fact.eq (.agg #[.bool t, .slice B m d, .int .i64 f])) rfl rfl rfl rfl (fun vs wj hJ hd K hK => ?_) ?_
    · clear hd
      simp only [Jo.putl, Jo.ze, Act.put, Jo.za, Jo.zb, Jo.zc] at hK ⊢
      have xX20 : World.cell? wj ⟨w.heap.size + 1, 0, none⟩ = some (.bool t) := (X2.below hJ).cell 0
      have xX21 : World.cell? wj ⟨w.heap.size + 1, 1, none⟩ = some (.slice B m d) := (X2.below hJ).cell 1
      have xX22 : World.cell? wj ⟨w.heap.size + 1, 2, none⟩ = some (.int .i64 f) := (X2.below hJ).cell 2
      go_simp
      exact hK.out _ _ rfl (Below.refl _ _)
    refine Jo.jcons (i := 3) (o := ⟨some 12, _, _, _, _, _⟩) (di := some 12) (L := [(some 11, 2)]) (f := Jo.Fact.dy N2 E2 m) rfl rfl rfl rfl (fun vs wj hJ hd K hK => ?_) ?_
    · have d2 : (Jo.Fact.eq (.agg #[.bool t, .slice B m d, .int .i64 f])).P (vs 2) wj := hd 2 (by decide)
      clear hd
      simp only [Jo.putl, Jo.zd, Jo.ze, Act.put, Jo.za, Jo.zb, Jo.zc] at hK ⊢
      generalize vs 2 = u2 at hK d2 ⊢
      replace d2 : u2 = _ := d2
      subst d2
      go_simp
      refine (dTaken (hT.below hJ) (k.below hJ) (by omega) HN2.out HE2.out).mono ?_
      rintro ee wk ⟨s2, A2, n2, c2, rfl, p2, k2, B⟩
      exact hK.out _ _ ⟨s2, A2, n2, c2, rfl, p2, k2⟩ B
    exact Jo.Steps.nil
  have d0 : (Jo.Fact.eq (.agg #[.bool s, .slice A n c, .int .i64 e])).P (vs 0) w2 := hd 0 (by decide)
  have d1 : (Jo.Fact.dy N1 E1 n).P (vs 1) w2 := hd 1 (by decide)
  have d2 : (Jo.Fact.eq (.agg #[.bool t, .slice B m d, .int .i64 f])).P (vs 2) w2 := hd 2 (by decide)
  have d3 : (Jo.Fact.dy N2 E2 m).P (vs 3) w2 := hd 3 (by decide)
  clear hd
  simp only [Jo.putl, Jo.zd, Jo.ze, Act.put, Jo.za, Jo.zb, Jo.zc]
  generalize vs 0 = u0 at d0 ⊢
  generalize vs 1 = u1 at d1 ⊢
  generalize vs 2 = u2 at d2 ⊢
  generalize vs 3 = u3 at d3 ⊢
  clear vs
  replace d0 : u0 = _ := d0
  subst d0
  obtain ⟨s1, A1, n1, c1, rfl, p1, k1⟩ := d1
  replace d2 : u2 = _ := d2
  subst d2
  obtain ⟨s2, A2, n2, c2, rfl, p2, k2⟩ := d3
  replace X1 := X1.below hJ
  replace X2 := X2.below hJ
  replace hT := hT.below hJ
  replace h := h.below hJ
  replace k := k.below hJ
  replace HB := Lib.hid (bt HB.out hJ)
  have xX10 := X1.at (i := 0) (v := .bool s) rfl
  have zX10 := X1.frozen 0
  have xX11 := X1.at (i := 1) (v := .slice A n c) rfl
  have zX11 := X1.frozen 1
  have xX12 := X1.at (i := 2) (v := .int .i64 e) rfl
  have zX12 := X1.frozen 2
  refine Jo.jnext (i := 4) (o := ⟨none, _, _, _, _, _⟩) (by kernel_rfl) rfl (fun K hK => ?_)
  go_simp
  refine hK.out _ _ ?_
  clear hK K xX10 zX10 xX11 zX11 xX12 zX12
  have SX := StN.mk3 X1 (.bool s1) (.slice A1 n1 c1) (.int .i64 E1)
  replace X2 := X2.stn SX (by omega)
  replace p1 := p1.stn SX (by simp [no32])
  replace p2 := p2.stn SX (by simp [no32])
  replace HB := Lib.hid (SX.below HB.out (by omega))
  replace X1 := SX.box
  clear SX
  generalize (World.setCell (World.setCell (World.setCell w2 ⟨w.heap.size, 0, none⟩ (.bool s1)) ⟨w.heap.size, 1, none⟩ (.slice A1 n1 c1)) ⟨w.heap.size, 2, none⟩ (.int .i64 E1)) = w3 at *
  have xX20 := X2.at (i := 0) (v := .bool t) rfl
  have zX20 := X2.frozen 0
  have xX21 := X2.at (i := 1) (v := .slice B m d) rfl
  have zX21 := X2.frozen 1
  have xX22 := X2.at (i := 2) (v := .int .i64 f) rfl
  have zX22 := X2.frozen 2
  refine Jo.jnext (i := 5) (o := ⟨none, _, _, _, _, _⟩) (by kernel_rfl) rfl (fun K hK => ?_)
  go_simp
  refine hK.out _ _ ?_
  clear hK K xX20 zX20 xX21 zX21 xX22 zX22
  have SX := StN.mk3 X2 (.bool s2) (.slice A2 n2 c2) (.int .i64 E2)
  replace X1 := X1.stn SX (by omega)
  replace p1 := p1.stn SX (by simp [no32])
  replace p2 := p2.stn SX (by simp [no32])
  replace HB := Lib.hid (SX.below HB.out (by omega))
  replace X2 := SX.box
  clear SX
  generalize (World.setCell (World.setCell (World.setCell w3 ⟨w.heap.size + 1, 0, none⟩ (.bool s2)) ⟨w.heap.size + 1, 1, none⟩ (.slice A2 n2 c2)) ⟨w.heap.size + 1, 2, none⟩ (.int .i64 E2)) = w4 at *
  refine Jo.jdone (by kernel_rfl) ?_
  go_upto_region 2 with (fail)
  refine Jo.region_joint (T := [0, 1, 2, 3, 4, 5, 6, 7]) (ds := [some 13, some 14, some 15, some 16, some 17, some 18, some 5, some 6]) (ls := [[], [0], [1], [], [3], [4], [2], [5]]) (k := 8) (L := [(some 13, 0), (some 14, 1), (some 15, 2), (some 16, 3), (some 17, 4), (some 18, 5), (some 5, 6), (some 6, 7)]) (fuel := 0) (J := fun wj => Below (World.heap w4).size w4 wj)
    (F := [Jo.Fact.eq (.pointer (some ⟨w.heap.size, 0, none⟩)), Jo.Fact.eq (.agg #[.bool s1, .slice A1 n1 c1]), Jo.Fact.eq (.int .i64 σ), Jo.Fact.eq (.pointer (some ⟨w.heap.size + 1, 0, none⟩)), Jo.Fact.eq (.agg #[.bool s2, .slice A2 n2 c2]), Jo.Fact.eq (.int .i64 σ), Jo.Fact.eq (.int .i64 σ), Jo.Fact.eq (.int .i64 σ)])
    (by kernel_rfl) (by kernel_rfl) (by decide) rfl rfl (fun _ _ h b => bt h b) ((Below.refl _ _).drew) ?_ (fun vs w5 hJ hd => ?_)
  · refine Jo.jcons (i := 0) (o := ⟨some 13, _, _, _, _, _⟩) (di := some 13) (L := []) (f := Jo.Fact.eq (.pointer (some ⟨w.heap.size, 0, none⟩))) rfl rfl rfl rfl (fun vs wj hJ hd K hK => ?_) ?_
    · clear hd
      simp only [Jo.putl, Jo.ze, Act.put, Jo.za, Jo.zb, Jo.zc] at hK ⊢
      go_simp
      exact hK.out _ _ rfl (Below.refl _ _)
    refine Jo.jcons (i := 1) (o := ⟨some 14, _, _, _, _, _⟩) (di := some 14) (L := [(some 13, 0)]) (f := Jo.Fact.eq (.agg #[.bool s1, .slice A1 n1 c1])) rfl rfl rfl rfl (fun vs wj hJ hd K hK => ?_) ?_
    · have d0 : (Jo.Fact.eq (.pointer (some ⟨w.heap.size, 0, none⟩))).P (vs 0) wj := hd 0 (by decide)
      clear hd
      simp only [Jo.putl, Jo.zd, Jo.ze, Act.put, Jo.za, Jo.zb, Jo.zc] at hK ⊢
      generalize vs 0 = u0 at hK d0 ⊢
      replace d0 : u0 = _ := d0
      subst d0
      have xX10 : World.cell? wj ⟨w.heap.size, 0, none⟩ = some (.bool s1) := (X1.below hJ).cell 0
      have xX11 : World.cell? wj ⟨w.heap.size, 1, none⟩ = some (.slice A1 n1 c1) := (X1.below hJ).cell 1
      have xX12 : World.cell? wj ⟨w.heap.size, 2, none⟩ = some (.int .i64 E1) := (X1.below hJ).cell 2
      go_simp
      exact hK.out _ _ rfl (Below.refl _ _)
    refine Jo.jcons (i := 2) (o := ⟨some 15, _, _, _, _, _⟩) (di := some 15) (L := [(some 14, 1)]) (f := Jo.Fact.eq (.int .i64 σ)) rfl rfl rfl rfl (fun vs wj hJ hd K hK => ?_) ?_
    · have d1 : (Jo.Fact.eq (.agg #[.bool s1, .slice A1 n1 c1])).P (vs 1) wj := hd 1 (by decide)
      clear hd
      simp only [Jo.putl, Jo.zd, Jo.ze, Act.put, Jo.za, Jo.zb, Jo.zc] at hK ⊢
      generalize vs 1 = u1 at hK d1 ⊢
      replace d1 : u1 = _ := d1
      subst d1
      go_simp
      refine (wSign (p1.below hJ).wr HS.out).mono ?_
      rintro ee wk ⟨rfl, B⟩
      exact hK.out _ _ rfl B
    refine Jo.jcons (i := 3) (o := ⟨some 16, _, _, _, _, _⟩) (di := some 16) (L := []) (f := Jo.Fact.eq (.pointer (some ⟨w.heap.size + 1, 0, none⟩))) rfl rfl rfl rfl (fun vs wj hJ hd K hK => ?_) ?_
    · clear hd
      simp only [Jo.putl, Jo.ze, Act.put, Jo.za, Jo.zb, Jo.zc] at hK ⊢
      go_simp
      exact hK.out _ _ rfl (Below.refl _ _)
    refine Jo.jcons (i := 4) (o := ⟨some 17, _, _, _, _, _⟩) (di := some 17) (L := [(some 16, 3)]) (f := Jo.Fact.eq (.agg #[.bool s2, .slice A2 n2 c2])) rfl rfl rfl rfl (fun vs wj hJ hd K hK => ?_) ?_
    · have d3 : (Jo.Fact.eq (.pointer (some ⟨w.heap.size + 1, 0, none⟩))).P (vs 3) wj := hd 3 (by decide)
      clear hd
      simp only [Jo.putl, Jo.zd, Jo.ze, Act.put, Jo.za, Jo.zb, Jo.zc] at hK ⊢
      generalize vs 3 = u3 at hK d3 ⊢
      replace d3 : u3 = _ := d3
      subst d3
      have xX20 : World.cell? wj ⟨w.heap.size + 1, 0, none⟩ = some (.bool s2) := (X2.below hJ).cell 0
      have xX21 : World.cell? wj ⟨w.heap.size + 1, 1, none⟩ = some (.slice A2 n2 c2) := (X2.below hJ).cell 1
      have xX22 : World.cell? wj ⟨w.heap.size + 1, 2, none⟩ = some (.int .i64 E2) := (X2.below hJ).cell 2
      go_simp
      exact hK.out _ _ rfl (Below.refl _ _)
    refine Jo.jcons (i := 5) (o := ⟨some 18, _, _, _, _, _⟩) (di := some 18) (L := [(some 17, 4)]) (f := Jo.Fact.eq (.int .i64 σ)) rfl rfl rfl rfl (fun vs wj hJ hd K hK => ?_) ?_
    · have d4 : (Jo.Fact.eq (.agg #[.bool s2, .slice A2 n2 c2])).P (vs 4) wj := hd 4 (by decide)
      clear hd
      simp only [Jo.putl, Jo.zd, Jo.ze, Act.put, Jo.za, Jo.zb, Jo.zc] at hK ⊢
      generalize vs 4 = u4 at hK d4 ⊢
      replace d4 : u4 = _ := d4
      subst d4
      go_simp
      refine (wSign (p2.below hJ).wr HS2.out).mono ?_
      rintro ee wk ⟨rfl, B⟩
      exact hK.out _ _ rfl B
    refine Jo.jcons (i := 6) (o := ⟨some 5, _, _, _, _, _⟩) (di := some 5) (L := [(some 15, 2)]) (f := Jo.Fact.eq (.int .i64 σ)) rfl rfl rfl rfl (fun vs wj hJ hd K hK => ?_) ?_
    · have d2 : (Jo.Fact.eq (.int .i64 σ)).P (vs 2) wj := hd 2 (by decide)
      clear hd
      simp only [Jo.putl, Jo.zd, Jo.ze, Act.put, Jo.za, Jo.zb, Jo.zc] at hK ⊢
      generalize vs 2 = u2 at hK d2 ⊢
      replace d2 : u2 = _ := d2
      subst d2
      go_simp
      exact hK.out _ _ rfl (Below.refl _ _)
    refine Jo.jcons (i := 7) (o := ⟨some 6, _, _, _, _, _⟩) (di := some 6) (L := [(some 18, 5)]) (f := Jo.Fact.eq (.int .i64 σ)) rfl rfl rfl rfl (fun vs wj hJ hd K hK => ?_) ?_
    · have d5 : (Jo.Fact.eq (.int .i64 σ)).P (vs 5) wj := hd 5 (by decide)
      clear hd
      simp only [Jo.putl, Jo.zd, Jo.ze, Act.put, Jo.za, Jo.zb, Jo.zc] at hK ⊢
      generalize vs 5 = u5 at hK d5 ⊢
      replace d5 : u5 = _ := d5
      subst d5
      go_simp
      exact hK.out _ _ rfl (Below.refl _ _)
    exact Jo.Steps.nil
  have d0 : (Jo.Fact.eq (.pointer (some ⟨w.heap.size, 0, none⟩))).P (vs 0) w5 := hd 0 (by decide)
  have d1 : (Jo.Fact.eq (.agg #[.bool s1, .slice A1 n1 c1])).P (vs 1) w5 := hd 1 (by decide)
  have d2 : (Jo.Fact.eq (.int .i64 σ)).P (vs 2) w5 := hd 2 (by decide)
  have d3 : (Jo.Fact.eq (.pointer (some ⟨w.heap.size + 1, 0, none⟩))).P (vs 3) w5 := hd 3 (by decide)
  have d4 : (Jo.Fact.eq (.agg #[.bool s2, .slice A2 n2 c2])).P (vs 4) w5 := hd 4 (by decide)
  have d5 : (Jo.Fact.eq (.int .i64 σ)).P (vs 5) w5 := hd 5 (by decide)
  have d6 : (Jo.Fact.eq (.int .i64 σ)).P (vs 6) w5 := hd 6 (by decide)
  have d7 : (Jo.Fact.eq (.int .i64 σ)).P (vs 7) w5 := hd 7 (by decide)
  clear hd
  simp only [Jo.putl, Jo.zd, Jo.ze, Act.put, Jo.za, Jo.zb, Jo.zc]
  generalize vs 0 = u0 at d0 ⊢
  generalize vs 1 = u1 at d1 ⊢
  generalize vs 2 = u2 at d2 ⊢
  generalize vs 3 = u3 at d3 ⊢
  generalize vs 4 = u4 at d4 ⊢
  generalize vs 5 = u5 at d5 ⊢
  generalize vs 6 = u6 at d6 ⊢
  generalize vs 7 = u7 at d7 ⊢
  clear vs
  replace d0 : u0 = _ := d0
  subst d0
  replace d1 : u1 = _ := d1
  subst d1
  replace d2 : u2 = _ := d2
  subst d2
  replace d3 : u3 = _ := d3
  subst d3
  replace d4 : u4 = _ := d4
  subst d4
  replace d5 : u5 = _ := d5
  subst d5
  replace d6 : u6 = _ := d6
  subst d6
  replace d7 : u7 = _ := d7
  subst d7
  replace X1 := X1.below hJ
  replace X2 := X2.below hJ
  replace p1 := p1.below hJ
  replace p2 := p2.below hJ
  replace HB := Lib.hid (bt HB.out hJ)
  refine Jo.jdone (by kernel_rfl) ?_
  go_upto_region 5 with (fail)
  refine Jo.region_joint (T := [0, 1, 2, 3, 4, 5]) (ds := [some 25, some 26, some 27, some 28, some 29, some 7]) (ls := [[], [0], [], [2], [1, 3], [4]]) (k := 6) (L := [(some 25, 0), (some 26, 1), (some 27, 2), (some 28, 3), (some 29, 4), (some 7, 5)]) (fuel := 0) (J := fun wj => Below (World.heap w5).size w5 wj)
    (F := [Jo.Fact.eq (.agg #[.bool s1, .slice A1 n1 c1, .int .i64 E1]), Jo.Fact.eq (.int .i64 x1), Jo.Fact.eq (.agg #[.bool s2, .slice A2 n2 c2, .int .i64 E2]), Jo.Fact.eq (.int .i64 x2), Jo.Fact.eq (.int .i64 p), Jo.Fact.eq (.int .i64 p)])
    (by kernel_rfl) (by kernel_rfl) (by decide) rfl rfl (fun _ _ h b => bt h b) ((Below.refl _ _).drew) ?_ (fun vs w6 hJ hd => ?_)
  · refine Jo.jcons (i := 0) (o := ⟨some 25, _, _, _, _, _⟩) (di := some 25) (L := []) (f := Jo.Fact.eq (.agg #[.bool s1, .slice A1 n1 c1, .int .i64 E1])) rfl rfl rfl rfl (fun vs wj hJ hd K hK => ?_) ?_
    · clear hd
      simp only [Jo.putl, Jo.ze, Act.put, Jo.za, Jo.zb, Jo.zc] at hK ⊢
      have xX10 : World.cell? wj ⟨w.heap.size, 0, none⟩ = some (.bool s1) := (X1.below hJ).cell 0
      have xX11 : World.cell? wj ⟨w.heap.size, 1, none⟩ = some (.slice A1 n1 c1) := (X1.below hJ).cell 1
      have xX12 : World.cell? wj ⟨w.heap.size, 2, none⟩ = some (.int .i64 E1) := (X1.below hJ).cell 2
      go_simp
      exact hK.out _ _ rfl (Below.refl _ _)
    refine Jo.jcons (i := 1) (o := ⟨some 26, _, _, _, _, _⟩) (di := some 26) (L := [(some 25, 0)]) (f := Jo.Fact.eq (.int .i64 x1)) rfl rfl rfl rfl (fun vs wj hJ hd K hK => ?_) ?_
    · have d0 : (Jo.Fact.eq (.agg #[.bool s1, .slice A1 n1 c1, .int .i64 E1])).P (vs 0) wj := hd 0 (by decide)
      clear hd
      simp only [Jo.putl, Jo.zd, Jo.ze, Act.put, Jo.za, Jo.zb, Jo.zc] at hK ⊢
      generalize vs 0 = u0 at hK d0 ⊢
      replace d0 : u0 = _ := d0
      subst d0
      go_simp
      refine (dHighest (p1.below hJ) (by omega) b1 b2 HX1.out).mono ?_
      rintro ee wk ⟨rfl, B⟩
      exact hK.out _ _ rfl B
    refine Jo.jcons (i := 2) (o := ⟨some 27, _, _, _, _, _⟩) (di := some 27) (L := []) (f := Jo.Fact.eq (.agg #[.bool s2, .slice A2 n2 c2, .int .i64 E2])) rfl rfl rfl rfl (fun vs wj hJ hd K hK => ?_) ?_
    · clear hd
      simp only [Jo.putl, Jo.ze, Act.put, Jo.za, Jo.zb, Jo.zc] at hK ⊢
      have xX20 : World.cell? wj ⟨w.heap.size + 1, 0, none⟩ = some (.bool s2) := (X2.below hJ).cell 0
      have xX21 : World.cell? wj ⟨w.heap.size + 1, 1, none⟩ = some (.slice A2 n2 c2) := (X2.below hJ).cell 1
      have xX22 : World.cell? wj ⟨w.heap.size + 1, 2, none⟩ = some (.int .i64 E2) := (X2.below hJ).cell 2
      go_simp
      exact hK.out _ _ rfl (Below.refl _ _)
    refine Jo.jcons (i := 3) (o := ⟨some 28, _, _, _, _, _⟩) (di := some 28) (L := [(some 27, 2)]) (f := Jo.Fact.eq (.int .i64 x2)) rfl rfl rfl rfl (fun vs wj hJ hd K hK => ?_) ?_
    · have d2 : (Jo.Fact.eq (.agg #[.bool s2, .slice A2 n2 c2, .int .i64 E2])).P (vs 2) wj := hd 2 (by decide)
      clear hd
      simp only [Jo.putl, Jo.zd, Jo.ze, Act.put, Jo.za, Jo.zb, Jo.zc] at hK ⊢
      generalize vs 2 = u2 at hK d2 ⊢
      replace d2 : u2 = _ := d2
      subst d2
      go_simp
      refine (dHighest (p2.below hJ) (by omega) b3 b4 HX2.out).mono ?_
      rintro ee wk ⟨rfl, B⟩
      exact hK.out _ _ rfl B
    refine Jo.jcons (i := 4) (o := ⟨some 29, _, _, _, _, _⟩) (di := some 29) (L := [(some 26, 1), (some 28, 3)]) (f := Jo.Fact.eq (.int .i64 p)) rfl rfl rfl rfl (fun vs wj hJ hd K hK => ?_) ?_
    · have d1 : (Jo.Fact.eq (.int .i64 x1)).P (vs 1) wj := hd 1 (by decide)
      have d3 : (Jo.Fact.eq (.int .i64 x2)).P (vs 3) wj := hd 3 (by decide)
      clear hd
      simp only [Jo.putl, Jo.zd, Jo.ze, Act.put, Jo.za, Jo.zb, Jo.zc] at hK ⊢
      generalize vs 1 = u1 at hK d1 ⊢
      generalize vs 3 = u3 at hK d3 ⊢
      replace d1 : u1 = _ := d1
      subst d1
      replace d3 : u3 = _ := d3
      subst d3
      go_simp
      refine (compareInt_any x1 x2 wj).mono ?_
      rintro ee wk ⟨rfl, rfl⟩
      exact hK.out _ _ (val_int HP.out) (Below.refl _ _)
    refine Jo.jcons (i := 5) (o := ⟨some 7, _, _, _, _, _⟩) (di := some 7) (L := [(some 29, 4)]) (f := Jo.Fact.eq (.int .i64 p)) rfl rfl rfl rfl (fun vs wj hJ hd K hK => ?_) ?_
    · have d4 : (Jo.Fact.eq (.int .i64 p)).P (vs 4) wj := hd 4 (by decide)
      clear hd
      simp only [Jo.putl, Jo.zd, Jo.ze, Act.put, Jo.za, Jo.zb, Jo.zc] at hK ⊢
      generalize vs 4 = u4 at hK d4 ⊢
      replace d4 : u4 = _ := d4
      subst d4
      go_simp
      exact hK.out _ _ rfl (Below.refl _ _)
    exact Jo.Steps.nil
  have d0 : (Jo.Fact.eq (.agg #[.bool s1, .slice A1 n1 c1, .int .i64 E1])).P (vs 0) w6 := hd 0 (by decide)
  have d1 : (Jo.Fact.eq (.int .i64 x1)).P (vs 1) w6 := hd 1 (by decide)
  have d2 : (Jo.Fact.eq (.agg #[.bool s2, .slice A2 n2 c2, .int .i64 E2])).P (vs 2) w6 := hd 2 (by decide)
  have d3 : (Jo.Fact.eq (.int .i64 x2)).P (vs 3) w6 := hd 3 (by decide)
  have d4 : (Jo.Fact.eq (.int .i64 p)).P (vs 4) w6 := hd 4 (by decide)
  have d5 : (Jo.Fact.eq (.int .i64 p)).P (vs 5) w6 := hd 5 (by decide)
  clear hd
  simp only [Jo.putl, Jo.zd, Jo.ze, Act.put, Jo.za, Jo.zb, Jo.zc]
  generalize vs 0 = u0 at d0 ⊢
  generalize vs 1 = u1 at d1 ⊢
  generalize vs 2 = u2 at d2 ⊢
  generalize vs 3 = u3 at d3 ⊢
  generalize vs 4 = u4 at d4 ⊢
  generalize vs 5 = u5 at d5 ⊢
  clear vs
  replace d0 : u0 = _ := d0
  subst d0
  replace d1 : u1 = _ := d1
  subst d1
  replace d2 : u2 = _ := d2
  subst d2
  replace d3 : u3 = _ := d3
  subst d3
  replace d4 : u4 = _ := d4
  subst d4
  replace d5 : u5 = _ := d5
  subst d5
  replace X1 := X1.below hJ
  replace X2 := X2.below hJ
  replace p1 := p1.below hJ
  replace p2 := p2.below hJ
  replace HB := Lib.hid (bt HB.out hJ)
  refine Jo.jdone (by kernel_rfl) ?_
  have hw := HW.out
  go_wp2
  go_ret
  exact ⟨rfl, HB.out⟩

set_option maxHeartbeats 4000000 in
theorem dcmp_up {w : World} {A B : Option Addr} {n c m d : Nat} {s t : Bool} {z e y f N1 E1 N2 E2 σ τ x1 x2 p r : Int} (hT : Tab w) (h : Wr w s A n c z) (k : Wr w t B m d y) (hn : n ≤ 100000) (hm : m ≤ 100000) (b1 : -4194304 ≤ E1) (b2 : E1 ≤ 4194304) (b3 : -4194304 ≤ E2) (b4 : E2 ≤ 4194304)
    (HN1 : Hid ((mk z e).1 = N1)) (HE1 : Hid ((mk z e).2 = E1)) (HN2 : Hid ((mk y f).1 = N2)) (HE2 : Hid ((mk y f).2 = E2)) (HS : Hid (cmpI N1 0 = σ)) (HS2 : Hid (cmpI N2 0 = τ)) (heq : σ = τ) (HX1 : Hid (((blen N1.natAbs : Nat) : Int) + E1 = x1)) (HX2 : Hid (((blen N2.natAbs : Nat) : Int) + E2 = x2)) (HP : Hid (cmpI x1 x2 = p)) (hp : p = 0) (hle : E1 ≤ E2) (HR : Hid (cmpI (N1 * ((2 ^ (E1 - E1).toNat : Nat) : Int)) (N2 * ((2 ^ (E2 - E1).toNat : Nat) : Int)) = r)) :
    Calls Tryd.prog 12 #[.agg #[.bool s, .slice A n c, .int .i64 e], .agg #[.bool t, .slice B m d, .int .i64 f]] w (PI w r) := by
  subst heq
  have q3 : (p != 0) = false := by simpa using hp
  clear hp
  have q1 : (σ != σ) = false := by simp
  have q2 : decide (E2 < E1) = false := by simp; omega
  go_enter Tryd.func12, Tryd.ntmps12
  go_upto_region 1 with (fail)
  have X1 := (Bo.newAt w (g := w.heap.size) (by simp) #[.bool s, .slice A n c, .int .i64 e] 30).below (bel1 _ (.cells #[.bool t, .slice B m d, .int .i64 f] 30))
  have X2 := (Bo.newAt (w.alloc (.cells #[.bool s, .slice A n c, .int .i64 e] 30)) (g := w.heap.size + 1) (by simp) #[.bool t, .slice B m d, .int .i64 f] 30)
  have HB := Lib.hid (bel2 w (.cells #[.bool s, .slice A n c, .int .i64 e] 30) (.cells #[.bool t, .slice B m d, .int .i64 f] 30))
  replace hT := hT.below HB.out
  replace h := h.below HB.out
  replace k := k.below HB.out
  generalize hW1 : ((w.alloc (.cells #[.bool s, .slice A n c, .int .i64 e] 30)).alloc (.cells #[.bool t, .slice B m d, .int .i64 f] 30)) = w1 at *
  clear hW1
  refine Jo.region_joint (T := [0, 1, 2, 3]) (ds := [some 9, some 10, some 11, some 12, none, none]) (ls := [[], [0], [], [2], [], []]) (k := 6) (L := [(some 9, 0), (some 10, 1), (some 11, 2), (some 12, 3)]) (fuel := 2) (J := fun wj => Below (World.heap w1).size w1 wj)
    (F := [Jo.Fact.eq (.agg #[.bool s, .slice A n c, .int .i64 e]), Jo.Fact.dy N1 E1 n, Jo.Fact.eq (.agg #[.bool t, .slice B m d, .int .i64 f]), Jo.Fact.dy N2 E2 m, Jo.Fact.any, Jo.Fact.any])
    (by kernel_rfl) (by kernel_rfl) (by decide) rfl rfl (fun _ _ h b => bt h b) ((Below.refl _ _).drew) ?_ (fun vs w2 hJ hd => ?_)
  · refine Jo.jcons (i := 0) (o := ⟨some 9, _, _, _, _, _⟩) (di := some 9) (L := []) (f := Jo.Fact.eq (.agg #[.bool s, .slice A n c, .int .i64 e])) rfl rfl rfl rfl (fun vs wj hJ hd K hK => ?_) ?_
    · clear hd
      simp only [Jo.putl, Jo.ze, Act.put, Jo.za, Jo.zb, Jo.zc] at hK ⊢
      have xX10 : World.cell? wj ⟨w.heap.size, 0, none⟩ = some (.bool s) := (X1.below hJ).cell 0
      have xX11 : World.cell? wj ⟨w.heap.size, 1, none⟩ = some (.slice A n c) := (X1.below hJ).cell 1
      have xX12 : World.cell? wj ⟨w.heap.size, 2, none⟩ = some (.int .i64 e) := (X1.below hJ).cell 2
      go_simp
      exact hK.out _ _ rfl (Below.refl _ _)
    refine Jo.jcons (i := 1) (o := ⟨some 10, _, _, _, _, _⟩) (di := some 10) (L := [(some 9, 0)]) (f := Jo.Fact.dy N1 E1 n) rfl rfl rfl rfl (fun vs wj hJ hd K hK => ?_) ?_
    · have d0 : (Jo.Fact.eq (.agg #[.bool s, .slice A n c, .int .i64 e])).P (vs 0) wj := hd 0 (by decide)
      clear hd
      simp only [Jo.putl, Jo.zd, Jo.ze, Act.put, Jo.za, Jo.zb, Jo.zc] at hK ⊢
      generalize vs 0 = u0 at hK d0 ⊢
      replace d0 : u0 = _ := d0
      subst d0
      go_simp
      refine (dTaken (hT.below hJ) (h.below hJ) (by omega) HN1.out HE1.out).mono ?_
      rintro ee wk ⟨s1, A1, n1, c1, rfl, p1, k1, B⟩
      exact hK.out _ _ ⟨s1, A1, n1, c1, rfl, p1, k1⟩ B
    refine Jo.jcons (i := 2) (o := ⟨some 11, _, _, _, _, _⟩) (di := some 11) (L := []) (f := Jo.Fact.eq (.agg #[.bool t, .slice B m d, .int .i64 f])) rfl rfl rfl rfl (fun vs wj hJ hd K hK => ?_) ?_
    · clear hd
      simp only [Jo.putl, Jo.ze, Act.put, Jo.za, Jo.zb, Jo.zc] at hK ⊢
      have xX20 : World.cell? wj ⟨w.heap.size + 1, 0, none⟩ = some (.bool t) := (X2.below hJ).cell 0
      have xX21 : World.cell? wj ⟨w.heap.size + 1, 1, none⟩ = some (.slice B m d) := (X2.below hJ).cell 1
      have xX22 : World.cell? wj ⟨w.heap.size + 1, 2, none⟩ = some (.int .i64 f) := (X2.below hJ).cell 2
      go_simp
      exact hK.out _ _ rfl (Below.refl _ _)
    refine Jo.jcons (i := 3) (o := ⟨some 12, _, _, _, _, _⟩) (di := some 12) (L := [(some 11, 2)]) (f := Jo.Fact.dy N2 E2 m) rfl rfl rfl rfl (fun vs wj hJ hd K hK => ?_) ?_
    · have d2 : (Jo.Fact.eq (.agg #[.bool t, .slice B m d, .int .i64 f])).P (vs 2) wj := hd 2 (by decide)
      clear hd
      simp only [Jo.putl, Jo.zd, Jo.ze, Act.put, Jo.za, Jo.zb, Jo.zc] at hK ⊢
      generalize vs 2 = u2 at hK d2 ⊢
      replace d2 : u2 = _ := d2
      subst d2
      go_simp
      refine (dTaken (hT.below hJ) (k.below hJ) (by omega) HN2.out HE2.out).mono ?_
      rintro ee wk ⟨s2, A2, n2, c2, rfl, p2, k2, B⟩
      exact hK.out _ _ ⟨s2, A2, n2, c2, rfl, p2, k2⟩ B
    exact Jo.Steps.nil
  have d0 : (Jo.Fact.eq (.agg #[.bool s, .slice A n c, .int .i64 e])).P (vs 0) w2 := hd 0 (by decide)
  have d1 : (Jo.Fact.dy N1 E1 n).P (vs 1) w2 := hd 1 (by decide)
  have d2 : (Jo.Fact.eq (.agg #[.bool t, .slice B m d, .int .i64 f])).P (vs 2) w2 := hd 2 (by decide)
  have d3 : (Jo.Fact.dy N2 E2 m).P (vs 3) w2 := hd 3 (by decide)
  clear hd
  simp only [Jo.putl, Jo.zd, Jo.ze, Act.put, Jo.za, Jo.zb, Jo.zc]
  generalize vs 0 = u0 at d0 ⊢
  generalize vs 1 = u1 at d1 ⊢
  generalize vs 2 = u2 at d2 ⊢
  generalize vs 3 = u3 at d3 ⊢
  clear vs
  replace d0 : u0 = _ := d0
  subst d0
  obtain ⟨s1, A1, n1, c1, rfl, p1, k1⟩ := d1
  replace d2 : u2 = _ := d2
  subst d2
  obtain ⟨s2, A2, n2, c2, rfl, p2, k2⟩ := d3
  replace X1 := X1.below hJ
  replace X2 := X2.below hJ
  replace hT := hT.below hJ
  replace h := h.below hJ
  replace k := k.below hJ
  replace HB := Lib.hid (bt HB.out hJ)
  have xX10 := X1.at (i := 0) (v := .bool s) rfl
  have zX10 := X1.frozen 0
  have xX11 := X1.at (i := 1) (v := .slice A n c) rfl
  have zX11 := X1.frozen 1
  have xX12 := X1.at (i := 2) (v := .int .i64 e) rfl
  have zX12 := X1.frozen 2
  refine Jo.jnext (i := 4) (o := ⟨none, _, _, _, _, _⟩) (by kernel_rfl) rfl (fun K hK => ?_)
  go_simp
  refine hK.out _ _ ?_
  clear hK K xX10 zX10 xX11 zX11 xX12 zX12
  have SX := StN.mk3 X1 (.bool s1) (.slice A1 n1 c1) (.int .i64 E1)
  replace X2 := X2.stn SX (by omega)
  replace p1 := p1.stn SX (by simp [no32])
  replace p2 := p2.stn SX (by simp [no32])
  replace HB := Lib.hid (SX.below HB.out (by omega))
  replace X1 := SX.box
  clear SX
  generalize (World.setCell (World.setCell (World.setCell w2 ⟨w.heap.size, 0, none⟩ (.bool s1)) ⟨w.heap.size, 1, none⟩ (.slice A1 n1 c1)) ⟨w.heap.size, 2, none⟩ (.int .i64 E1)) = w3 at *
  have xX20 := X2.at (i := 0) (v := .bool t) rfl
  have zX20 := X2.frozen 0
  have xX21 := X2.at (i := 1) (v := .slice B m d) rfl
  have zX21 := X2.frozen 1
  have xX22 := X2.at (i := 2) (v := .int .i64 f) rfl
  have zX22 := X2.frozen 2
  refine Jo.jnext (i := 5) (o := ⟨none, _, _, _, _, _⟩) (by kernel_rfl) rfl (fun K hK => ?_)
  go_simp
  refine hK.out _ _ ?_
  clear hK K xX20 zX20 xX21 zX21 xX22 zX22
  have SX := StN.mk3 X2 (.bool s2) (.slice A2 n2 c2) (.int .i64 E2)
  replace X1 := X1.stn SX (by omega)
  replace p1 := p1.stn SX (by simp [no32])
  replace p2 := p2.stn SX (by simp [no32])
  replace HB := Lib.hid (SX.below HB.out (by omega))
  replace X2 := SX.box
  clear SX
  generalize (World.setCell (World.setCell (World.setCell w3 ⟨w.heap.size + 1, 0, none⟩ (.bool s2)) ⟨w.heap.size + 1, 1, none⟩ (.slice A2 n2 c2)) ⟨w.heap.size + 1, 2, none⟩ (.int .i64 E2)) = w4 at *
  refine Jo.jdone (by kernel_rfl) ?_
  go_upto_region 2 with (fail)
  refine Jo.region_joint (T := [0, 1, 2, 3, 4, 5, 6, 7]) (ds := [some 13, some 14, some 15, some 16, some 17, some 18, some 5, some 6]) (ls := [[], [0], [1], [], [3], [4], [2], [5]]) (k := 8) (L := [(some 13, 0), (some 14, 1), (some 15, 2), (some 16, 3), (some 17, 4), (some 18, 5), (some 5, 6), (some 6, 7)]) (fuel := 0) (J := fun wj => Below (World.heap w4).size w4 wj)
    (F := [Jo.Fact.eq (.pointer (some ⟨w.heap.size, 0, none⟩)), Jo.Fact.eq (.agg #[.bool s1, .slice A1 n1 c1]), Jo.Fact.eq (.int .i64 σ), Jo.Fact.eq (.pointer (some ⟨w.heap.size + 1, 0, none⟩)), Jo.Fact.eq (.agg #[.bool s2, .slice A2 n2 c2]), Jo.Fact.eq (.int .i64 σ), Jo.Fact.eq (.int .i64 σ), Jo.Fact.eq (.int .i64 σ)])
    (by kernel_rfl) (by kernel_rfl) (by decide) rfl rfl (fun _ _ h b => bt h b) ((Below.refl _ _).drew) ?_ (fun vs w5 hJ hd => ?_)
  · refine Jo.jcons (i := 0) (o := ⟨some 13, _, _, _, _, _⟩) (di := some 13) (L := []) (f := Jo.Fact.eq (.pointer (some ⟨w.heap.size, 0, none⟩))) rfl rfl rfl rfl (fun vs wj hJ hd K hK => ?_) ?_
    · clear hd
      simp only [Jo.putl, Jo.ze, Act.put, Jo.za, Jo.zb, Jo.zc] at hK ⊢
      go_simp
      exact hK.out _ _ rfl (Below.refl _ _)
    refine Jo.jcons (i := 1) (o := ⟨some 14, _, _, _, _, _⟩) (di := some 14) (L := [(some 13, 0)]) (f := Jo.Fact.eq (.agg #[.bool s1, .slice A1 n1 c1])) rfl rfl rfl rfl (fun vs wj hJ hd K hK => ?_) ?_
    · have d0 : (Jo.Fact.eq (.pointer (some ⟨w.heap.size, 0, none⟩))).P (vs 0) wj := hd 0 (by decide)
      clear hd
      simp only [Jo.putl, Jo.zd, Jo.ze, Act.put, Jo.za, Jo.zb, Jo.zc] at hK ⊢
      generalize vs 0 = u0 at hK d0 ⊢
      replace d0 : u0 = _ := d0
      subst d0
      have xX10 : World.cell? wj ⟨w.heap.size, 0, none⟩ = some (.bool s1) := (X1.below hJ).cell 0
      have xX11 : World.cell? wj ⟨w.heap.size, 1, none⟩ = some (.slice A1 n1 c1) := (X1.below hJ).cell 1
      have xX12 : World.cell? wj ⟨w.heap.size, 2, none⟩ = some (.int .i64 E1) := (X1.below hJ).cell 2
      go_simp
      exact hK.out _ _ rfl (Below.refl _ _)
    refine Jo.jcons (i := 2) (o := ⟨some 15, _, _, _, _, _⟩) (di := some 15) (L := [(some 14, 1)]) (f := Jo.Fact.eq (.int .i64 σ)) rfl rfl rfl rfl (fun vs wj hJ hd K hK => ?_) ?_
    · have d1 : (Jo.Fact.eq (.agg #[.bool s1, .slice A1 n1 c1])).P (vs 1) wj := hd 1 (by decide)
      clear hd
      simp only [Jo.putl, Jo.zd, Jo.ze, Act.put, Jo.za, Jo.zb, Jo.zc] at hK ⊢
      generalize vs 1 = u1 at hK d1 ⊢
      replace d1 : u1 = _ := d1
      subst d1
      go_simp
      refine (wSign (p1.below hJ).wr HS.out).mono ?_
      rintro ee wk ⟨rfl, B⟩
      exact hK.out _ _ rfl B
    refine Jo.jcons (i := 3) (o := ⟨some 16, _, _, _, _, _⟩) (di := some 16) (L := []) (f := Jo.Fact.eq (.pointer (some ⟨w.heap.size + 1, 0, none⟩))) rfl rfl rfl rfl (fun vs wj hJ hd K hK => ?_) ?_
    · clear hd
      simp only [Jo.putl, Jo.ze, Act.put, Jo.za, Jo.zb, Jo.zc] at hK ⊢
      go_simp
      exact hK.out _ _ rfl (Below.refl _ _)
    refine Jo.jcons (i := 4) (o := ⟨some 17, _, _, _, _, _⟩) (di := some 17) (L := [(some 16, 3)]) (f := Jo.Fact.eq (.agg #[.bool s2, .slice A2 n2 c2])) rfl rfl rfl rfl (fun vs wj hJ hd K hK => ?_) ?_
    · have d3 : (Jo.Fact.eq (.pointer (some ⟨w.heap.size + 1, 0, none⟩))).P (vs 3) wj := hd 3 (by decide)
      clear hd
      simp only [Jo.putl, Jo.zd, Jo.ze, Act.put, Jo.za, Jo.zb, Jo.zc] at hK ⊢
      generalize vs 3 = u3 at hK d3 ⊢
      replace d3 : u3 = _ := d3
      subst d3
      have xX20 : World.cell? wj ⟨w.heap.size + 1, 0, none⟩ = some (.bool s2) := (X2.below hJ).cell 0
      have xX21 : World.cell? wj ⟨w.heap.size + 1, 1, none⟩ = some (.slice A2 n2 c2) := (X2.below hJ).cell 1
      have xX22 : World.cell? wj ⟨w.heap.size + 1, 2, none⟩ = some (.int .i64 E2) := (X2.below hJ).cell 2
      go_simp
      exact hK.out _ _ rfl (Below.refl _ _)
    refine Jo.jcons (i := 5) (o := ⟨some 18, _, _, _, _, _⟩) (di := some 18) (L := [(some 17, 4)]) (f := Jo.Fact.eq (.int .i64 σ)) rfl rfl rfl rfl (fun vs wj hJ hd K hK => ?_) ?_
    · have d4 : (Jo.Fact.eq (.agg #[.bool s2, .slice A2 n2 c2])).P (vs 4) wj := hd 4 (by decide)
      clear hd
      simp only [Jo.putl, Jo.zd, Jo.ze, Act.put, Jo.za, Jo.zb, Jo.zc] at hK ⊢
      generalize vs 4 = u4 at hK d4 ⊢
      replace d4 : u4 = _ := d4
      subst d4
      go_simp
      refine (wSign (p2.below hJ).wr HS2.out).mono ?_
      rintro ee wk ⟨rfl, B⟩
      exact hK.out _ _ rfl B
    refine Jo.jcons (i := 6) (o := ⟨some 5, _, _, _, _, _⟩) (di := some 5) (L := [(some 15, 2)]) (f := Jo.Fact.eq (.int .i64 σ)) rfl rfl rfl rfl (fun vs wj hJ hd K hK => ?_) ?_
    · have d2 : (Jo.Fact.eq (.int .i64 σ)).P (vs 2) wj := hd 2 (by decide)
      clear hd
      simp only [Jo.putl, Jo.zd, Jo.ze, Act.put, Jo.za, Jo.zb, Jo.zc] at hK ⊢
      generalize vs 2 = u2 at hK d2 ⊢
      replace d2 : u2 = _ := d2
      subst d2
      go_simp
      exact hK.out _ _ rfl (Below.refl _ _)
    refine Jo.jcons (i := 7) (o := ⟨some 6, _, _, _, _, _⟩) (di := some 6) (L := [(some 18, 5)]) (f := Jo.Fact.eq (.int .i64 σ)) rfl rfl rfl rfl (fun vs wj hJ hd K hK => ?_) ?_
    · have d5 : (Jo.Fact.eq (.int .i64 σ)).P (vs 5) wj := hd 5 (by decide)
      clear hd
      simp only [Jo.putl, Jo.zd, Jo.ze, Act.put, Jo.za, Jo.zb, Jo.zc] at hK ⊢
      generalize vs 5 = u5 at hK d5 ⊢
      replace d5 : u5 = _ := d5
      subst d5
      go_simp
      exact hK.out _ _ rfl (Below.refl _ _)
    exact Jo.Steps.nil
  have d0 : (Jo.Fact.eq (.pointer (some ⟨w.heap.size, 0, none⟩))).P (vs 0) w5 := hd 0 (by decide)
  have d1 : (Jo.Fact.eq (.agg #[.bool s1, .slice A1 n1 c1])).P (vs 1) w5 := hd 1 (by decide)
  have d2 : (Jo.Fact.eq (.int .i64 σ)).P (vs 2) w5 := hd 2 (by decide)
  have d3 : (Jo.Fact.eq (.pointer (some ⟨w.heap.size + 1, 0, none⟩))).P (vs 3) w5 := hd 3 (by decide)
  have d4 : (Jo.Fact.eq (.agg #[.bool s2, .slice A2 n2 c2])).P (vs 4) w5 := hd 4 (by decide)
  have d5 : (Jo.Fact.eq (.int .i64 σ)).P (vs 5) w5 := hd 5 (by decide)
  have d6 : (Jo.Fact.eq (.int .i64 σ)).P (vs 6) w5 := hd 6 (by decide)
  have d7 : (Jo.Fact.eq (.int .i64 σ)).P (vs 7) w5 := hd 7 (by decide)
  clear hd
  simp only [Jo.putl, Jo.zd, Jo.ze, Act.put, Jo.za, Jo.zb, Jo.zc]
  generalize vs 0 = u0 at d0 ⊢
  generalize vs 1 = u1 at d1 ⊢
  generalize vs 2 = u2 at d2 ⊢
  generalize vs 3 = u3 at d3 ⊢
  generalize vs 4 = u4 at d4 ⊢
  generalize vs 5 = u5 at d5 ⊢
  generalize vs 6 = u6 at d6 ⊢
  generalize vs 7 = u7 at d7 ⊢
  clear vs
  replace d0 : u0 = _ := d0
  subst d0
  replace d1 : u1 = _ := d1
  subst d1
  replace d2 : u2 = _ := d2
  subst d2
  replace d3 : u3 = _ := d3
  subst d3
  replace d4 : u4 = _ := d4
  subst d4
  replace d5 : u5 = _ := d5
  subst d5
  replace d6 : u6 = _ := d6
  subst d6
  replace d7 : u7 = _ := d7
  subst d7
  replace X1 := X1.below hJ
  replace X2 := X2.below hJ
  replace p1 := p1.below hJ
  replace p2 := p2.below hJ
  replace HB := Lib.hid (bt HB.out hJ)
  refine Jo.jdone (by kernel_rfl) ?_
  go_upto_region 5 with (fail)
  refine Jo.region_joint (T := [0, 1, 2, 3, 4, 5]) (ds := [some 25, some 26, some 27, some 28, some 29, some 7]) (ls := [[], [0], [], [2], [1, 3], [4]]) (k := 6) (L := [(some 25, 0), (some 26, 1), (some 27, 2), (some 28, 3), (some 29, 4), (some 7, 5)]) (fuel := 0) (J := fun wj => Below (World.heap w5).size w5 wj)
    (F := [Jo.Fact.eq (.agg #[.bool s1, .slice A1 n1 c1, .int .i64 E1]), Jo.Fact.eq (.int .i64 x1), Jo.Fact.eq (.agg #[.bool s2, .slice A2 n2 c2, .int .i64 E2]), Jo.Fact.eq (.int .i64 x2), Jo.Fact.eq (.int .i64 p), Jo.Fact.eq (.int .i64 p)])
    (by kernel_rfl) (by kernel_rfl) (by decide) rfl rfl (fun _ _ h b => bt h b) ((Below.refl _ _).drew) ?_ (fun vs w6 hJ hd => ?_)
  · refine Jo.jcons (i := 0) (o := ⟨some 25, _, _, _, _, _⟩) (di := some 25) (L := []) (f := Jo.Fact.eq (.agg #[.bool s1, .slice A1 n1 c1, .int .i64 E1])) rfl rfl rfl rfl (fun vs wj hJ hd K hK => ?_) ?_
    · clear hd
      simp only [Jo.putl, Jo.ze, Act.put, Jo.za, Jo.zb, Jo.zc] at hK ⊢
      have xX10 : World.cell? wj ⟨w.heap.size, 0, none⟩ = some (.bool s1) := (X1.below hJ).cell 0
      have xX11 : World.cell? wj ⟨w.heap.size, 1, none⟩ = some (.slice A1 n1 c1) := (X1.below hJ).cell 1
      have xX12 : World.cell? wj ⟨w.heap.size, 2, none⟩ = some (.int .i64 E1) := (X1.below hJ).cell 2
      go_simp
      exact hK.out _ _ rfl (Below.refl _ _)
    refine Jo.jcons (i := 1) (o := ⟨some 26, _, _, _, _, _⟩) (di := some 26) (L := [(some 25, 0)]) (f := Jo.Fact.eq (.int .i64 x1)) rfl rfl rfl rfl (fun vs wj hJ hd K hK => ?_) ?_
    · have d0 : (Jo.Fact.eq (.agg #[.bool s1, .slice A1 n1 c1, .int .i64 E1])).P (vs 0) wj := hd 0 (by decide)
      clear hd
      simp only [Jo.putl, Jo.zd, Jo.ze, Act.put, Jo.za, Jo.zb, Jo.zc] at hK ⊢
      generalize vs 0 = u0 at hK d0 ⊢
      replace d0 : u0 = _ := d0
      subst d0
      go_simp
      refine (dHighest (p1.below hJ) (by omega) b1 b2 HX1.out).mono ?_
      rintro ee wk ⟨rfl, B⟩
      exact hK.out _ _ rfl B
    refine Jo.jcons (i := 2) (o := ⟨some 27, _, _, _, _, _⟩) (di := some 27) (L := []) (f := Jo.Fact.eq (.agg #[.bool s2, .slice A2 n2 c2, .int .i64 E2])) rfl rfl rfl rfl (fun vs wj hJ hd K hK => ?_) ?_
    · clear hd
      simp only [Jo.putl, Jo.ze, Act.put, Jo.za, Jo.zb, Jo.zc] at hK ⊢
      have xX20 : World.cell? wj ⟨w.heap.size + 1, 0, none⟩ = some (.bool s2) := (X2.below hJ).cell 0
      have xX21 : World.cell? wj ⟨w.heap.size + 1, 1, none⟩ = some (.slice A2 n2 c2) := (X2.below hJ).cell 1
      have xX22 : World.cell? wj ⟨w.heap.size + 1, 2, none⟩ = some (.int .i64 E2) := (X2.below hJ).cell 2
      go_simp
      exact hK.out _ _ rfl (Below.refl _ _)
    refine Jo.jcons (i := 3) (o := ⟨some 28, _, _, _, _, _⟩) (di := some 28) (L := [(some 27, 2)]) (f := Jo.Fact.eq (.int .i64 x2)) rfl rfl rfl rfl (fun vs wj hJ hd K hK => ?_) ?_
    · have d2 : (Jo.Fact.eq (.agg #[.bool s2, .slice A2 n2 c2, .int .i64 E2])).P (vs 2) wj := hd 2 (by decide)
      clear hd
      simp only [Jo.putl, Jo.zd, Jo.ze, Act.put, Jo.za, Jo.zb, Jo.zc] at hK ⊢
      generalize vs 2 = u2 at hK d2 ⊢
      replace d2 : u2 = _ := d2
      subst d2
      go_simp
      refine (dHighest (p2.below hJ) (by omega) b3 b4 HX2.out).mono ?_
      rintro ee wk ⟨rfl, B⟩
      exact hK.out _ _ rfl B
    refine Jo.jcons (i := 4) (o := ⟨some 29, _, _, _, _, _⟩) (di := some 29) (L := [(some 26, 1), (some 28, 3)]) (f := Jo.Fact.eq (.int .i64 p)) rfl rfl rfl rfl (fun vs wj hJ hd K hK => ?_) ?_
    · have d1 : (Jo.Fact.eq (.int .i64 x1)).P (vs 1) wj := hd 1 (by decide)
      have d3 : (Jo.Fact.eq (.int .i64 x2)).P (vs 3) wj := hd 3 (by decide)
      clear hd
      simp only [Jo.putl, Jo.zd, Jo.ze, Act.put, Jo.za, Jo.zb, Jo.zc] at hK ⊢
      generalize vs 1 = u1 at hK d1 ⊢
      generalize vs 3 = u3 at hK d3 ⊢
      replace d1 : u1 = _ := d1
      subst d1
      replace d3 : u3 = _ := d3
      subst d3
      go_simp
      refine (compareInt_any x1 x2 wj).mono ?_
      rintro ee wk ⟨rfl, rfl⟩
      exact hK.out _ _ (val_int HP.out) (Below.refl _ _)
    refine Jo.jcons (i := 5) (o := ⟨some 7, _, _, _, _, _⟩) (di := some 7) (L := [(some 29, 4)]) (f := Jo.Fact.eq (.int .i64 p)) rfl rfl rfl rfl (fun vs wj hJ hd K hK => ?_) ?_
    · have d4 : (Jo.Fact.eq (.int .i64 p)).P (vs 4) wj := hd 4 (by decide)
      clear hd
      simp only [Jo.putl, Jo.zd, Jo.ze, Act.put, Jo.za, Jo.zb, Jo.zc] at hK ⊢
      generalize vs 4 = u4 at hK d4 ⊢
      replace d4 : u4 = _ := d4
      subst d4
      go_simp
      exact hK.out _ _ rfl (Below.refl _ _)
    exact Jo.Steps.nil
  have d0 : (Jo.Fact.eq (.agg #[.bool s1, .slice A1 n1 c1, .int .i64 E1])).P (vs 0) w6 := hd 0 (by decide)
  have d1 : (Jo.Fact.eq (.int .i64 x1)).P (vs 1) w6 := hd 1 (by decide)
  have d2 : (Jo.Fact.eq (.agg #[.bool s2, .slice A2 n2 c2, .int .i64 E2])).P (vs 2) w6 := hd 2 (by decide)
  have d3 : (Jo.Fact.eq (.int .i64 x2)).P (vs 3) w6 := hd 3 (by decide)
  have d4 : (Jo.Fact.eq (.int .i64 p)).P (vs 4) w6 := hd 4 (by decide)
  have d5 : (Jo.Fact.eq (.int .i64 p)).P (vs 5) w6 := hd 5 (by decide)
  clear hd
  simp only [Jo.putl, Jo.zd, Jo.ze, Act.put, Jo.za, Jo.zb, Jo.zc]
  generalize vs 0 = u0 at d0 ⊢
  generalize vs 1 = u1 at d1 ⊢
  generalize vs 2 = u2 at d2 ⊢
  generalize vs 3 = u3 at d3 ⊢
  generalize vs 4 = u4 at d4 ⊢
  generalize vs 5 = u5 at d5 ⊢
  clear vs
  replace d0 : u0 = _ := d0
  subst d0
  replace d1 : u1 = _ := d1
  subst d1
  replace d2 : u2 = _ := d2
  subst d2
  replace d3 : u3 = _ := d3
  subst d3
  replace d4 : u4 = _ := d4
  subst d4
  replace d5 : u5 = _ := d5
  subst d5
  replace X1 := X1.below hJ
  replace X2 := X2.below hJ
  replace p1 := p1.below hJ
  replace p2 := p2.below hJ
  replace HB := Lib.hid (bt HB.out hJ)
  refine Jo.jdone (by kernel_rfl) ?_
  have xX10 := X1.at (i := 0) (v := .bool s1) rfl
  have xX11 := X1.at (i := 1) (v := .slice A1 n1 c1) rfl
  have xX12 := X1.at (i := 2) (v := .int .i64 E1) rfl
  have xX20 := X2.at (i := 0) (v := .bool s2) rfl
  have xX21 := X2.at (i := 1) (v := .slice A2 n2 c2) rfl
  have xX22 := X2.at (i := 2) (v := .int .i64 E2) rfl
  go_upto_region 9 with (fail)
  clear xX10 xX11 xX12 xX20 xX21 xX22
  refine Jo.region_joint (T := [0, 1, 2, 3, 4, 5, 6, 7]) (ds := [some 40, some 41, some 42, some 43, some 44, some 45, some 46, some 4]) (ls := [[], [], [0, 1], [], [], [3, 4], [2, 5], [6]]) (k := 8) (L := [(some 40, 0), (some 41, 1), (some 42, 2), (some 43, 3), (some 44, 4), (some 45, 5), (some 46, 6), (some 4, 7)]) (fuel := 0) (J := fun wj => Below (World.heap w6).size w6 wj)
    (F := [Jo.Fact.eq (.agg #[.bool s1, .slice A1 n1 c1, .int .i64 E1]), Jo.Fact.eq (.int .i64 E1), Jo.Fact.wn (N1 * ((2 ^ (E1 - E1).toNat : Nat) : Int)) (n + 262200), Jo.Fact.eq (.agg #[.bool s2, .slice A2 n2 c2, .int .i64 E2]), Jo.Fact.eq (.int .i64 E1), Jo.Fact.wn (N2 * ((2 ^ (E2 - E1).toNat : Nat) : Int)) (m + 262200), Jo.Fact.eq (.int .i64 r), Jo.Fact.eq (.int .i64 r)])
    (by kernel_rfl) (by kernel_rfl) (by decide) rfl rfl (fun _ _ h b => bt h b) ((Below.refl _ _).drew) ?_ (fun vs w7 hJ hd => ?_)
  · refine Jo.jcons (i := 0) (o := ⟨some 40, _, _, _, _, _⟩) (di := some 40) (L := []) (f := Jo.Fact.eq (.agg #[.bool s1, .slice A1 n1 c1, .int .i64 E1])) rfl rfl rfl rfl (fun vs wj hJ hd K hK => ?_) ?_
    · clear hd
      simp only [Jo.putl, Jo.ze, Act.put, Jo.za, Jo.zb, Jo.zc] at hK ⊢
      have xX10 : World.cell? wj ⟨w.heap.size, 0, none⟩ = some (.bool s1) := (X1.below hJ).cell 0
      have xX11 : World.cell? wj ⟨w.heap.size, 1, none⟩ = some (.slice A1 n1 c1) := (X1.below hJ).cell 1
      have xX12 : World.cell? wj ⟨w.heap.size, 2, none⟩ = some (.int .i64 E1) := (X1.below hJ).cell 2
      go_simp
      exact hK.out _ _ rfl (Below.refl _ _)
    refine Jo.jcons (i := 1) (o := ⟨some 41, _, _, _, _, _⟩) (di := some 41) (L := []) (f := Jo.Fact.eq (.int .i64 E1)) rfl rfl rfl rfl (fun vs wj hJ hd K hK => ?_) ?_
    · clear hd
      simp only [Jo.putl, Jo.ze, Act.put, Jo.za, Jo.zb, Jo.zc] at hK ⊢
      go_simp
      exact hK.out _ _ rfl (Below.refl _ _)
    refine Jo.jcons (i := 2) (o := ⟨some 42, _, _, _, _, _⟩) (di := some 42) (L := [(some 40, 0), (some 41, 1)]) (f := Jo.Fact.wn (N1 * ((2 ^ (E1 - E1).toNat : Nat) : Int)) (n + 262200)) rfl rfl rfl rfl (fun vs wj hJ hd K hK => ?_) ?_
    · have d0 : (Jo.Fact.eq (.agg #[.bool s1, .slice A1 n1 c1, .int .i64 E1])).P (vs 0) wj := hd 0 (by decide)
      have d1 : (Jo.Fact.eq (.int .i64 E1)).P (vs 1) wj := hd 1 (by decide)
      clear hd
      simp only [Jo.putl, Jo.zd, Jo.ze, Act.put, Jo.za, Jo.zb, Jo.zc] at hK ⊢
      generalize vs 0 = u0 at hK d0 ⊢
      generalize vs 1 = u1 at hK d1 ⊢
      replace d0 : u0 = _ := d0
      subst d0
      replace d1 : u1 = _ := d1
      subst d1
      go_simp
      refine (dTimes (p1.below hJ) (by omega) (by omega) (by omega) rfl).mono ?_
      rintro ee wk ⟨s5, A5, n5, c5, rfl, p5, k5, B⟩
      exact hK.out _ _ ⟨s5, A5, n5, c5, rfl, p5, by omega⟩ B
    refine Jo.jcons (i := 3) (o := ⟨some 43, _, _, _, _, _⟩) (di := some 43) (L := []) (f := Jo.Fact.eq (.agg #[.bool s2, .slice A2 n2 c2, .int .i64 E2])) rfl rfl rfl rfl (fun vs wj hJ hd K hK => ?_) ?_
    · clear hd
      simp only [Jo.putl, Jo.ze, Act.put, Jo.za, Jo.zb, Jo.zc] at hK ⊢
      have xX20 : World.cell? wj ⟨w.heap.size + 1, 0, none⟩ = some (.bool s2) := (X2.below hJ).cell 0
      have xX21 : World.cell? wj ⟨w.heap.size + 1, 1, none⟩ = some (.slice A2 n2 c2) := (X2.below hJ).cell 1
      have xX22 : World.cell? wj ⟨w.heap.size + 1, 2, none⟩ = some (.int .i64 E2) := (X2.below hJ).cell 2
      go_simp
      exact hK.out _ _ rfl (Below.refl _ _)
    refine Jo.jcons (i := 4) (o := ⟨some 44, _, _, _, _, _⟩) (di := some 44) (L := []) (f := Jo.Fact.eq (.int .i64 E1)) rfl rfl rfl rfl (fun vs wj hJ hd K hK => ?_) ?_
    · clear hd
      simp only [Jo.putl, Jo.ze, Act.put, Jo.za, Jo.zb, Jo.zc] at hK ⊢
      go_simp
      exact hK.out _ _ rfl (Below.refl _ _)
    refine Jo.jcons (i := 5) (o := ⟨some 45, _, _, _, _, _⟩) (di := some 45) (L := [(some 43, 3), (some 44, 4)]) (f := Jo.Fact.wn (N2 * ((2 ^ (E2 - E1).toNat : Nat) : Int)) (m + 262200)) rfl rfl rfl rfl (fun vs wj hJ hd K hK => ?_) ?_
    · have d3 : (Jo.Fact.eq (.agg #[.bool s2, .slice A2 n2 c2, .int .i64 E2])).P (vs 3) wj := hd 3 (by decide)
      have d4 : (Jo.Fact.eq (.int .i64 E1)).P (vs 4) wj := hd 4 (by decide)
      clear hd
      simp only [Jo.putl, Jo.zd, Jo.ze, Act.put, Jo.za, Jo.zb, Jo.zc] at hK ⊢
      generalize vs 3 = u3 at hK d3 ⊢
      generalize vs 4 = u4 at hK d4 ⊢
      replace d3 : u3 = _ := d3
      subst d3
      replace d4 : u4 = _ := d4
      subst d4
      go_simp
      refine (dTimes (p2.below hJ) (by omega) (by omega) (by omega) rfl).mono ?_
      rintro ee wk ⟨s6, A6, n6, c6, rfl, p6, k6, B⟩
      exact hK.out _ _ ⟨s6, A6, n6, c6, rfl, p6, by omega⟩ B
    refine Jo.jcons (i := 6) (o := ⟨some 46, _, _, _, _, _⟩) (di := some 46) (L := [(some 42, 2), (some 45, 5)]) (f := Jo.Fact.eq (.int .i64 r)) rfl rfl rfl rfl (fun vs wj hJ hd K hK => ?_) ?_
    · have d2 : (Jo.Fact.wn (N1 * ((2 ^ (E1 - E1).toNat : Nat) : Int)) (n + 262200)).P (vs 2) wj := hd 2 (by decide)
      have d5 : (Jo.Fact.wn (N2 * ((2 ^ (E2 - E1).toNat : Nat) : Int)) (m + 262200)).P (vs 5) wj := hd 5 (by decide)
      clear hd
      simp only [Jo.putl, Jo.zd, Jo.ze, Act.put, Jo.za, Jo.zb, Jo.zc] at hK ⊢
      generalize vs 2 = u2 at hK d2 ⊢
      generalize vs 5 = u5 at hK d5 ⊢
      obtain ⟨s5, A5, n5, c5, rfl, p5, k5⟩ := d2
      obtain ⟨s6, A6, n6, c6, rfl, p6, k6⟩ := d5
      go_simp
      refine (wCmp p5.wr p6.wr HR.out).mono ?_
      rintro ee wk ⟨rfl, B⟩
      exact hK.out _ _ rfl B
    refine Jo.jcons (i := 7) (o := ⟨some 4, _, _, _, _, _⟩) (di := some 4) (L := [(some 46, 6)]) (f := Jo.Fact.eq (.int .i64 r)) rfl rfl rfl rfl (fun vs wj hJ hd K hK => ?_) ?_
    · have d6 : (Jo.Fact.eq (.int .i64 r)).P (vs 6) wj := hd 6 (by decide)
      clear hd
      simp only [Jo.putl, Jo.zd, Jo.ze, Act.put, Jo.za, Jo.zb, Jo.zc] at hK ⊢
      generalize vs 6 = u6 at hK d6 ⊢
      replace d6 : u6 = _ := d6
      subst d6
      go_simp
      exact hK.out _ _ rfl (Below.refl _ _)
    exact Jo.Steps.nil
  have d0 : (Jo.Fact.eq (.agg #[.bool s1, .slice A1 n1 c1, .int .i64 E1])).P (vs 0) w7 := hd 0 (by decide)
  have d1 : (Jo.Fact.eq (.int .i64 E1)).P (vs 1) w7 := hd 1 (by decide)
  have d2 : (Jo.Fact.wn (N1 * ((2 ^ (E1 - E1).toNat : Nat) : Int)) (n + 262200)).P (vs 2) w7 := hd 2 (by decide)
  have d3 : (Jo.Fact.eq (.agg #[.bool s2, .slice A2 n2 c2, .int .i64 E2])).P (vs 3) w7 := hd 3 (by decide)
  have d4 : (Jo.Fact.eq (.int .i64 E1)).P (vs 4) w7 := hd 4 (by decide)
  have d5 : (Jo.Fact.wn (N2 * ((2 ^ (E2 - E1).toNat : Nat) : Int)) (m + 262200)).P (vs 5) w7 := hd 5 (by decide)
  have d6 : (Jo.Fact.eq (.int .i64 r)).P (vs 6) w7 := hd 6 (by decide)
  have d7 : (Jo.Fact.eq (.int .i64 r)).P (vs 7) w7 := hd 7 (by decide)
  clear hd
  simp only [Jo.putl, Jo.zd, Jo.ze, Act.put, Jo.za, Jo.zb, Jo.zc]
  generalize vs 0 = u0 at d0 ⊢
  generalize vs 1 = u1 at d1 ⊢
  generalize vs 2 = u2 at d2 ⊢
  generalize vs 3 = u3 at d3 ⊢
  generalize vs 4 = u4 at d4 ⊢
  generalize vs 5 = u5 at d5 ⊢
  generalize vs 6 = u6 at d6 ⊢
  generalize vs 7 = u7 at d7 ⊢
  clear vs
  replace d0 : u0 = _ := d0
  subst d0
  replace d1 : u1 = _ := d1
  subst d1
  obtain ⟨s5, A5, n5, c5, rfl, _, _⟩ := d2
  replace d3 : u3 = _ := d3
  subst d3
  replace d4 : u4 = _ := d4
  subst d4
  obtain ⟨s6, A6, n6, c6, rfl, _, _⟩ := d5
  replace d6 : u6 = _ := d6
  subst d6
  replace d7 : u7 = _ := d7
  subst d7
  replace X1 := X1.below hJ
  replace X2 := X2.below hJ
  replace p1 := p1.below hJ
  replace p2 := p2.below hJ
  replace HB := Lib.hid (bt HB.out hJ)
  refine Jo.jdone (by kernel_rfl) ?_
  go_wp2
  go_ret
  exact ⟨rfl, HB.out⟩

set_option maxHeartbeats 4000000 in
theorem dcmp_dn {w : World} {A B : Option Addr} {n c m d : Nat} {s t : Bool} {z e y f N1 E1 N2 E2 σ τ x1 x2 p r : Int} (hT : Tab w) (h : Wr w s A n c z) (k : Wr w t B m d y) (hn : n ≤ 100000) (hm : m ≤ 100000) (b1 : -4194304 ≤ E1) (b2 : E1 ≤ 4194304) (b3 : -4194304 ≤ E2) (b4 : E2 ≤ 4194304)
    (HN1 : Hid ((mk z e).1 = N1)) (HE1 : Hid ((mk z e).2 = E1)) (HN2 : Hid ((mk y f).1 = N2)) (HE2 : Hid ((mk y f).2 = E2)) (HS : Hid (cmpI N1 0 = σ)) (HS2 : Hid (cmpI N2 0 = τ)) (heq : σ = τ) (HX1 : Hid (((blen N1.natAbs : Nat) : Int) + E1 = x1)) (HX2 : Hid (((blen N2.natAbs : Nat) : Int) + E2 = x2)) (HP : Hid (cmpI x1 x2 = p)) (hp : p = 0) (hle : E2 < E1) (HR : Hid (cmpI (N1 * ((2 ^ (E1 - E2).toNat : Nat) : Int)) (N2 * ((2 ^ (E2 - E2).toNat : Nat) : Int)) = r)) :
    Calls Tryd.prog 12 #[.agg #[.bool s, .slice A n c, .int .i64 e], .agg #[.bool t, .slice B m d, .int .i64 f]] w (PI w r) := by
  subst heq
  have q3 : (p != 0) = false := by simpa using hp
  clear hp
  have q1 : (σ != σ) = false := by simp
  have q2 : decide (E2 < E1) = true := by simp; omega
  go_enter Tryd.func12, Tryd.ntmps12
  go_upto_region 1 with (fail)
  have X1 := (Bo.newAt w (g := w.heap.size) (by simp) #[.bool s, .slice A n c, .int .i64 e] 30).below (bel1 _ (.cells #[.bool t, .slice B m d, .int .i64 f] 30))
  have X2 := (Bo.newAt (w.alloc (.cells #[.bool s, .slice A n c, .int .i64 e] 30)) (g := w.heap.size + 1) (by simp) #[.bool t, .slice B m d, .int .i64 f] 30)
  have HB := Lib.hid (bel2 w (.cells #[.bool s, .slice A n c, .int .i64 e] 30) (.cells #[.bool t, .slice B m d, .int .i64 f] 30))
  replace hT := hT.below HB.out
  replace h := h.below HB.out
  replace k := k.below HB.out
  generalize hW1 : ((w.alloc (.cells #[.bool s, .slice A n c, .int .i64 e] 30)).alloc (.cells #[.bool t, .slice B m d, .int .i64 f] 30)) = w1 at *
  clear hW1
  refine Jo.region_joint (T := [0, 1, 2, 3]) (ds := [some 9, some 10, some 11, some 12, none, none]) (ls := [[], [0], [], [2], [], []]) (k := 6) (L := [(some 9, 0), (some 10, 1), (some 11, 2), (some 12, 3)]) (fuel := 2) (J := fun wj => Below (World.heap w1).size w1 wj)
    (F := [Jo.Fact.eq (.agg #[.bool s, .slice A n c, .int .i64 e]), Jo.Fact.dy N1 E1 n, Jo.Fact.eq (.agg #[.bool t, .slice B m d, .int .i64 f]), Jo.Fact.dy N2 E2 m, Jo.Fact.any, Jo.Fact.any])
    (by kernel_rfl) (by kernel_rfl) (by decide) rfl rfl (fun _ _ h b => bt h b) ((Below.refl _ _).drew) ?_ (fun vs w2 hJ hd => ?_)
  · refine Jo.jcons (i := 0) (o := ⟨some 9, _, _, _, _, _⟩) (di := some 9) (L := []) (f := Jo.Fact.eq (.agg #[.bool s, .slice A n c, .int .i64 e])) rfl rfl rfl rfl (fun vs wj hJ hd K hK => ?_) ?_
    · clear hd
      simp only [Jo.putl, Jo.ze, Act.put, Jo.za, Jo.zb, Jo.zc] at hK ⊢
      have xX10 : World.cell? wj ⟨w.heap.size, 0, none⟩ = some (.bool s) := (X1.below hJ).cell 0
      have xX11 : World.cell? wj ⟨w.heap.size, 1, none⟩ = some (.slice A n c) := (X1.below hJ).cell 1
      have xX12 : World.cell? wj ⟨w.heap.size, 2, none⟩ = some (.int .i64 e) := (X1.below hJ).cell 2
      go_simp
      exact hK.out _ _ rfl (Below.refl _ _)
    refine Jo.jcons (i := 1) (o := ⟨some 10, _, _, _, _, _⟩) (di := some 10) (L := [(some 9, 0)]) (f := Jo.Fact.dy N1 E1 n) rfl rfl rfl rfl (fun vs wj hJ hd K hK => ?_) ?_
    · have d0 : (Jo.Fact.eq (.agg #[.bool s, .slice A n c, .int .i64 e])).P (vs 0) wj := hd 0 (by decide)
      clear hd
      simp only [Jo.putl, Jo.zd, Jo.ze, Act.put, Jo.za, Jo.zb, Jo.zc] at hK ⊢
      generalize vs 0 = u0 at hK d0 ⊢
      replace d0 : u0 = _ := d0
      subst d0
      go_simp
      refine (dTaken (hT.below hJ) (h.below hJ) (by omega) HN1.out HE1.out).mono ?_
      rintro ee wk ⟨s1, A1, n1, c1, rfl, p1, k1, B⟩
      exact hK.out _ _ ⟨s1, A1, n1, c1, rfl, p1, k1⟩ B
    refine Jo.jcons (i := 2) (o := ⟨some 11, _, _, _, _, _⟩) (di := some 11) (L := []) (f := Jo.Fact.eq (.agg #[.bool t, .slice B m d, .int .i64 f])) rfl rfl rfl rfl (fun vs wj hJ hd K hK => ?_) ?_
    · clear hd
      simp only [Jo.putl, Jo.ze, Act.put, Jo.za, Jo.zb, Jo.zc] at hK ⊢
      have xX20 : World.cell? wj ⟨w.heap.size + 1, 0, none⟩ = some (.bool t) := (X2.below hJ).cell 0
      have xX21 : World.cell? wj ⟨w.heap.size + 1, 1, none⟩ = some (.slice B m d) := (X2.below hJ).cell 1
      have xX22 : World.cell? wj ⟨w.heap.size + 1, 2, none⟩ = some (.int .i64 f) := (X2.below hJ).cell 2
      go_simp
      exact hK.out _ _ rfl (Below.refl _ _)
    refine Jo.jcons (i := 3) (o := ⟨some 12, _, _, _, _, _⟩) (di := some 12) (L := [(some 11, 2)]) (f := Jo.Fact.dy N2 E2 m) rfl rfl rfl rfl (fun vs wj hJ hd K hK => ?_) ?_
    · have d2 : (Jo.Fact.eq (.agg #[.bool t, .slice B m d, .int .i64 f])).P (vs 2) wj := hd 2 (by decide)
      clear hd
      simp only [Jo.putl, Jo.zd, Jo.ze, Act.put, Jo.za, Jo.zb, Jo.zc] at hK ⊢
      generalize vs 2 = u2 at hK d2 ⊢
      replace d2 : u2 = _ := d2
      subst d2
      go_simp
      refine (dTaken (hT.below hJ) (k.below hJ) (by omega) HN2.out HE2.out).mono ?_
      rintro ee wk ⟨s2, A2, n2, c2, rfl, p2, k2, B⟩
      exact hK.out _ _ ⟨s2, A2, n2, c2, rfl, p2, k2⟩ B
    exact Jo.Steps.nil
  have d0 : (Jo.Fact.eq (.agg #[.bool s, .slice A n c, .int .i64 e])).P (vs 0) w2 := hd 0 (by decide)
  have d1 : (Jo.Fact.dy N1 E1 n).P (vs 1) w2 := hd 1 (by decide)
  have d2 : (Jo.Fact.eq (.agg #[.bool t, .slice B m d, .int .i64 f])).P (vs 2) w2 := hd 2 (by decide)
  have d3 : (Jo.Fact.dy N2 E2 m).P (vs 3) w2 := hd 3 (by decide)
  clear hd
  simp only [Jo.putl, Jo.zd, Jo.ze, Act.put, Jo.za, Jo.zb, Jo.zc]
  generalize vs 0 = u0 at d0 ⊢
  generalize vs 1 = u1 at d1 ⊢
  generalize vs 2 = u2 at d2 ⊢
  generalize vs 3 = u3 at d3 ⊢
  clear vs
  replace d0 : u0 = _ := d0
  subst d0
  obtain ⟨s1, A1, n1, c1, rfl, p1, k1⟩ := d1
  replace d2 : u2 = _ := d2
  subst d2
  obtain ⟨s2, A2, n2, c2, rfl, p2, k2⟩ := d3
  replace X1 := X1.below hJ
  replace X2 := X2.below hJ
  replace hT := hT.below hJ
  replace h := h.below hJ
  replace k := k.below hJ
  replace HB := Lib.hid (bt HB.out hJ)
  have xX10 := X1.at (i := 0) (v := .bool s) rfl
  have zX10 := X1.frozen 0
  have xX11 := X1.at (i := 1) (v := .slice A n c) rfl
  have zX11 := X1.frozen 1
  have xX12 := X1.at (i := 2) (v := .int .i64 e) rfl
  have zX12 := X1.frozen 2
  refine Jo.jnext (i := 4) (o := ⟨none, _, _, _, _, _⟩) (by kernel_rfl) rfl (fun K hK => ?_)
  go_simp
  refine hK.out _ _ ?_
  clear hK K xX10 zX10 xX11 zX11 xX12 zX12
  have SX := StN.mk3 X1 (.bool s1) (.slice A1 n1 c1) (.int .i64 E1)
  replace X2 := X2.stn SX (by omega)
  replace p1 := p1.stn SX (by simp [no32])
  replace p2 := p2.stn SX (by simp [no32])
  replace HB := Lib.hid (SX.below HB.out (by omega))
  replace X1 := SX.box
  clear SX
  generalize (World.setCell (World.setCell (World.setCell w2 ⟨w.heap.size, 0, none⟩ (.bool s1)) ⟨w.heap.size, 1, none⟩ (.slice A1 n1 c1)) ⟨w.heap.size, 2, none⟩ (.int .i64 E1)) = w3 at *
  have xX20 := X2.at (i := 0) (v := .bool t) rfl
  have zX20 := X2.frozen 0
  have xX21 := X2.at (i := 1) (v := .slice B m d) rfl
  have zX21 := X2.frozen 1
  have xX22 := X2.at (i := 2) (v := .int .i64 f) rfl
  have zX22 := X2.frozen 2
  refine Jo.jnext (i := 5) (o := ⟨none, _, _, _, _, _⟩) (by kernel_rfl) rfl (fun K hK => ?_)
  go_simp
  refine hK.out _ _ ?_
  clear hK K xX20 zX20 xX21 zX21 xX22 zX22
  have SX := StN.mk3 X2 (.bool s2) (.slice A2 n2 c2) (.int .i64 E2)
  replace X1 := X1.stn SX (by omega)
  replace p1 := p1.stn SX (by simp [no32])
  replace p2 := p2.stn SX (by simp [no32])
  replace HB := Lib.hid (SX.below HB.out (by omega))
  replace X2 := SX.box
  clear SX
  generalize (World.setCell (World.setCell (World.setCell w3 ⟨w.heap.size + 1, 0, none⟩ (.bool s2)) ⟨w.heap.size + 1, 1, none⟩ (.slice A2 n2 c2)) ⟨w.heap.size + 1, 2, none⟩ (.int .i64 E2)) = w4 at *
  refine Jo.jdone (by kernel_rfl) ?_
  go_upto_region 2 with (fail)
  refine Jo.region_joint (T := [0, 1, 2, 3, 4, 5, 6, 7]) (ds := [some 13, some 14, some 15, some 16, some 17, some 18, some 5, some 6]) (ls := [[], [0], [1], [], [3], [4], [2], [5]]) (k := 8) (L := [(some 13, 0), (some 14, 1), (some 15, 2), (some 16, 3), (some 17, 4), (some 18, 5), (some 5, 6), (some 6, 7)]) (fuel := 0) (J := fun wj => Below (World.heap w4).size w4 wj)
    (F := [Jo.Fact.eq (.pointer (some ⟨w.heap.size, 0, none⟩)), Jo.Fact.eq (.agg #[.bool s1, .slice A1 n1 c1]), Jo.Fact.eq (.int .i64 σ), Jo.Fact.eq (.pointer (some ⟨w.heap.size + 1, 0, none⟩)), Jo.Fact.eq (.agg #[.bool s2, .slice A2 n2 c2]), Jo.Fact.eq (.int .i64 σ), Jo.Fact.eq (.int .i64 σ), Jo.Fact.eq (.int .i64 σ)])
    (by kernel_rfl) (by kernel_rfl) (by decide) rfl rfl (fun _ _ h b => bt h b) ((Below.refl _ _).drew) ?_ (fun vs w5 hJ hd => ?_)
  · refine Jo.jcons (i := 0) (o := ⟨some 13, _, _, _, _, _⟩) (di := some 13) (L := []) (f := Jo.Fact.eq (.pointer (some ⟨w.heap.size, 0, none⟩))) rfl rfl rfl rfl (fun vs wj hJ hd K hK => ?_) ?_
    · clear hd
      simp only [Jo.putl, Jo.ze, Act.put, Jo.za, Jo.zb, Jo.zc] at hK ⊢
      go_simp
      exact hK.out _ _ rfl (Below.refl _ _)
    refine Jo.jcons (i := 1) (o := ⟨some 14, _, _, _, _, _⟩) (di := some 14) (L := [(some 13, 0)]) (f := Jo.Fact.eq (.agg #[.bool s1, .slice A1 n1 c1])) rfl rfl rfl rfl (fun vs wj hJ hd K hK => ?_) ?_
    · have d0 : (Jo.Fact.eq (.pointer (some ⟨w.heap.size, 0, none⟩))).P (vs 0) wj := hd 0 (by decide)
      clear hd
      simp only [Jo.putl, Jo.zd, Jo.ze, Act.put, Jo.za, Jo.zb, Jo.zc] at hK ⊢
      generalize vs 0 = u0 at hK d0 ⊢
      replace d0 : u0 = _ := d0
      subst d0
      have xX10 : World.cell? wj ⟨w.heap.size, 0, none⟩ = some (.bool s1) := (X1.below hJ).cell 0
      have xX11 : World.cell? wj ⟨w.heap.size, 1, none⟩ = some (.slice A1 n1 c1) := (X1.below hJ).cell 1
      have xX12 : World.cell? wj ⟨w.heap.size, 2, none⟩ = some (.int .i64 E1) := (X1.below hJ).cell 2
      go_simp
      exact hK.out _ _ rfl (Below.refl _ _)
    refine Jo.jcons (i := 2) (o := ⟨some 15, _, _, _, _, _⟩) (di := some 15) (L := [(some 14, 1)]) (f := Jo.Fact.eq (.int .i64 σ)) rfl rfl rfl rfl (fun vs wj hJ hd K hK => ?_) ?_
    · have d1 : (Jo.Fact.eq (.agg #[.bool s1, .slice A1 n1 c1])).P (vs 1) wj := hd 1 (by decide)
      clear hd
      simp only [Jo.putl, Jo.zd, Jo.ze, Act.put, Jo.za, Jo.zb, Jo.zc] at hK ⊢
      generalize vs 1 = u1 at hK d1 ⊢
      replace d1 : u1 = _ := d1
      subst d1
      go_simp
      refine (wSign (p1.below hJ).wr HS.out).mono ?_
      rintro ee wk ⟨rfl, B⟩
      exact hK.out _ _ rfl B
    refine Jo.jcons (i := 3) (o := ⟨some 16, _, _, _, _, _⟩) (di := some 16) (L := []) (f := Jo.Fact.eq (.pointer (some ⟨w.heap.size + 1, 0, none⟩))) rfl rfl rfl rfl (fun vs wj hJ hd K hK => ?_) ?_
    · clear hd
      simp only [Jo.putl, Jo.ze, Act.put, Jo.za, Jo.zb, Jo.zc] at hK ⊢
      go_simp
      exact hK.out _ _ rfl (Below.refl _ _)
    refine Jo.jcons (i := 4) (o := ⟨some 17, _, _, _, _, _⟩) (di := some 17) (L := [(some 16, 3)]) (f := Jo.Fact.eq (.agg #[.bool s2, .slice A2 n2 c2])) rfl rfl rfl rfl (fun vs wj hJ hd K hK => ?_) ?_
    · have d3 : (Jo.Fact.eq (.pointer (some ⟨w.heap.size + 1, 0, none⟩))).P (vs 3) wj := hd 3 (by decide)
      clear hd
      simp only [Jo.putl, Jo.zd, Jo.ze, Act.put, Jo.za, Jo.zb, Jo.zc] at hK ⊢
      generalize vs 3 = u3 at hK d3 ⊢
      replace d3 : u3 = _ := d3
      subst d3
      have xX20 : World.cell? wj ⟨w.heap.size + 1, 0, none⟩ = some (.bool s2) := (X2.below hJ).cell 0
      have xX21 : World.cell? wj ⟨w.heap.size + 1, 1, none⟩ = some (.slice A2 n2 c2) := (X2.below hJ).cell 1
      have xX22 : World.cell? wj ⟨w.heap.size + 1, 2, none⟩ = some (.int .i64 E2) := (X2.below hJ).cell 2
      go_simp
      exact hK.out _ _ rfl (Below.refl _ _)
    refine Jo.jcons (i := 5) (o := ⟨some 18, _, _, _, _, _⟩) (di := some 18) (L := [(some 17, 4)]) (f := Jo.Fact.eq (.int .i64 σ)) rfl rfl rfl rfl (fun vs wj hJ hd K hK => ?_) ?_
    · have d4 : (Jo.Fact.eq (.agg #[.bool s2, .slice A2 n2 c2])).P (vs 4) wj := hd 4 (by decide)
      clear hd
      simp only [Jo.putl, Jo.zd, Jo.ze, Act.put, Jo.za, Jo.zb, Jo.zc] at hK ⊢
      generalize vs 4 = u4 at hK d4 ⊢
      replace d4 : u4 = _ := d4
      subst d4
      go_simp
      refine (wSign (p2.below hJ).wr HS2.out).mono ?_
      rintro ee wk ⟨rfl, B⟩
      exact hK.out _ _ rfl B
    refine Jo.jcons (i := 6) (o := ⟨some 5, _, _, _, _, _⟩) (di := some 5) (L := [(some 15, 2)]) (f := Jo.Fact.eq (.int .i64 σ)) rfl rfl rfl rfl (fun vs wj hJ hd K hK => ?_) ?_
    · have d2 : (Jo.Fact.eq (.int .i64 σ)).P (vs 2) wj := hd 2 (by decide)
      clear hd
      simp only [Jo.putl, Jo.zd, Jo.ze, Act.put, Jo.za, Jo.zb, Jo.zc] at hK ⊢
      generalize vs 2 = u2 at hK d2 ⊢
      replace d2 : u2 = _ := d2
      subst d2
      go_simp
      exact hK.out _ _ rfl (Below.refl _ _)
    refine Jo.jcons (i := 7) (o := ⟨some 6, _, _, _, _, _⟩) (di := some 6) (L := [(some 18, 5)]) (f := Jo.Fact.eq (.int .i64 σ)) rfl rfl rfl rfl (fun vs wj hJ hd K hK => ?_) ?_
    · have d5 : (Jo.Fact.eq (.int .i64 σ)).P (vs 5) wj := hd 5 (by decide)
      clear hd
      simp only [Jo.putl, Jo.zd, Jo.ze, Act.put, Jo.za, Jo.zb, Jo.zc] at hK ⊢
      generalize vs 5 = u5 at hK d5 ⊢
      replace d5 : u5 = _ := d5
      subst d5
      go_simp
      exact hK.out _ _ rfl (Below.refl _ _)
    exact Jo.Steps.nil
  have d0 : (Jo.Fact.eq (.pointer (some ⟨w.heap.size, 0, none⟩))).P (vs 0) w5 := hd 0 (by decide)
  have d1 : (Jo.Fact.eq (.agg #[.bool s1, .slice A1 n1 c1])).P (vs 1) w5 := hd 1 (by decide)
  have d2 : (Jo.Fact.eq (.int .i64 σ)).P (vs 2) w5 := hd 2 (by decide)
  have d3 : (Jo.Fact.eq (.pointer (some ⟨w.heap.size + 1, 0, none⟩))).P (vs 3) w5 := hd 3 (by decide)
  have d4 : (Jo.Fact.eq (.agg #[.bool s2, .slice A2 n2 c2])).P (vs 4) w5 := hd 4 (by decide)
  have d5 : (Jo.Fact.eq (.int .i64 σ)).P (vs 5) w5 := hd 5 (by decide)
  have d6 : (Jo.Fact.eq (.int .i64 σ)).P (vs 6) w5 := hd 6 (by decide)
  have d7 : (Jo.Fact.eq (.int .i64 σ)).P (vs 7) w5 := hd 7 (by decide)
  clear hd
  simp only [Jo.putl, Jo.zd, Jo.ze, Act.put, Jo.za, Jo.zb, Jo.zc]
  generalize vs 0 = u0 at d0 ⊢
  generalize vs 1 = u1 at d1 ⊢
  generalize vs 2 = u2 at d2 ⊢
  generalize vs 3 = u3 at d3 ⊢
  generalize vs 4 = u4 at d4 ⊢
  generalize vs 5 = u5 at d5 ⊢
  generalize vs 6 = u6 at d6 ⊢
  generalize vs 7 = u7 at d7 ⊢
  clear vs
  replace d0 : u0 = _ := d0
  subst d0
  replace d1 : u1 = _ := d1
  subst d1
  replace d2 : u2 = _ := d2
  subst d2
  replace d3 : u3 = _ := d3
  subst d3
  replace d4 : u4 = _ := d4
  subst d4
  replace d5 : u5 = _ := d5
  subst d5
  replace d6 : u6 = _ := d6
  subst d6
  replace d7 : u7 = _ := d7
  subst d7
  replace X1 := X1.below hJ
  replace X2 := X2.below hJ
  replace p1 := p1.below hJ
  replace p2 := p2.below hJ
  replace HB := Lib.hid (bt HB.out hJ)
  refine Jo.jdone (by kernel_rfl) ?_
  go_upto_region 5 with (fail)
  refine Jo.region_joint (T := [0, 1, 2, 3, 4, 5]) (ds := [some 25, some 26, some 27, some 28, some 29, some 7]) (ls := [[], [0], [], [2], [1, 3], [4]]) (k := 6) (L := [(some 25, 0), (some 26, 1), (some 27, 2), (some 28, 3), (some 29, 4), (some 7, 5)]) (fuel := 0) (J := fun wj => Below (World.heap w5).size w5 wj)
    (F := [Jo.Fact.eq (.agg #[.bool s1, .slice A1 n1 c1, .int .i64 E1]), Jo.Fact.eq (.int .i64 x1), Jo.Fact.eq (.agg #[.bool s2, .slice A2 n2 c2, .int .i64 E2]), Jo.Fact.eq (.int .i64 x2), Jo.Fact.eq (.int .i64 p), Jo.Fact.eq (.int .i64 p)])
    (by kernel_rfl) (by kernel_rfl) (by decide) rfl rfl (fun _ _ h b => bt h b) ((Below.refl _ _).drew) ?_ (fun vs w6 hJ hd => ?_)
  · refine Jo.jcons (i := 0) (o := ⟨some 25, _, _, _, _, _⟩) (di := some 25) (L := []) (f := Jo.Fact.eq (.agg #[.bool s1, .slice A1 n1 c1, .int .i64 E1])) rfl rfl rfl rfl (fun vs wj hJ hd K hK => ?_) ?_
    · clear hd
      simp only [Jo.putl, Jo.ze, Act.put, Jo.za, Jo.zb, Jo.zc] at hK ⊢
      have xX10 : World.cell? wj ⟨w.heap.size, 0, none⟩ = some (.bool s1) := (X1.below hJ).cell 0
      have xX11 : World.cell? wj ⟨w.heap.size, 1, none⟩ = some (.slice A1 n1 c1) := (X1.below hJ).cell 1
      have xX12 : World.cell? wj ⟨w.heap.size, 2, none⟩ = some (.int .i64 E1) := (X1.below hJ).cell 2
      go_simp
      exact hK.out _ _ rfl (Below.refl _ _)
    refine Jo.jcons (i := 1) (o := ⟨some 26, _, _, _, _, _⟩) (di := some 26) (L := [(some 25, 0)]) (f := Jo.Fact.eq (.int .i64 x1)) rfl rfl rfl rfl (fun vs wj hJ hd K hK => ?_) ?_
    · have d0 : (Jo.Fact.eq (.agg #[.bool s1, .slice A1 n1 c1, .int .i64 E1])).P (vs 0) wj := hd 0 (by decide)
      clear hd
      simp only [Jo.putl, Jo.zd, Jo.ze, Act.put, Jo.za, Jo.zb, Jo.zc] at hK ⊢
      generalize vs 0 = u0 at hK d0 ⊢
      replace d0 : u0 = _ := d0
      subst d0
      go_simp
      refine (dHighest (p1.below hJ) (by omega) b1 b2 HX1.out).mono ?_
      rintro ee wk ⟨rfl, B⟩
      exact hK.out _ _ rfl B
    refine Jo.jcons (i := 2) (o := ⟨some 27, _, _, _, _, _⟩) (di := some 27) (L := []) (f := Jo.Fact.eq (.agg #[.bool s2, .slice A2 n2 c2, .int .i64 E2])) rfl rfl rfl rfl (fun vs wj hJ hd K hK => ?_) ?_
    · clear hd
      simp only [Jo.putl, Jo.ze, Act.put, Jo.za, Jo.zb, Jo.zc] at hK ⊢
      have xX20 : World.cell? wj ⟨w.heap.size + 1, 0, none⟩ = some (.bool s2) := (X2.below hJ).cell 0
      have xX21 : World.cell? wj ⟨w.heap.size + 1, 1, none⟩ = some (.slice A2 n2 c2) := (X2.below hJ).cell 1
      have xX22 : World.cell? wj ⟨w.heap.size + 1, 2, none⟩ = some (.int .i64 E2) := (X2.below hJ).cell 2
      go_simp
      exact hK.out _ _ rfl (Below.refl _ _)
    refine Jo.jcons (i := 3) (o := ⟨some 28, _, _, _, _, _⟩) (di := some 28) (L := [(some 27, 2)]) (f := Jo.Fact.eq (.int .i64 x2)) rfl rfl rfl rfl (fun vs wj hJ hd K hK => ?_) ?_
    · have d2 : (Jo.Fact.eq (.agg #[.bool s2, .slice A2 n2 c2, .int .i64 E2])).P (vs 2) wj := hd 2 (by decide)
      clear hd
      simp only [Jo.putl, Jo.zd, Jo.ze, Act.put, Jo.za, Jo.zb, Jo.zc] at hK ⊢
      generalize vs 2 = u2 at hK d2 ⊢
      replace d2 : u2 = _ := d2
      subst d2
      go_simp
      refine (dHighest (p2.below hJ) (by omega) b3 b4 HX2.out).mono ?_
      rintro ee wk ⟨rfl, B⟩
      exact hK.out _ _ rfl B
    refine Jo.jcons (i := 4) (o := ⟨some 29, _, _, _, _, _⟩) (di := some 29) (L := [(some 26, 1), (some 28, 3)]) (f := Jo.Fact.eq (.int .i64 p)) rfl rfl rfl rfl (fun vs wj hJ hd K hK => ?_) ?_
    · have d1 : (Jo.Fact.eq (.int .i64 x1)).P (vs 1) wj := hd 1 (by decide)
      have d3 : (Jo.Fact.eq (.int .i64 x2)).P (vs 3) wj := hd 3 (by decide)
      clear hd
      simp only [Jo.putl, Jo.zd, Jo.ze, Act.put, Jo.za, Jo.zb, Jo.zc] at hK ⊢
      generalize vs 1 = u1 at hK d1 ⊢
      generalize vs 3 = u3 at hK d3 ⊢
      replace d1 : u1 = _ := d1
      subst d1
      replace d3 : u3 = _ := d3
      subst d3
      go_simp
      refine (compareInt_any x1 x2 wj).mono ?_
      rintro ee wk ⟨rfl, rfl⟩
      exact hK.out _ _ (val_int HP.out) (Below.refl _ _)
    refine Jo.jcons (i := 5) (o := ⟨some 7, _, _, _, _, _⟩) (di := some 7) (L := [(some 29, 4)]) (f := Jo.Fact.eq (.int .i64 p)) rfl rfl rfl rfl (fun vs wj hJ hd K hK => ?_) ?_
    · have d4 : (Jo.Fact.eq (.int .i64 p)).P (vs 4) wj := hd 4 (by decide)
      clear hd
      simp only [Jo.putl, Jo.zd, Jo.ze, Act.put, Jo.za, Jo.zb, Jo.zc] at hK ⊢
      generalize vs 4 = u4 at hK d4 ⊢
      replace d4 : u4 = _ := d4
      subst d4
      go_simp
      exact hK.out _ _ rfl (Below.refl _ _)
    exact Jo.Steps.nil
  have d0 : (Jo.Fact.eq (.agg #[.bool s1, .slice A1 n1 c1, .int .i64 E1])).P (vs 0) w6 := hd 0 (by decide)
  have d1 : (Jo.Fact.eq (.int .i64 x1)).P (vs 1) w6 := hd 1 (by decide)
  have d2 : (Jo.Fact.eq (.agg #[.bool s2, .slice A2 n2 c2, .int .i64 E2])).P (vs 2) w6 := hd 2 (by decide)
  have d3 : (Jo.Fact.eq (.int .i64 x2)).P (vs 3) w6 := hd 3 (by decide)
  have d4 : (Jo.Fact.eq (.int .i64 p)).P (vs 4) w6 := hd 4 (by decide)
  have d5 : (Jo.Fact.eq (.int .i64 p)).P (vs 5) w6 := hd 5 (by decide)
  clear hd
  simp only [Jo.putl, Jo.zd, Jo.ze, Act.put, Jo.za, Jo.zb, Jo.zc]
  generalize vs 0 = u0 at d0 ⊢
  generalize vs 1 = u1 at d1 ⊢
  generalize vs 2 = u2 at d2 ⊢
  generalize vs 3 = u3 at d3 ⊢
  generalize vs 4 = u4 at d4 ⊢
  generalize vs 5 = u5 at d5 ⊢
  clear vs
  replace d0 : u0 = _ := d0
  subst d0
  replace d1 : u1 = _ := d1
  subst d1
  replace d2 : u2 = _ := d2
  subst d2
  replace d3 : u3 = _ := d3
  subst d3
  replace d4 : u4 = _ := d4
  subst d4
  replace d5 : u5 = _ := d5
  subst d5
  replace X1 := X1.below hJ
  replace X2 := X2.below hJ
  replace p1 := p1.below hJ
  replace p2 := p2.below hJ
  replace HB := Lib.hid (bt HB.out hJ)
  refine Jo.jdone (by kernel_rfl) ?_
  have xX10 := X1.at (i := 0) (v := .bool s1) rfl
  have xX11 := X1.at (i := 1) (v := .slice A1 n1 c1) rfl
  have xX12 := X1.at (i := 2) (v := .int .i64 E1) rfl
  have xX20 := X2.at (i := 0) (v := .bool s2) rfl
  have xX21 := X2.at (i := 1) (v := .slice A2 n2 c2) rfl
  have xX22 := X2.at (i := 2) (v := .int .i64 E2) rfl
  go_upto_region 9 with (fail)
  clear xX10 xX11 xX12 xX20 xX21 xX22
  refine Jo.region_joint (T := [0, 1, 2, 3, 4, 5, 6, 7]) (ds := [some 40, some 41, some 42, some 43, some 44, some 45, some 46, some 4]) (ls := [[], [], [0, 1], [], [], [3, 4], [2, 5], [6]]) (k := 8) (L := [(some 40, 0), (some 41, 1), (some 42, 2), (some 43, 3), (some 44, 4), (some 45, 5), (some 46, 6), (some 4, 7)]) (fuel := 0) (J := fun wj => Below (World.heap w6).size w6 wj)
    (F := [Jo.Fact.eq (.agg #[.bool s1, .slice A1 n1 c1, .int .i64 E1]), Jo.Fact.eq (.int .i64 E2), Jo.Fact.wn (N1 * ((2 ^ (E1 - E2).toNat : Nat) : Int)) (n + 262200), Jo.Fact.eq (.agg #[.bool s2, .slice A2 n2 c2, .int .i64 E2]), Jo.Fact.eq (.int .i64 E2), Jo.Fact.wn (N2 * ((2 ^ (E2 - E2).toNat : Nat) : Int)) (m + 262200), Jo.Fact.eq (.int .i64 r), Jo.Fact.eq (.int .i64 r)])
    (by kernel_rfl) (by kernel_rfl) (by decide) rfl rfl (fun _ _ h b => bt h b) ((Below.refl _ _).drew) ?_ (fun vs w7 hJ hd => ?_)
  · refine Jo.jcons (i := 0) (o := ⟨some 40, _, _, _, _, _⟩) (di := some 40) (L := []) (f := Jo.Fact.eq (.agg #[.bool s1, .slice A1 n1 c1, .int .i64 E1])) rfl rfl rfl rfl (fun vs wj hJ hd K hK => ?_) ?_
    · clear hd
      simp only [Jo.putl, Jo.ze, Act.put, Jo.za, Jo.zb, Jo.zc] at hK ⊢
      have xX10 : World.cell? wj ⟨w.heap.size, 0, none⟩ = some (.bool s1) := (X1.below hJ).cell 0
      have xX11 : World.cell? wj ⟨w.heap.size, 1, none⟩ = some (.slice A1 n1 c1) := (X1.below hJ).cell 1
      have xX12 : World.cell? wj ⟨w.heap.size, 2, none⟩ = some (.int .i64 E1) := (X1.below hJ).cell 2
      go_simp
      exact hK.out _ _ rfl (Below.refl _ _)
    refine Jo.jcons (i := 1) (o := ⟨some 41, _, _, _, _, _⟩) (di := some 41) (L := []) (f := Jo.Fact.eq (.int .i64 E2)) rfl rfl rfl rfl (fun vs wj hJ hd K hK => ?_) ?_
    · clear hd
      simp only [Jo.putl, Jo.ze, Act.put, Jo.za, Jo.zb, Jo.zc] at hK ⊢
      go_simp
      exact hK.out _ _ rfl (Below.refl _ _)
    refine Jo.jcons (i := 2) (o := ⟨some 42, _, _, _, _, _⟩) (di := some 42) (L := [(some 40, 0), (some 41, 1)]) (f := Jo.Fact.wn (N1 * ((2 ^ (E1 - E2).toNat : Nat) : Int)) (n + 262200)) rfl rfl rfl rfl (fun vs wj hJ hd K hK => ?_) ?_
    · have d0 : (Jo.Fact.eq (.agg #[.bool s1, .slice A1 n1 c1, .int .i64 E1])).P (vs 0) wj := hd 0 (by decide)
      have d1 : (Jo.Fact.eq (.int .i64 E2)).P (vs 1) wj := hd 1 (by decide)
      clear hd
      simp only [Jo.putl, Jo.zd, Jo.ze, Act.put, Jo.za, Jo.zb, Jo.zc] at hK ⊢
      generalize vs 0 = u0 at hK d0 ⊢
      generalize vs 1 = u1 at hK d1 ⊢
      replace d0 : u0 = _ := d0
      subst d0
      replace d1 : u1 = _ := d1
      subst d1
      go_simp
      refine (dTimes (p1.below hJ) (by omega) (by omega) (by omega) rfl).mono ?_
      rintro ee wk ⟨s5, A5, n5, c5, rfl, p5, k5, B⟩
      exact hK.out _ _ ⟨s5, A5, n5, c5, rfl, p5, by omega⟩ B
    refine Jo.jcons (i := 3) (o := ⟨some 43, _, _, _, _, _⟩) (di := some 43) (L := []) (f := Jo.Fact.eq (.agg #[.bool s2, .slice A2 n2 c2, .int .i64 E2])) rfl rfl rfl rfl (fun vs wj hJ hd K hK => ?_) ?_
    · clear hd
      simp only [Jo.putl, Jo.ze, Act.put, Jo.za, Jo.zb, Jo.zc] at hK ⊢
      have xX20 : World.cell? wj ⟨w.heap.size + 1, 0, none⟩ = some (.bool s2) := (X2.below hJ).cell 0
      have xX21 : World.cell? wj ⟨w.heap.size + 1, 1, none⟩ = some (.slice A2 n2 c2) := (X2.below hJ).cell 1
      have xX22 : World.cell? wj ⟨w.heap.size + 1, 2, none⟩ = some (.int .i64 E2) := (X2.below hJ).cell 2
      go_simp
      exact hK.out _ _ rfl (Below.refl _ _)
    refine Jo.jcons (i := 4) (o := ⟨some 44, _, _, _, _, _⟩) (di := some 44) (L := []) (f := Jo.Fact.eq (.int .i64 E2)) rfl rfl rfl rfl (fun vs wj hJ hd K hK => ?_) ?_
    · clear hd
      simp only [Jo.putl, Jo.ze, Act.put, Jo.za, Jo.zb, Jo.zc] at hK ⊢
      go_simp
      exact hK.out _ _ rfl (Below.refl _ _)
    refine Jo.jcons (i := 5) (o := ⟨some 45, _, _, _, _, _⟩) (di := some 45) (L := [(some 43, 3), (some 44, 4)]) (f := Jo.Fact.wn (N2 * ((2 ^ (E2 - E2).toNat : Nat) : Int)) (m + 262200)) rfl rfl rfl rfl (fun vs wj hJ hd K hK => ?_) ?_
    · have d3 : (Jo.Fact.eq (.agg #[.bool s2, .slice A2 n2 c2, .int .i64 E2])).P (vs 3) wj := hd 3 (by decide)
      have d4 : (Jo.Fact.eq (.int .i64 E2)).P (vs 4) wj := hd 4 (by decide)
      clear hd
      simp only [Jo.putl, Jo.zd, Jo.ze, Act.put, Jo.za, Jo.zb, Jo.zc] at hK ⊢
      generalize vs 3 = u3 at hK d3 ⊢
      generalize vs 4 = u4 at hK d4 ⊢
      replace d3 : u3 = _ := d3
      subst d3
      replace d4 : u4 = _ := d4
      subst d4
      go_simp
      refine (dTimes (p2.below hJ) (by omega) (by omega) (by omega) rfl).mono ?_
      rintro ee wk ⟨s6, A6, n6, c6, rfl, p6, k6, B⟩
      exact hK.out _ _ ⟨s6, A6, n6, c6, rfl, p6, by omega⟩ B
    refine Jo.jcons (i := 6) (o := ⟨some 46, _, _, _, _, _⟩) (di := some 46) (L := [(some 42, 2), (some 45, 5)]) (f := Jo.Fact.eq (.int .i64 r)) rfl rfl rfl rfl (fun vs wj hJ hd K hK => ?_) ?_
    · have d2 : (Jo.Fact.wn (N1 * ((2 ^ (E1 - E2).toNat : Nat) : Int)) (n + 262200)).P (vs 2) wj := hd 2 (by decide)
      have d5 : (Jo.Fact.wn (N2 * ((2 ^ (E2 - E2).toNat : Nat) : Int)) (m + 262200)).P (vs 5) wj := hd 5 (by decide)
      clear hd
      simp only [Jo.putl, Jo.zd, Jo.ze, Act.put, Jo.za, Jo.zb, Jo.zc] at hK ⊢
      generalize vs 2 = u2 at hK d2 ⊢
      generalize vs 5 = u5 at hK d5 ⊢
      obtain ⟨s5, A5, n5, c5, rfl, p5, k5⟩ := d2
      obtain ⟨s6, A6, n6, c6, rfl, p6, k6⟩ := d5
      go_simp
      refine (wCmp p5.wr p6.wr HR.out).mono ?_
      rintro ee wk ⟨rfl, B⟩
      exact hK.out _ _ rfl B
    refine Jo.jcons (i := 7) (o := ⟨some 4, _, _, _, _, _⟩) (di := some 4) (L := [(some 46, 6)]) (f := Jo.Fact.eq (.int .i64 r)) rfl rfl rfl rfl (fun vs wj hJ hd K hK => ?_) ?_
    · have d6 : (Jo.Fact.eq (.int .i64 r)).P (vs 6) wj := hd 6 (by decide)
      clear hd
      simp only [Jo.putl, Jo.zd, Jo.ze, Act.put, Jo.za, Jo.zb, Jo.zc] at hK ⊢
      generalize vs 6 = u6 at hK d6 ⊢
      replace d6 : u6 = _ := d6
      subst d6
      go_simp
      exact hK.out _ _ rfl (Below.refl _ _)
    exact Jo.Steps.nil
  have d0 : (Jo.Fact.eq (.agg #[.bool s1, .slice A1 n1 c1, .int .i64 E1])).P (vs 0) w7 := hd 0 (by decide)
  have d1 : (Jo.Fact.eq (.int .i64 E2)).P (vs 1) w7 := hd 1 (by decide)
  have d2 : (Jo.Fact.wn (N1 * ((2 ^ (E1 - E2).toNat : Nat) : Int)) (n + 262200)).P (vs 2) w7 := hd 2 (by decide)
  have d3 : (Jo.Fact.eq (.agg #[.bool s2, .slice A2 n2 c2, .int .i64 E2])).P (vs 3) w7 := hd 3 (by decide)
  have d4 : (Jo.Fact.eq (.int .i64 E2)).P (vs 4) w7 := hd 4 (by decide)
  have d5 : (Jo.Fact.wn (N2 * ((2 ^ (E2 - E2).toNat : Nat) : Int)) (m + 262200)).P (vs 5) w7 := hd 5 (by decide)
  have d6 : (Jo.Fact.eq (.int .i64 r)).P (vs 6) w7 := hd 6 (by decide)
  have d7 : (Jo.Fact.eq (.int .i64 r)).P (vs 7) w7 := hd 7 (by decide)
  clear hd
  simp only [Jo.putl, Jo.zd, Jo.ze, Act.put, Jo.za, Jo.zb, Jo.zc]
  generalize vs 0 = u0 at d0 ⊢
  generalize vs 1 = u1 at d1 ⊢
  generalize vs 2 = u2 at d2 ⊢
  generalize vs 3 = u3 at d3 ⊢
  generalize vs 4 = u4 at d4 ⊢
  generalize vs 5 = u5 at d5 ⊢
  generalize vs 6 = u6 at d6 ⊢
  generalize vs 7 = u7 at d7 ⊢
  clear vs
  replace d0 : u0 = _ := d0
  subst d0
  replace d1 : u1 = _ := d1
  subst d1
  obtain ⟨s5, A5, n5, c5, rfl, _, _⟩ := d2
  replace d3 : u3 = _ := d3
  subst d3
  replace d4 : u4 = _ := d4
  subst d4
  obtain ⟨s6, A6, n6, c6, rfl, _, _⟩ := d5
  replace d6 : u6 = _ := d6
  subst d6
  replace d7 : u7 = _ := d7
  subst d7
  replace X1 := X1.below hJ
  replace X2 := X2.below hJ
  replace p1 := p1.below hJ
  replace p2 := p2.below hJ
  replace HB := Lib.hid (bt HB.out hJ)
  refine Jo.jdone (by kernel_rfl) ?_
  go_wp2
  go_ret
  exact ⟨rfl, HB.out⟩

theorem dCmp {w : World} {A B : Option Addr} {n c m d : Nat} {s t : Bool} {z e y f r : Int} (hT : Tab w) (h : Wr w s A n c z) (k : Wr w t B m d y) (hn : n ≤ 100000) (hm : m ≤ 100000) (hr : cmpI (vl (mk z e)) (vl (mk y f)) = r) :
    Calls Tryd.prog 12 #[.agg #[.bool s, .slice A n c, .int .i64 e], .agg #[.bool t, .slice B m d, .int .i64 f]] w (PI w r) := by
  obtain ⟨b1, b2⟩ := mk_bd z e
  obtain ⟨b3, b4⟩ := mk_bd y f
  by_cases hs : cmpI (mk z e).1 0 = cmpI (mk y f).1 0
  · by_cases hp : cmpI (((blen (mk z e).1.natAbs : Nat) : Int) + (mk z e).2) (((blen (mk y f).1.natAbs : Nat) : Int) + (mk y f).2) = 0
    · by_cases hle : (mk z e).2 ≤ (mk y f).2
      · refine dcmp_up hT h k hn hm b1 b2 b3 b4 (Lib.hid rfl) (Lib.hid rfl) (Lib.hid rfl) (Lib.hid rfl) (Lib.hid rfl) (Lib.hid rfl) hs (Lib.hid rfl) (Lib.hid rfl) (Lib.hid rfl) hp hle (Lib.hid ?_)
        rw [← hr, ← vl_cmp_low (Int.le_refl (mk z e).2) hle b1]
        simp
      · refine dcmp_dn hT h k hn hm b1 b2 b3 b4 (Lib.hid rfl) (Lib.hid rfl) (Lib.hid rfl) (Lib.hid rfl) (Lib.hid rfl) (Lib.hid rfl) hs (Lib.hid rfl) (Lib.hid rfl) (Lib.hid rfl) hp (by omega) (Lib.hid ?_)
        rw [← hr, ← vl_cmp_low (l := (mk y f).2) (by omega) (Int.le_refl _) b3]
        simp
    · refine dcmp_tops hT h k hn hm b1 b2 b3 b4 (Lib.hid rfl) (Lib.hid rfl) (Lib.hid rfl) (Lib.hid rfl) (Lib.hid rfl) (Lib.hid rfl) hs (Lib.hid rfl) (Lib.hid rfl) (Lib.hid rfl) hp (Lib.hid ?_)
      rw [← hr]
      exact vl_cmp_top (mk_nf _ _) (mk_nf _ _) hs rfl hp
  · refine dcmp_signs hT h k hn hm b1 b2 b3 b4 (Lib.hid rfl) (Lib.hid rfl) (Lib.hid rfl) (Lib.hid rfl) (Lib.hid rfl) (Lib.hid rfl) hs (Lib.hid ?_)
    rw [← hr, ← vl_sign, ← vl_sign]
    exact cmp_signs (by rw [vl_sign, vl_sign]; exact hs)
end Go.Proofs.YtpmakljahhhnfaaDoor
