/-
  Contracts and words that the statement's proof rests on, several texts in one: Ef, Eg.
-/
import Derived.Test.YteejbcimmmcnlaaGreatDoorYBao
import Derived.Test.YteejbcimmmcnlaaGreatDoorYBar
import Derived.Test.YteejbcimmmcnlaaGreatDoorYBau
/-
  What dy.highest, Neg, Move and Mul do.
-/
namespace Go.Proofs.YteejbcimmmcnlaaGreatDoor
open Go.RowKit
set_option linter.unusedVariables false
set_option maxRecDepth 100000

set_option maxHeartbeats 2000000 in
theorem dHighest {w : World} {A : Option Addr} {n c : Nat} {s : Bool} {N E r : Int} (h : Wn w s A n c N) (hn : n ≤ 100000) (h0 : -4194304 ≤ E) (h1 : E ≤ 4194304) (hr : ((blen N.natAbs : Nat) : Int) + E = r) :
    Calls Tryz.prog 121 #[.agg #[.bool s, .slice A n c, .int .i64 E]] w (PI w r) := by
  have hb := h.1.rd.blen_le; obtain ⟨b, hb1⟩ : ∃ b, ((blen N.natAbs : Nat) : Int) = b := ⟨_, rfl⟩
  have hb0 : 0 ≤ b := by omega
  have hb2 : b ≤ 3200000 := by omega
  rw [hb1] at hr; have HV := Lib.hid hb1
  have HW : Hid (IntKind.i64.wrap (b + E) = r) := Lib.hid (by rw [hr]; exact IntWalk.i64_in _ (by omega))
  clear hb hb1 hr
  go_enter Tryz.func121, Tryz.ntmps121
  go_upto_region 1 with (fail)
  generalize hW1 : w.alloc _ = w1 at *; obtain ⟨X1, HB⟩ := Bo.en1 hW1; replace h := h.below HB.out; clear hW1; refine Jo.rk [0, 1, 2, 3, 4, 5, 6, 7] [some 3, some 4, some 5, some 6, some 7, some 8, some 9, some 2] [[], [0], [1], [2], [], [4], [3, 5], [6]] 8 0 [Jo.qp w.heap.size 0, Jo.qp w.heap.size 1, Jo.Fact.eq (.slice A n c), Jo.qi b, Jo.qp w.heap.size 2, Jo.qi E, Jo.qi r, Jo.qi r] (by kernel_rfl) (by kernel_rfl) (by decide) rfl ?_ ?_
  · refine Jo.jm rfl ?_ ?_
    · rintro wj hJ K hK; simp only [Jo.z] at hK ⊢; go_simp; exact hK.out _ _ rfl (br _ _)
    refine Jo.jm rfl ?_ ?_
    · rintro wj hJ _ rfl K hK; simp only [Jo.z] at hK ⊢; go_simp; exact hK.out _ _ rfl (br _ _)
    refine Jo.jm rfl ?_ ?_
    · rintro wj hJ _ rfl K hK; simp only [Jo.z] at hK ⊢; have xX11 := (X1.below hJ).a 1 (.slice A n c) rfl; go_simp; exact hK.out _ _ rfl (br _ _)
    refine Jo.jm rfl ?_ ?_
    · rintro wj hJ _ rfl K hK; simp only [Jo.z] at hK ⊢; go_simp; refine (vLenE (h.below hJ).1.rd HV.out).mono ?_; rintro ee wk ⟨rfl, B⟩; exact hK.out _ _ rfl B
    refine Jo.jm rfl ?_ ?_
    · rintro wj hJ K hK; simp only [Jo.z] at hK ⊢; go_simp; exact hK.out _ _ rfl (br _ _)
    refine Jo.jm rfl ?_ ?_
    · rintro wj hJ _ rfl K hK; simp only [Jo.z] at hK ⊢; have xX12 := (X1.below hJ).a 2 (.int .i64 E) rfl; go_simp; exact hK.out _ _ rfl (br _ _)
    refine Jo.jm rfl ?_ ?_
    · rintro wj hJ _ rfl _ rfl K hK; simp only [Jo.z] at hK ⊢; have hw := HW.out; go_simp; exact hK.out _ _ rfl (br _ _)
    refine Jo.jm rfl ?_ ?_
    · rintro wj hJ _ rfl K hK; simp only [Jo.z] at hK ⊢; go_simp; exact hK.out _ _ rfl (br _ _)
    exact Jo.Steps.nil
  rintro w2 hJ _ _ _ _ _ rfl _ rfl _ _ _ rfl _ rfl _ rfl -; simp only [Jo.z]; replace X1 := X1.below hJ; replace h := h.below hJ; replace HB := Lib.hid (bt HB.out hJ); refine Jo.jdone (by kernel_rfl) ?_; go_wp2
  go_ret
  exact ⟨rfl, HB.out⟩

set_option maxHeartbeats 2000000 in
theorem dNeg {w : World} {A : Option Addr} {n c : Nat} {s : Bool} {z e N E : Int} (hT : Tab w) (h : Wr w s A n c z) (hn : n ≤ 100000) (hN : -(mk z e).1 = N) (hE : (mk z e).2 = E) :
    Calls Tryz.prog 80 #[.agg #[.bool s, .slice A n c, .int .i64 e]] w (D1 w n N E) := by
  have HN := Lib.hid hN; have HE := Lib.hid hE; clear hN hE
  go_enter Tryz.func80, Tryz.ntmps80
  go_upto_region 1 with (fail)
  generalize hW1 : (w.alloc _).alloc _ = w1 at *; obtain ⟨X1, XR, HB⟩ := Bo.en2 hW1; replace hT := hT.below HB.out; replace h := h.below HB.out; clear hW1; obtain ⟨xX10, xX11, xX12⟩ := X1.u3
  go_wp2_with fail
  refine (dTaken hT h hn rfl HE.out).mono ?_; rintro ee w2 ⟨s1, A1, n1, c1, rfl, p1, k1, B⟩; clear xX10 xX11 xX12; replace X1 := X1.below B; replace XR := XR.below B; replace hT := hT.below B; replace h := h.below B; replace HB := Lib.hid (bt HB.out B); clear B; obtain ⟨xX10, xX11, xX12⟩ := X1.u3; have zX10 := X1.frozen
  go_upto_region 2 with (fail)
  clear xX10 zX10 xX11 xX12; generalize hS : ((w2.setCell _ _).setCell _ _).setCell _ _ = w3 at *; have SX := StN.of3 X1 hS; replace XR := XR.stn SX (by omega); replace hT := hT.stn SX (by simp [no8]); replace h := h.stn SX (by simp [no32]); replace p1 := p1.stn SX (by simp [no32]); replace HB := Lib.hid (SX.below HB.out (by omega)); replace X1 := SX.box; clear SX hS; refine Jo.rk [0, 1, 2, 3, 4, 5] [some 5, some 6, some 7, some 8, some 9, some 10, none] [[], [0], [1], [], [3], [2, 4], []] 7 1 [Jo.qp w.heap.size 0, Jo.Fact.eq (.agg #[.bool s1, .slice A1 n1 c1]), Jo.Fact.wn N n, Jo.qp w.heap.size 2, Jo.qi E, Jo.Fact.dy N E n, Jo.Fact.any] (by kernel_rfl) (by kernel_rfl) (by decide) rfl ?_ ?_
  · refine Jo.jm rfl ?_ ?_
    · rintro wj hJ K hK; simp only [Jo.z] at hK ⊢; go_simp; exact hK.out _ _ rfl (br _ _)
    refine Jo.jm rfl ?_ ?_
    · rintro wj hJ _ rfl K hK; simp only [Jo.z] at hK ⊢; obtain ⟨xX10, xX11, xX12⟩ := (X1.below hJ).u3; go_simp; exact hK.out _ _ rfl (br _ _)
    refine Jo.jm rfl ?_ ?_
    · rintro wj hJ _ rfl K hK; simp only [Jo.z] at hK ⊢; go_simp; refine (wNeg (p1.wr.below hJ) HN.out).mono ?_; rintro ee wk ⟨s2, A2, n2, c2, rfl, p2, k2, B⟩; exact hK.out _ _ ⟨s2, A2, n2, c2, rfl, p2, Nat.le_trans k2 k1⟩ B
    refine Jo.jm rfl ?_ ?_
    · rintro wj hJ K hK; simp only [Jo.z] at hK ⊢; go_simp; exact hK.out _ _ rfl (br _ _)
    refine Jo.jm rfl ?_ ?_
    · rintro wj hJ _ rfl K hK; simp only [Jo.z] at hK ⊢; have xX12 := (X1.below hJ).a 2 (.int .i64 E) rfl; go_simp; exact hK.out _ _ rfl (br _ _)
    refine Jo.jm rfl ?_ ?_
    · rintro wj hJ _ ⟨s2, A2, n2, c2, rfl, p2, k2⟩ _ rfl K hK; simp only [Jo.z] at hK ⊢; go_simp; exact hK.out _ _ ⟨s2, A2, n2, c2, rfl, p2, k2⟩ (br _ _)
    exact Jo.Steps.nil
  rintro w4 hJ _ _ _ rfl _ ⟨s2, A2, n2, c2, rfl, _, _⟩ _ _ _ rfl _ ⟨s4, A4, n4, c4, rfl, p4, k4⟩ -; simp only [Jo.z]; replace X1 := X1.below hJ; replace XR := XR.below hJ; replace hT := hT.below hJ; replace h := h.below hJ; replace p1 := p1.below hJ; replace HB := Lib.hid (bt HB.out hJ); obtain ⟨xXR0, xXR1, xXR2⟩ := XR.u3; have zXR0 := XR.frozen
  refine Jo.jnext (i := 6) (o := ⟨none, _, _, _, _, _⟩) (by kernel_rfl) rfl (fun K hK => ?_)
  go_simp; refine hK.out _ _ ?_; clear hK K xXR0 zXR0 xXR1 xXR2; have SX := StN.mk3 XR (.bool s4) (.slice A4 n4 c4) (.int .i64 E); replace p4 := p4.stn SX (by simp [no32]); refine Jo.jdone (by kernel_rfl) ?_; go_wp2; exact bodyPost_ret (v := .agg #[.bool s4, .slice A4 n4 c4, .int .i64 E]) (by simp [results, Tryz.results80, go_sem, SX.box.cell]) rfl ⟨s4, A4, n4, c4, rfl, p4, k4, (SX.below HB.out (by omega))⟩

set_option maxHeartbeats 4000000 in
theorem dMul {w : World} {A B : Option Addr} {n c m d : Nat} {s t : Bool} {z e y f N E : Int} (hT : Tab w) (h : Wr w s A n c z) (k : Wr w t B m d y) (hn : n ≤ 20000) (hm : m ≤ 20000)
    (hN : (ml (mk z e) (mk y f)).1 = N) (hE : (ml (mk z e) (mk y f)).2 = E) :
    Calls Tryz.prog 34 #[.agg #[.bool s, .slice A n c, .int .i64 e], .agg #[.bool t, .slice B m d, .int .i64 f]] w (D1 w (1 + 2 * 20000) N E) := by
  unfold ml at hN hE
  obtain ⟨b1, b2⟩ := mk_bd z e; obtain ⟨b3, b4⟩ := mk_bd y f
  revert b1 b2 b3 b4 hN hE
  generalize hN1 : (mk z e).1 = N1; generalize hE1 : (mk z e).2 = E1; generalize hN2 : (mk y f).1 = N2; generalize hE2 : (mk y f).2 = E2
  intro hN hE b1 b2 b3 b4
  have HW : Hid (IntKind.i64.wrap (E1 + E2) = E1 + E2) := Lib.hid (IntWalk.i64_in _ (by omega))
  have HP : Hid (prd [N1, N2] = N1 * N2) := Lib.hid (by simp [prd])
  have HN1 := Lib.hid hN1; have HE1 := Lib.hid hE1; have HN2 := Lib.hid hN2; have HE2 := Lib.hid hE2; have HN := Lib.hid hN; have HE := Lib.hid hE; clear hN hE hN1 hE1 hN2 hE2
  go_enter Tryz.func34, Tryz.ntmps34
  go_upto_region 1 with (fail)
  generalize hW1 : ((w.alloc _).alloc _).alloc _ = w1 at *; obtain ⟨X1, X2, XR, HB⟩ := Bo.en3 hW1; replace hT := hT.below HB.out; replace h := h.below HB.out; replace k := k.below HB.out; clear hW1
  refine Jo.region_joint (T := [0, 1, 2, 3]) (ds := [some 5, some 6, some 7, some 8, none, none]) (ls := [[], [0], [], [2], [], []]) (k := 6) (L := [(some 5, 0), (some 6, 1), (some 7, 2), (some 8, 3)]) (fuel := 2) (J := fun wj => Below (World.heap w1).size w1 wj)
    (F := [Jo.Fact.eq (.agg #[.bool s, .slice A n c, .int .i64 e]), Jo.Fact.dy N1 E1 n, Jo.Fact.eq (.agg #[.bool t, .slice B m d, .int .i64 f]), Jo.Fact.dy N2 E2 m, Jo.Fact.any, Jo.Fact.any])
    (by kernel_rfl) (by kernel_rfl) (by decide) rfl rfl (fun _ _ h b => bt h b) ((br _ _).drew) ?_ (fun vs w2 hJ hd => ?_)
  · refine Jo.jm rfl ?_ ?_
    · rintro wj hJ K hK; simp only [Jo.z] at hK ⊢; obtain ⟨xX10, xX11, xX12⟩ := (X1.below hJ).u3; go_simp; exact hK.out _ _ rfl (br _ _)
    refine Jo.jm rfl ?_ ?_
    · rintro wj hJ _ rfl K hK; simp only [Jo.z] at hK ⊢; go_simp; refine (dTaken (hT.below hJ) (h.below hJ) (by omega) HN1.out HE1.out).mono ?_; rintro ee wk ⟨s1, A1, n1, c1, rfl, p1, k1, B⟩; exact hK.out _ _ ⟨s1, A1, n1, c1, rfl, p1, k1⟩ B
    refine Jo.jm rfl ?_ ?_
    · rintro wj hJ K hK; simp only [Jo.z] at hK ⊢; obtain ⟨xX20, xX21, xX22⟩ := (X2.below hJ).u3; go_simp; exact hK.out _ _ rfl (br _ _)
    refine Jo.jm rfl ?_ ?_
    · rintro wj hJ _ rfl K hK; simp only [Jo.z] at hK ⊢; go_simp; refine (dTaken (hT.below hJ) (k.below hJ) (by omega) HN2.out HE2.out).mono ?_; rintro ee wk ⟨s2, A2, n2, c2, rfl, p2, k2, B⟩; exact hK.out _ _ ⟨s2, A2, n2, c2, rfl, p2, k2⟩ B
    exact Jo.Steps.nil
  have d1 : (Jo.Fact.dy N1 E1 n).P (vs 1) w2 := hd 1 (by decide)
  have d3 : (Jo.Fact.dy N2 E2 m).P (vs 3) w2 := hd 3 (by decide)
  simp only [Jo.putl, Jo.zd, Jo.ze, Act.put, Jo.za, Jo.zb, Jo.zc]
  rw [show vs 0 = _ from hd 0 (by decide), show vs 2 = _ from hd 2 (by decide)]
  clear hd; generalize vs 1 = u1 at d1 ⊢; generalize vs 3 = u3 at d3 ⊢; obtain ⟨s1, A1, n1, c1, rfl, p1, k1⟩ := d1; obtain ⟨s2, A2, n2, c2, rfl, p2, k2⟩ := d3; replace X1 := X1.below hJ; replace X2 := X2.below hJ; replace XR := XR.below hJ; replace hT := hT.below hJ; replace h := h.below hJ; replace k := k.below hJ; replace HB := Lib.hid (bt HB.out hJ); obtain ⟨xX10, xX11, xX12⟩ := X1.u3; have zX10 := X1.frozen
  refine Jo.jnext (i := 4) (o := ⟨none, _, _, _, _, _⟩) (by kernel_rfl) rfl (fun K hK => ?_)
  go_simp; refine hK.out _ _ ?_; clear hK K xX10 zX10 xX11 xX12; generalize hS : ((w2.setCell _ _).setCell _ _).setCell _ _ = w3 at *; have SX := StN.of3 X1 hS; replace X2 := X2.stn SX (by omega); replace XR := XR.stn SX (by omega); replace hT := hT.stn SX (by simp [no8]); replace h := h.stn SX (by simp [no32]); replace k := k.stn SX (by simp [no32]); replace p1 := p1.stn SX (by simp [no32]); replace p2 := p2.stn SX (by simp [no32])
  replace HB := Lib.hid (SX.below HB.out (by omega)); replace X1 := SX.box; clear SX hS; obtain ⟨xX20, xX21, xX22⟩ := X2.u3; have zX20 := X2.frozen
  refine Jo.jnext (i := 5) (o := ⟨none, _, _, _, _, _⟩) (by kernel_rfl) rfl (fun K hK => ?_)
  go_simp; refine hK.out _ _ ?_; clear hK K xX20 zX20 xX21 xX22; generalize hS : ((w3.setCell _ _).setCell _ _).setCell _ _ = w4 at *; have SX := StN.of3 X2 hS; replace X1 := X1.stn SX (by omega); replace XR := XR.stn SX (by omega); replace hT := hT.stn SX (by simp [no8]); replace h := h.stn SX (by simp [no32]); replace k := k.stn SX (by simp [no32]); replace p1 := p1.stn SX (by simp [no32]); replace p2 := p2.stn SX (by simp [no32])
  replace HB := Lib.hid (SX.below HB.out (by omega)); replace X2 := SX.box; clear SX hS; refine Jo.jdone (by kernel_rfl) ?_
  go_upto_region 2 with (fail)
  refine Jo.rk [0, 1, 2, 3, 4, 5, 6, 7, 8, 9, 10, 11] [some 9, some 10, some 11, some 12, some 13, some 14, some 15, some 16, some 17, some 18, some 19, some 20, none] [[], [0], [], [2], [1, 3], [4], [], [6], [], [8], [7, 9], [5, 10], []] 13 1 [Jo.qp w.heap.size 0, Jo.Fact.eq (.agg #[.bool s1, .slice A1 n1 c1]), Jo.qp (w.heap.size + 1) 0, Jo.Fact.eq (.agg #[.bool s2, .slice A2 n2 c2]), Jo.Fact.wl 20000 2 [N1, N2], Jo.Fact.wn (N1 * N2) (1 + 2 * 20000), Jo.qp w.heap.size 2, Jo.qi E1, Jo.qp (w.heap.size + 1) 2, Jo.qi E2, Jo.Fact.eq (.int .i64 (E1 + E2)), Jo.Fact.dy N E (1 + 2 * 20000), Jo.Fact.any] (by kernel_rfl) (by kernel_rfl) (by decide) rfl ?_ ?_
  · refine Jo.jm rfl ?_ ?_
    · rintro wj hJ K hK; simp only [Jo.z] at hK ⊢; go_simp; exact hK.out _ _ rfl (br _ _)
    refine Jo.jm rfl ?_ ?_
    · rintro wj hJ _ rfl K hK; simp only [Jo.z] at hK ⊢; obtain ⟨xX10, xX11, xX12⟩ := (X1.below hJ).u3; go_simp; exact hK.out _ _ rfl (br _ _)
    refine Jo.jm rfl ?_ ?_
    · rintro wj hJ K hK; simp only [Jo.z] at hK ⊢; go_simp; exact hK.out _ _ rfl (br _ _)
    refine Jo.jm rfl ?_ ?_
    · rintro wj hJ _ rfl K hK; simp only [Jo.z] at hK ⊢; obtain ⟨xX20, xX21, xX22⟩ := (X2.below hJ).u3; go_simp; exact hK.out _ _ rfl (br _ _)
    refine Jo.jm rfl ?_ ?_
    · rintro wj hJ _ rfl _ rfl K hK; simp only [Jo.z] at hK ⊢; go_simp; exact hK.out _ _ ⟨_, 2, rfl, Wl.lit2 rfl (p1.wr.below hJ) (p2.wr.below hJ) (by omega) (by omega)⟩ (bel1 _ _)
    refine Jo.jm rfl ?_ ?_
    · rintro wj hJ _ ⟨A3, c3, rfl, p3⟩ K hK; simp only [Jo.z] at hK ⊢; go_simp; refine (wMul p3 (by omega) HP.out).mono ?_; rintro ee wk ⟨s4, A4, n4, c4, rfl, p4, k4, B⟩; exact hK.out _ _ ⟨s4, A4, n4, c4, rfl, p4, k4⟩ B
    refine Jo.jm rfl ?_ ?_
    · rintro wj hJ K hK; simp only [Jo.z] at hK ⊢; go_simp; exact hK.out _ _ rfl (br _ _)
    refine Jo.jm rfl ?_ ?_
    · rintro wj hJ _ rfl K hK; simp only [Jo.z] at hK ⊢; have xX12 := (X1.below hJ).a 2 (.int .i64 E1) rfl; go_simp; exact hK.out _ _ rfl (br _ _)
    refine Jo.jm rfl ?_ ?_
    · rintro wj hJ K hK; simp only [Jo.z] at hK ⊢; go_simp; exact hK.out _ _ rfl (br _ _)
    refine Jo.jm rfl ?_ ?_
    · rintro wj hJ _ rfl K hK; simp only [Jo.z] at hK ⊢; have xX22 := (X2.below hJ).a 2 (.int .i64 E2) rfl; go_simp; exact hK.out _ _ rfl (br _ _)
    refine Jo.jm rfl ?_ ?_
    · rintro wj hJ _ rfl _ rfl K hK; simp only [Jo.z] at hK ⊢; have hw := HW.out; go_simp; exact hK.out _ _ rfl (br _ _)
    refine Jo.jm rfl ?_ ?_
    · rintro wj hJ _ ⟨s4, A4, n4, c4, rfl, p4, k4⟩ _ rfl K hK; simp only [Jo.z] at hK ⊢; go_simp; refine (dMake (hT.below hJ) p4.wr (by omega) HN.out HE.out).mono ?_; rintro ee wk ⟨s5, A5, n5, c5, rfl, p5, k5, B⟩; exact hK.out _ _ ⟨s5, A5, n5, c5, rfl, p5, Nat.le_trans k5 k4⟩ B
    exact Jo.Steps.nil
  rintro w5 hJ _ _ _ rfl _ _ _ rfl _ ⟨A3, c3, rfl, _⟩ _ ⟨s4, A4, n4, c4, rfl, _, _⟩ _ _ _ rfl _ _ _ rfl _ rfl _ ⟨s5, A5, n5, c5, rfl, p5, k5⟩ -; simp only [Jo.z]; replace X1 := X1.below hJ; replace X2 := X2.below hJ; replace XR := XR.below hJ; replace hT := hT.below hJ; replace h := h.below hJ; replace k := k.below hJ; replace p1 := p1.below hJ; replace p2 := p2.below hJ; replace HB := Lib.hid (bt HB.out hJ)
  obtain ⟨xXR0, xXR1, xXR2⟩ := XR.u3; have zXR0 := XR.frozen
  refine Jo.jnext (i := 12) (o := ⟨none, _, _, _, _, _⟩) (by kernel_rfl) rfl (fun K hK => ?_)
  go_simp; refine hK.out _ _ ?_; clear hK K xXR0 zXR0 xXR1 xXR2; have SX := StN.mk3 XR (.bool s5) (.slice A5 n5 c5) (.int .i64 E); replace p5 := p5.stn SX (by simp [no32]); refine Jo.jdone (by kernel_rfl) ?_; go_wp2; exact bodyPost_ret (v := .agg #[.bool s5, .slice A5 n5 c5, .int .i64 E]) (by simp [results, Tryz.results34, go_sem, SX.box.cell]) rfl ⟨s5, A5, n5, c5, rfl, p5, k5, (SX.below HB.out (by omega))⟩
end Go.Proofs.YteejbcimmmcnlaaGreatDoor

/-
  What dy.plus does: the sum of two numbers in normal form.
-/
namespace Go.Proofs.YteejbcimmmcnlaaGreatDoor
open Go.RowKit
set_option linter.unusedVariables false
set_option maxRecDepth 100000

set_option maxHeartbeats 2000000 in
theorem dplus_l {w : World} {A B : Option Addr} {n c m d : Nat} {s t : Bool} {N2 E1 E2 : Int} (hT : Tab w) (h : Wn w s A n c 0) (k : Wn w t B m d N2) (hm : m ≤ 100000) (HN : Hid ((mk N2 E2).1 = N2)) (HE : Hid ((mk N2 E2).2 = E2)) :
    Calls Tryz.prog 78 #[.agg #[.bool s, .slice A n c, .int .i64 E1], .agg #[.bool t, .slice B m d, .int .i64 E2]] w (D1 w m N2 E2) := by
  go_enter Tryz.func78, Tryz.ntmps78
  go_upto_region 1 with (fail)
  generalize hW1 : ((w.alloc _).alloc _).alloc _ = w1 at *; obtain ⟨X1, X2, XR, HB⟩ := Bo.en3 hW1; replace hT := hT.below HB.out; replace h := h.below HB.out; replace k := k.below HB.out; clear hW1; obtain ⟨xX10, xX11, xX12⟩ := X1.u3
  go_wp2_with fail
  refine (wSign (r := 0) h.wr (cmpI_eq rfl)).mono ?_; rintro ee w2 ⟨rfl, B⟩; clear xX10 xX11 xX12; replace X1 := X1.below B; replace X2 := X2.below B; replace XR := XR.below B; replace hT := hT.below B; replace h := h.below B; replace k := k.below B; replace HB := Lib.hid (bt HB.out B); clear B; obtain ⟨xX20, xX21, xX22⟩ := X2.u3
  go_wp2_with fail
  refine (dMake hT k.wr (by omega) HN.out HE.out).mono ?_; rintro ee w4 ⟨s4, A4, n4, c4, rfl, p4, k4, B⟩; clear xX20 xX21 xX22; replace X1 := X1.below B; replace X2 := X2.below B; replace XR := XR.below B; replace hT := hT.below B; replace h := h.below B; replace k := k.below B; replace HB := Lib.hid (bt HB.out B); clear B; obtain ⟨xXR0, xXR1, xXR2⟩ := XR.u3; have zXR0 := XR.frozen; go_wp2; clear xXR0 zXR0 xXR1 xXR2
  have SX := StN.mk3 XR (.bool s4) (.slice A4 n4 c4) (.int .i64 E2); replace p4 := p4.stn SX (by simp [no32]); exact bodyPost_ret (v := .agg #[.bool s4, .slice A4 n4 c4, .int .i64 E2]) (by simp [results, Tryz.results78, go_sem, SX.box.cell]) rfl ⟨s4, A4, n4, c4, rfl, p4, k4, (SX.below HB.out (by omega))⟩

set_option maxHeartbeats 2000000 in
theorem dplus_r {w : World} {A B : Option Addr} {n c m d : Nat} {s t : Bool} {N1 E1 E2 : Int} (hT : Tab w) (h : Wn w s A n c N1) (k : Wn w t B m d 0) (hn : n ≤ 100000) (h1 : N1 ≠ 0) (HN : Hid ((mk N1 E1).1 = N1)) (HE : Hid ((mk N1 E1).2 = E1)) :
    Calls Tryz.prog 78 #[.agg #[.bool s, .slice A n c, .int .i64 E1], .agg #[.bool t, .slice B m d, .int .i64 E2]] w (D1 w n N1 E1) := by
  obtain ⟨σ, hσ⟩ : ∃ x, cmpI N1 0 = x := ⟨_, rfl⟩
  have q1 : (σ == 0) = false := by
    have : σ ≠ 0 := fun e => h1 (cmpI_zero.1 (hσ.trans e))
    simpa using this
  have HS := Lib.hid hσ; clear hσ h1
  go_enter Tryz.func78, Tryz.ntmps78
  go_upto_region 1 with (fail)
  generalize hW1 : ((w.alloc _).alloc _).alloc _ = w1 at *; obtain ⟨X1, X2, XR, HB⟩ := Bo.en3 hW1; replace hT := hT.below HB.out; replace h := h.below HB.out; replace k := k.below HB.out; clear hW1; obtain ⟨xX10, xX11, xX12⟩ := X1.u3
  go_wp2_with fail
  refine (wSign h.wr HS.out).mono ?_; rintro ee w2 ⟨rfl, B⟩; clear xX10 xX11 xX12; replace X1 := X1.below B; replace X2 := X2.below B; replace XR := XR.below B; replace hT := hT.below B; replace h := h.below B; replace k := k.below B; replace HB := Lib.hid (bt HB.out B); clear B; obtain ⟨xX20, xX21, xX22⟩ := X2.u3
  go_wp2_with fail
  refine (wSign (r := 0) k.wr (cmpI_eq rfl)).mono ?_; rintro ee w3 ⟨rfl, B⟩; clear xX20 xX21 xX22; replace X1 := X1.below B; replace X2 := X2.below B; replace XR := XR.below B; replace hT := hT.below B; replace h := h.below B; replace k := k.below B; replace HB := Lib.hid (bt HB.out B); clear B; obtain ⟨xX10, xX11, xX12⟩ := X1.u3
  go_wp2_with fail
  refine (dMake hT h.wr (by omega) HN.out HE.out).mono ?_; rintro ee w4 ⟨s4, A4, n4, c4, rfl, p4, k4, B⟩; clear xX10 xX11 xX12; replace X1 := X1.below B; replace X2 := X2.below B; replace XR := XR.below B; replace hT := hT.below B; replace h := h.below B; replace k := k.below B; replace HB := Lib.hid (bt HB.out B); clear B; obtain ⟨xXR0, xXR1, xXR2⟩ := XR.u3; have zXR0 := XR.frozen; go_wp2; clear xXR0 zXR0 xXR1 xXR2
  have SX := StN.mk3 XR (.bool s4) (.slice A4 n4 c4) (.int .i64 E1); replace p4 := p4.stn SX (by simp [no32]); exact bodyPost_ret (v := .agg #[.bool s4, .slice A4 n4 c4, .int .i64 E1]) (by simp [results, Tryz.results78, go_sem, SX.box.cell]) rfl ⟨s4, A4, n4, c4, rfl, p4, k4, (SX.below HB.out (by omega))⟩

set_option maxHeartbeats 4000000 in
theorem dplus_up {w : World} {A B : Option Addr} {n c m d : Nat} {s t : Bool} {N1 N2 E1 E2 N E : Int} (hT : Tab w) (h : Wn w s A n c N1) (k : Wn w t B m d N2) (hn : n ≤ 20000) (hm : m ≤ 20000) (h1 : N1 ≠ 0) (h2 : N2 ≠ 0) (hle : E1 ≤ E2) (hf1 : E1 - E2 ≤ 640000) (hf2 : E2 - E1 ≤ 640000)
    (HN : Hid ((mk (N1 * ((2 ^ (E1 - E1).toNat : Nat) : Int) + N2 * ((2 ^ (E2 - E1).toNat : Nat) : Int)) E1).1 = N)) (HE : Hid ((mk (N1 * ((2 ^ (E1 - E1).toNat : Nat) : Int) + N2 * ((2 ^ (E2 - E1).toNat : Nat) : Int)) E1).2 = E)) :
    Calls Tryz.prog 78 #[.agg #[.bool s, .slice A n c, .int .i64 E1], .agg #[.bool t, .slice B m d, .int .i64 E2]] w (D1 w (n + m + 20010) N E) := by
  obtain ⟨σ, hσ⟩ : ∃ x, cmpI N1 0 = x := ⟨_, rfl⟩
  have q1 : (σ == 0) = false := by
    have : σ ≠ 0 := fun e => h1 (cmpI_zero.1 (hσ.trans e))
    simpa using this
  have HS := Lib.hid hσ; obtain ⟨τ, hτ⟩ : ∃ x, cmpI N2 0 = x := ⟨_, rfl⟩
  have q2 : (τ == 0) = false := by
    have : τ ≠ 0 := fun e => h2 (cmpI_zero.1 (hτ.trans e))
    simpa using this
  have HS2 := Lib.hid hτ; clear hσ hτ h1 h2
  have lt : decide (E2 < E1) = false := by simp; omega
  have HL := Lib.hid lt; clear lt
  go_enter Tryz.func78, Tryz.ntmps78
  go_upto_region 1 with (fail)
  generalize hW1 : ((w.alloc _).alloc _).alloc _ = w1 at *; obtain ⟨X1, X2, XR, HB⟩ := Bo.en3 hW1; replace hT := hT.below HB.out; replace h := h.below HB.out; replace k := k.below HB.out; clear hW1; obtain ⟨xX10, xX11, xX12⟩ := X1.u3
  go_wp2_with fail
  refine (wSign h.wr HS.out).mono ?_; rintro ee w2 ⟨rfl, B⟩; clear xX10 xX11 xX12; replace X1 := X1.below B; replace X2 := X2.below B; replace XR := XR.below B; replace hT := hT.below B; replace h := h.below B; replace k := k.below B; replace HB := Lib.hid (bt HB.out B); clear B; obtain ⟨xX20, xX21, xX22⟩ := X2.u3
  go_wp2_with fail
  refine (wSign k.wr HS2.out).mono ?_; rintro ee w3 ⟨rfl, B⟩; clear xX20 xX21 xX22; replace X1 := X1.below B; replace X2 := X2.below B; replace XR := XR.below B; replace hT := hT.below B; replace h := h.below B; replace k := k.below B; replace HB := Lib.hid (bt HB.out B); clear B; obtain ⟨xX10, xX11, xX12⟩ := X1.u3; obtain ⟨xX20, xX21, xX22⟩ := X2.u3
  go_upto_region 6 with (fail)
  clear xX10 xX11 xX12 xX20 xX21 xX22; refine Jo.rk [0, 1, 2, 3, 4, 5, 6, 7, 8] [some 29, some 30, some 31, some 32, some 33, some 34, some 35, some 36, some 37, none] [[], [], [0, 1], [], [], [3, 4], [2, 5], [], [6, 7], []] 10 1 [Jo.Fact.eq (.agg #[.bool s, .slice A n c, .int .i64 E1]), Jo.qi E1, Jo.Fact.wn (N1 * ((2 ^ (E1 - E1).toNat : Nat) : Int)) (n + (E1 - E1).toNat / 32 + 1), Jo.Fact.eq (.agg #[.bool t, .slice B m d, .int .i64 E2]), Jo.qi E1, Jo.Fact.wn (N2 * ((2 ^ (E2 - E1).toNat : Nat) : Int)) (m + (E2 - E1).toNat / 32 + 1), Jo.Fact.wn (N1 * ((2 ^ (E1 - E1).toNat : Nat) : Int) + N2 * ((2 ^ (E2 - E1).toNat : Nat) : Int)) (n + m + 20010), Jo.qi E1, Jo.Fact.dy N E (n + m + 20010), Jo.Fact.any] (by kernel_rfl) (by kernel_rfl) (by decide) rfl ?_ ?_
  · refine Jo.jm rfl ?_ ?_
    · rintro wj hJ K hK; simp only [Jo.z] at hK ⊢; obtain ⟨xX10, xX11, xX12⟩ := (X1.below hJ).u3; go_simp; exact hK.out _ _ rfl (br _ _)
    refine Jo.jm rfl ?_ ?_
    · rintro wj hJ K hK; simp only [Jo.z] at hK ⊢; go_simp; exact hK.out _ _ rfl (br _ _)
    refine Jo.jm rfl ?_ ?_
    · rintro wj hJ _ rfl _ rfl K hK; simp only [Jo.z] at hK ⊢; go_simp; refine (dTimes (h.below hJ) (by omega) (by omega) (by omega) rfl).mono ?_; rintro ee wk ⟨s5, A5, n5, c5, rfl, p5, k5, B⟩; exact hK.out _ _ ⟨s5, A5, n5, c5, rfl, p5, k5⟩ B
    refine Jo.jm rfl ?_ ?_
    · rintro wj hJ K hK; simp only [Jo.z] at hK ⊢; obtain ⟨xX20, xX21, xX22⟩ := (X2.below hJ).u3; go_simp; exact hK.out _ _ rfl (br _ _)
    refine Jo.jm rfl ?_ ?_
    · rintro wj hJ K hK; simp only [Jo.z] at hK ⊢; go_simp; exact hK.out _ _ rfl (br _ _)
    refine Jo.jm rfl ?_ ?_
    · rintro wj hJ _ rfl _ rfl K hK; simp only [Jo.z] at hK ⊢; go_simp; refine (dTimes (k.below hJ) (by omega) (by omega) (by omega) rfl).mono ?_; rintro ee wk ⟨s6, A6, n6, c6, rfl, p6, k6, B⟩; exact hK.out _ _ ⟨s6, A6, n6, c6, rfl, p6, k6⟩ B
    refine Jo.jm rfl ?_ ?_
    · rintro wj hJ _ ⟨s5, A5, n5, c5, rfl, p5, k5⟩ _ ⟨s6, A6, n6, c6, rfl, p6, k6⟩ K hK; simp only [Jo.z] at hK ⊢; go_simp; refine (wAdd p5.wr p6.wr (by omega) (by omega) rfl).mono ?_; rintro ee wk ⟨s7, A7, n7, c7, rfl, p7, k7, B⟩; exact hK.out _ _ ⟨s7, A7, n7, c7, rfl, p7, by omega⟩ B
    refine Jo.jm rfl ?_ ?_
    · rintro wj hJ K hK; simp only [Jo.z] at hK ⊢; go_simp; exact hK.out _ _ rfl (br _ _)
    refine Jo.jm rfl ?_ ?_
    · rintro wj hJ _ ⟨s7, A7, n7, c7, rfl, p7, k7⟩ _ rfl K hK; simp only [Jo.z] at hK ⊢; go_simp; refine (dMake (hT.below hJ) p7.wr (by omega) HN.out HE.out).mono ?_; rintro ee wk ⟨s4, A4, n4, c4, rfl, p4, k4, B⟩; exact hK.out _ _ ⟨s4, A4, n4, c4, rfl, p4, Nat.le_trans k4 k7⟩ B
    exact Jo.Steps.nil
  rintro w4 hJ _ rfl _ rfl _ ⟨s5, A5, n5, c5, rfl, _, _⟩ _ rfl _ rfl _ ⟨s6, A6, n6, c6, rfl, _, _⟩ _ ⟨s7, A7, n7, c7, rfl, _, _⟩ _ rfl _ ⟨s4, A4, n4, c4, rfl, p4, k4⟩ -; simp only [Jo.z]; replace X1 := X1.below hJ; replace X2 := X2.below hJ; replace XR := XR.below hJ; replace hT := hT.below hJ; replace h := h.below hJ; replace k := k.below hJ; replace HB := Lib.hid (bt HB.out hJ); obtain ⟨xXR0, xXR1, xXR2⟩ := XR.u3
  have zXR0 := XR.frozen
  refine Jo.jnext (i := 9) (o := ⟨none, _, _, _, _, _⟩) (by kernel_rfl) rfl (fun K hK => ?_)
  go_simp; refine hK.out _ _ ?_; clear hK K xXR0 zXR0 xXR1 xXR2; have SX := StN.mk3 XR (.bool s4) (.slice A4 n4 c4) (.int .i64 E); replace p4 := p4.stn SX (by simp [no32]); refine Jo.jdone (by kernel_rfl) ?_; go_wp2; exact bodyPost_ret (v := .agg #[.bool s4, .slice A4 n4 c4, .int .i64 E]) (by simp [results, Tryz.results78, go_sem, SX.box.cell]) rfl ⟨s4, A4, n4, c4, rfl, p4, k4, (SX.below HB.out (by omega))⟩

set_option maxHeartbeats 4000000 in
theorem dplus_dn {w : World} {A B : Option Addr} {n c m d : Nat} {s t : Bool} {N1 N2 E1 E2 N E : Int} (hT : Tab w) (h : Wn w s A n c N1) (k : Wn w t B m d N2) (hn : n ≤ 20000) (hm : m ≤ 20000) (h1 : N1 ≠ 0) (h2 : N2 ≠ 0) (hle : E2 < E1) (hf1 : E1 - E2 ≤ 640000) (hf2 : E2 - E1 ≤ 640000)
    (HN : Hid ((mk (N1 * ((2 ^ (E1 - E2).toNat : Nat) : Int) + N2 * ((2 ^ (E2 - E2).toNat : Nat) : Int)) E2).1 = N)) (HE : Hid ((mk (N1 * ((2 ^ (E1 - E2).toNat : Nat) : Int) + N2 * ((2 ^ (E2 - E2).toNat : Nat) : Int)) E2).2 = E)) :
    Calls Tryz.prog 78 #[.agg #[.bool s, .slice A n c, .int .i64 E1], .agg #[.bool t, .slice B m d, .int .i64 E2]] w (D1 w (n + m + 20010) N E) := by
  obtain ⟨σ, hσ⟩ : ∃ x, cmpI N1 0 = x := ⟨_, rfl⟩
  have q1 : (σ == 0) = false := by
    have : σ ≠ 0 := fun e => h1 (cmpI_zero.1 (hσ.trans e))
    simpa using this
  have HS := Lib.hid hσ; obtain ⟨τ, hτ⟩ : ∃ x, cmpI N2 0 = x := ⟨_, rfl⟩
  have q2 : (τ == 0) = false := by
    have : τ ≠ 0 := fun e => h2 (cmpI_zero.1 (hτ.trans e))
    simpa using this
  have HS2 := Lib.hid hτ; clear hσ hτ h1 h2
  have lt : decide (E2 < E1) = true := by simp; omega
  have HL := Lib.hid lt; clear lt
  go_enter Tryz.func78, Tryz.ntmps78
  go_upto_region 1 with (fail)
  generalize hW1 : ((w.alloc _).alloc _).alloc _ = w1 at *; obtain ⟨X1, X2, XR, HB⟩ := Bo.en3 hW1; replace hT := hT.below HB.out; replace h := h.below HB.out; replace k := k.below HB.out; clear hW1; obtain ⟨xX10, xX11, xX12⟩ := X1.u3
  go_wp2_with fail
  refine (wSign h.wr HS.out).mono ?_; rintro ee w2 ⟨rfl, B⟩; clear xX10 xX11 xX12; replace X1 := X1.below B; replace X2 := X2.below B; replace XR := XR.below B; replace hT := hT.below B; replace h := h.below B; replace k := k.below B; replace HB := Lib.hid (bt HB.out B); clear B; obtain ⟨xX20, xX21, xX22⟩ := X2.u3
  go_wp2_with fail
  refine (wSign k.wr HS2.out).mono ?_; rintro ee w3 ⟨rfl, B⟩; clear xX20 xX21 xX22; replace X1 := X1.below B; replace X2 := X2.below B; replace XR := XR.below B; replace hT := hT.below B; replace h := h.below B; replace k := k.below B; replace HB := Lib.hid (bt HB.out B); clear B; obtain ⟨xX10, xX11, xX12⟩ := X1.u3; obtain ⟨xX20, xX21, xX22⟩ := X2.u3
  go_upto_region 6 with (fail)
  clear xX10 xX11 xX12 xX20 xX21 xX22; refine Jo.rk [0, 1, 2, 3, 4, 5, 6, 7, 8] [some 29, some 30, some 31, some 32, some 33, some 34, some 35, some 36, some 37, none] [[], [], [0, 1], [], [], [3, 4], [2, 5], [], [6, 7], []] 10 1 [Jo.Fact.eq (.agg #[.bool s, .slice A n c, .int .i64 E1]), Jo.qi E2, Jo.Fact.wn (N1 * ((2 ^ (E1 - E2).toNat : Nat) : Int)) (n + (E1 - E2).toNat / 32 + 1), Jo.Fact.eq (.agg #[.bool t, .slice B m d, .int .i64 E2]), Jo.qi E2, Jo.Fact.wn (N2 * ((2 ^ (E2 - E2).toNat : Nat) : Int)) (m + (E2 - E2).toNat / 32 + 1), Jo.Fact.wn (N1 * ((2 ^ (E1 - E2).toNat : Nat) : Int) + N2 * ((2 ^ (E2 - E2).toNat : Nat) : Int)) (n + m + 20010), Jo.qi E2, Jo.Fact.dy N E (n + m + 20010), Jo.Fact.any] (by kernel_rfl) (by kernel_rfl) (by decide) rfl ?_ ?_
  · refine Jo.jm rfl ?_ ?_
    · rintro wj hJ K hK; simp only [Jo.z] at hK ⊢; obtain ⟨xX10, xX11, xX12⟩ := (X1.below hJ).u3; go_simp; exact hK.out _ _ rfl (br _ _)
    refine Jo.jm rfl ?_ ?_
    · rintro wj hJ K hK; simp only [Jo.z] at hK ⊢; go_simp; exact hK.out _ _ rfl (br _ _)
    refine Jo.jm rfl ?_ ?_
    · rintro wj hJ _ rfl _ rfl K hK; simp only [Jo.z] at hK ⊢; go_simp; refine (dTimes (h.below hJ) (by omega) (by omega) (by omega) rfl).mono ?_; rintro ee wk ⟨s5, A5, n5, c5, rfl, p5, k5, B⟩; exact hK.out _ _ ⟨s5, A5, n5, c5, rfl, p5, k5⟩ B
    refine Jo.jm rfl ?_ ?_
    · rintro wj hJ K hK; simp only [Jo.z] at hK ⊢; obtain ⟨xX20, xX21, xX22⟩ := (X2.below hJ).u3; go_simp; exact hK.out _ _ rfl (br _ _)
    refine Jo.jm rfl ?_ ?_
    · rintro wj hJ K hK; simp only [Jo.z] at hK ⊢; go_simp; exact hK.out _ _ rfl (br _ _)
    refine Jo.jm rfl ?_ ?_
    · rintro wj hJ _ rfl _ rfl K hK; simp only [Jo.z] at hK ⊢; go_simp; refine (dTimes (k.below hJ) (by omega) (by omega) (by omega) rfl).mono ?_; rintro ee wk ⟨s6, A6, n6, c6, rfl, p6, k6, B⟩; exact hK.out _ _ ⟨s6, A6, n6, c6, rfl, p6, k6⟩ B
    refine Jo.jm rfl ?_ ?_
    · rintro wj hJ _ ⟨s5, A5, n5, c5, rfl, p5, k5⟩ _ ⟨s6, A6, n6, c6, rfl, p6, k6⟩ K hK; simp only [Jo.z] at hK ⊢; go_simp; refine (wAdd p5.wr p6.wr (by omega) (by omega) rfl).mono ?_; rintro ee wk ⟨s7, A7, n7, c7, rfl, p7, k7, B⟩; exact hK.out _ _ ⟨s7, A7, n7, c7, rfl, p7, by omega⟩ B
    refine Jo.jm rfl ?_ ?_
    · rintro wj hJ K hK; simp only [Jo.z] at hK ⊢; go_simp; exact hK.out _ _ rfl (br _ _)
    refine Jo.jm rfl ?_ ?_
    · rintro wj hJ _ ⟨s7, A7, n7, c7, rfl, p7, k7⟩ _ rfl K hK; simp only [Jo.z] at hK ⊢; go_simp; refine (dMake (hT.below hJ) p7.wr (by omega) HN.out HE.out).mono ?_; rintro ee wk ⟨s4, A4, n4, c4, rfl, p4, k4, B⟩; exact hK.out _ _ ⟨s4, A4, n4, c4, rfl, p4, Nat.le_trans k4 k7⟩ B
    exact Jo.Steps.nil
  rintro w4 hJ _ rfl _ rfl _ ⟨s5, A5, n5, c5, rfl, _, _⟩ _ rfl _ rfl _ ⟨s6, A6, n6, c6, rfl, _, _⟩ _ ⟨s7, A7, n7, c7, rfl, _, _⟩ _ rfl _ ⟨s4, A4, n4, c4, rfl, p4, k4⟩ -; simp only [Jo.z]; replace X1 := X1.below hJ; replace X2 := X2.below hJ; replace XR := XR.below hJ; replace hT := hT.below hJ; replace h := h.below hJ; replace k := k.below hJ; replace HB := Lib.hid (bt HB.out hJ); obtain ⟨xXR0, xXR1, xXR2⟩ := XR.u3
  have zXR0 := XR.frozen
  refine Jo.jnext (i := 9) (o := ⟨none, _, _, _, _, _⟩) (by kernel_rfl) rfl (fun K hK => ?_)
  go_simp; refine hK.out _ _ ?_; clear hK K xXR0 zXR0 xXR1 xXR2; have SX := StN.mk3 XR (.bool s4) (.slice A4 n4 c4) (.int .i64 E); replace p4 := p4.stn SX (by simp [no32]); refine Jo.jdone (by kernel_rfl) ?_; go_wp2; exact bodyPost_ret (v := .agg #[.bool s4, .slice A4 n4 c4, .int .i64 E]) (by simp [results, Tryz.results78, go_sem, SX.box.cell]) rfl ⟨s4, A4, n4, c4, rfl, p4, k4, (SX.below HB.out (by omega))⟩

theorem dPlus {w : World} {A B : Option Addr} {n c m d : Nat} {s t : Bool} {N1 N2 E1 E2 N E : Int} (hT : Tab w) (h : Wn w s A n c N1) (k : Wn w t B m d N2) (hn : n ≤ 20000) (hm : m ≤ 20000) (f1 : Nf (N1, E1)) (f2 : Nf (N2, E2)) (hf : Near (N1, E1) (N2, E2))
    (hN : (pl (N1, E1) (N2, E2)).1 = N) (hE : (pl (N1, E1) (N2, E2)).2 = E) :
    Calls Tryz.prog 78 #[.agg #[.bool s, .slice A n c, .int .i64 E1], .agg #[.bool t, .slice B m d, .int .i64 E2]] w (D1 w (n + m + 20010) N E) := by
  have mono : ∀ K, K ≤ n + m + 20010 → ∀ N E e w', D1 w K N E e w' → D1 w (n + m + 20010) N E e w' := fun K hK N E e w' ⟨s, A, n, c, e1, p, q, b⟩ => ⟨s, A, n, c, e1, p, Nat.le_trans q hK, b⟩
  unfold pl at hN hE
  simp only at hN hE
  by_cases h1 : N1 = 0
  · rw [if_pos h1] at hN hE; subst hN; subst hE; subst h1; exact (dplus_l hT h k (by omega) (Lib.hid (congrArg Prod.fst f2)) (Lib.hid (congrArg Prod.snd f2))).mono (mono _ (by omega) _ _)
  · rw [if_neg h1] at hN hE
    by_cases h2 : N2 = 0
    · rw [if_pos h2] at hN hE; subst hN; subst hE; subst h2; exact (dplus_r hT h k (by omega) h1 (Lib.hid (congrArg Prod.fst f1)) (Lib.hid (congrArg Prod.snd f1))).mono (mono _ (by omega) _ _)
    · rw [if_neg h2] at hN hE; obtain ⟨g1, g2⟩ := hf h1 h2; simp only at g1 g2
      by_cases hle : E1 ≤ E2
      · rw [Int.min_eq_left hle] at hN hE; exact dplus_up hT h k hn hm h1 h2 hle g1 g2 (Lib.hid (by simpa using hN)) (Lib.hid (by simpa using hE))
      · rw [Int.min_eq_right (by omega)] at hN hE; exact dplus_dn hT h k hn hm h1 h2 (by omega) g1 g2 (Lib.hid (by simpa using hN)) (Lib.hid (by simpa using hE))
end Go.Proofs.YteejbcimmmcnlaaGreatDoor
