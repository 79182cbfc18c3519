/-
  Contracts and words that the statement's proof rests on, several texts in one: Ei.
-/
import Derived.Test.YteejbcimmmcnlaaGreatDoorYBaw
/-
  What dy.Floor and Cmp do.
-/
namespace Go.Proofs.YteejbcimmmcnlaaGreatDoor
open Go.RowKit
set_option linter.unusedVariables false
set_option maxRecDepth 100000

set_option maxHeartbeats 4000000 in
theorem dcmp_signs {w : World} {A B : Option Addr} {n c m d : Nat} {s t : Bool} {z e y f N1 E1 N2 E2 σ τ r : Int} (hT : Tab w) (h : Wr w s A n c z) (k : Wr w t B m d y) (hn : n ≤ 100000) (hm : m ≤ 100000) (b1 : -4194304 ≤ E1) (b2 : E1 ≤ 4194304) (b3 : -4194304 ≤ E2) (b4 : E2 ≤ 4194304)
    (HN1 : Hid ((mk z e).1 = N1)) (HE1 : Hid ((mk z e).2 = E1)) (HN2 : Hid ((mk y f).1 = N2)) (HE2 : Hid ((mk y f).2 = E2)) (HS : Hid (cmpI N1 0 = σ)) (HS2 : Hid (cmpI N2 0 = τ)) (hne : σ ≠ τ) (HR : Hid (cmpI σ τ = r)) :
    Calls Tryz.prog 77 #[.agg #[.bool s, .slice A n c, .int .i64 e], .agg #[.bool t, .slice B m d, .int .i64 f]] w (PI w r) := by
  have q1 : (σ != τ) = true := by simpa using hne
  clear hne
  go_enter Tryz.func77, Tryz.ntmps77
  go_upto_region 1 with (fail)
  generalize hW1 : (w.alloc _).alloc _ = w1 at *; obtain ⟨X1, X2, HB⟩ := Bo.en2 hW1; replace hT := hT.below HB.out; replace h := h.below HB.out; replace k := k.below HB.out; clear hW1
  refine Jo.region_joint (T := [0, 1, 2, 3]) (ds := [some 9, some 10, some 11, some 12, none, none]) (ls := [[], [0], [], [2], [], []]) (k := 6) (L := [(some 9, 0), (some 10, 1), (some 11, 2), (some 12, 3)]) (fuel := 2) (J := fun wj => Below (World.heap w1).size w1 wj)
    (F := [Jo.Fact.eq (.agg #[.bool s, .slice A n c, .int .i64 e]), Jo.Fact.dy N1 E1 n, Jo.Fact.eq (.agg #[.bool t, .slice B m d, .int .i64 f]), Jo.Fact.dy N2 E2 m, Jo.Fact.any, Jo.Fact.any])
    (by kernel_rfl) (by kernel_rfl) (by decide) rfl rfl (fun _ _ h b => bt h b) ((br _ _).drew) ?_ (fun vs w2 hJ hd => ?_)
  · refine Jo.jm rfl ?_ ?_
    · rintro wj hJ K hK; simp only [Jo.z] at hK ⊢; obtain ⟨xX10, xX11, xX12⟩ := (X1.below hJ).u3; go_simp; exact hK.out _ _ rfl (br _ _)
    refine Jo.jm rfl ?_ ?_
    · rintro wj hJ _ rfl K hK; simp only [Jo.z] at hK ⊢; go_simp; refine (dTaken (hT.below hJ) (h.below hJ) (by omega) HN1.out HE1.out).mono ?_; rintro ee wk ⟨s1, A1, n1, c1, rfl, p1, k1, B⟩; exact hK.out _ _ ⟨s1, A1, n1, c1, rfl, p1, k1⟩ B
    refine Jo.jm rfl ?_ ?_
    · rintro wj hJ K hK; simp only [Jo.z] at hK ⊢; obtain ⟨xX20, xX21, xX22⟩ := (X2.below hJ).u3; go_simp; exact hK.out _ _ rfl (br _ _)
    refine Jo.jm rfl ?_ ?_
    · rintro wj hJ _ rfl K hK; simp only [Jo.z] at hK ⊢; go_simp; refine (dTaken (hT.below hJ) (k.below hJ) (by omega) HN2.out HE2.out).mono ?_; rintro ee wk ⟨s2, A2, n2, c2, rfl, p2, k2, B⟩; exact hK.out _ _ ⟨s2, A2, n2, c2, rfl, p2, k2⟩ B
    exact Jo.Steps.nil
  have d1 : (Jo.Fact.dy N1 E1 n).P (vs 1) w2 := hd 1 (by decide)
  have d3 : (Jo.Fact.dy N2 E2 m).P (vs 3) w2 := hd 3 (by decide)
  simp only [Jo.putl, Jo.zd, Jo.ze, Act.put, Jo.za, Jo.zb, Jo.zc]
  rw [show vs 0 = _ from hd 0 (by decide), show vs 2 = _ from hd 2 (by decide)]
  clear hd; generalize vs 1 = u1 at d1 ⊢; generalize vs 3 = u3 at d3 ⊢; obtain ⟨s1, A1, n1, c1, rfl, p1, k1⟩ := d1; obtain ⟨s2, A2, n2, c2, rfl, p2, k2⟩ := d3; replace X1 := X1.below hJ; replace X2 := X2.below hJ; replace hT := hT.below hJ; replace h := h.below hJ; replace k := k.below hJ; replace HB := Lib.hid (bt HB.out hJ); obtain ⟨xX10, xX11, xX12⟩ := X1.u3; have zX10 := X1.frozen
  refine Jo.jnext (i := 4) (o := ⟨none, _, _, _, _, _⟩) (by kernel_rfl) rfl (fun K hK => ?_)
  go_simp; refine hK.out _ _ ?_; clear hK K xX10 zX10 xX11 xX12; generalize hS : ((w2.setCell _ _).setCell _ _).setCell _ _ = w3 at *; have SX := StN.of3 X1 hS; replace X2 := X2.stn SX (by omega); replace p1 := p1.stn SX (by simp [no32]); replace p2 := p2.stn SX (by simp [no32]); replace HB := Lib.hid (SX.below HB.out (by omega)); replace X1 := SX.box; clear SX hS; obtain ⟨xX20, xX21, xX22⟩ := X2.u3
  have zX20 := X2.frozen
  refine Jo.jnext (i := 5) (o := ⟨none, _, _, _, _, _⟩) (by kernel_rfl) rfl (fun K hK => ?_)
  go_simp; refine hK.out _ _ ?_; clear hK K xX20 zX20 xX21 xX22; generalize hS : ((w3.setCell _ _).setCell _ _).setCell _ _ = w4 at *; have SX := StN.of3 X2 hS; replace X1 := X1.stn SX (by omega); replace p1 := p1.stn SX (by simp [no32]); replace p2 := p2.stn SX (by simp [no32]); replace HB := Lib.hid (SX.below HB.out (by omega)); replace X2 := SX.box; clear SX hS; refine Jo.jdone (by kernel_rfl) ?_
  go_upto_region 2 with (fail)
  refine Jo.rk [0, 1, 2, 3, 4, 5, 6, 7] [some 13, some 14, some 15, some 16, some 17, some 18, some 5, some 6] [[], [0], [1], [], [3], [4], [2], [5]] 8 0 [Jo.qp w.heap.size 0, Jo.Fact.eq (.agg #[.bool s1, .slice A1 n1 c1]), Jo.qi σ, Jo.qp (w.heap.size + 1) 0, Jo.Fact.eq (.agg #[.bool s2, .slice A2 n2 c2]), Jo.qi τ, Jo.qi σ, Jo.qi τ] (by kernel_rfl) (by kernel_rfl) (by decide) rfl ?_ ?_
  · refine Jo.jm rfl ?_ ?_
    · rintro wj hJ K hK; simp only [Jo.z] at hK ⊢; go_simp; exact hK.out _ _ rfl (br _ _)
    refine Jo.jm rfl ?_ ?_
    · rintro wj hJ _ rfl K hK; simp only [Jo.z] at hK ⊢; obtain ⟨xX10, xX11, xX12⟩ := (X1.below hJ).u3; go_simp; exact hK.out _ _ rfl (br _ _)
    refine Jo.jm rfl ?_ ?_
    · rintro wj hJ _ rfl K hK; simp only [Jo.z] at hK ⊢; go_simp; refine (wSign (p1.below hJ).wr HS.out).mono ?_; rintro ee wk ⟨rfl, B⟩; exact hK.out _ _ rfl B
    refine Jo.jm rfl ?_ ?_
    · rintro wj hJ K hK; simp only [Jo.z] at hK ⊢; go_simp; exact hK.out _ _ rfl (br _ _)
    refine Jo.jm rfl ?_ ?_
    · rintro wj hJ _ rfl K hK; simp only [Jo.z] at hK ⊢; obtain ⟨xX20, xX21, xX22⟩ := (X2.below hJ).u3; go_simp; exact hK.out _ _ rfl (br _ _)
    refine Jo.jm rfl ?_ ?_
    · rintro wj hJ _ rfl K hK; simp only [Jo.z] at hK ⊢; go_simp; refine (wSign (p2.below hJ).wr HS2.out).mono ?_; rintro ee wk ⟨rfl, B⟩; exact hK.out _ _ rfl B
    refine Jo.jm rfl ?_ ?_
    · rintro wj hJ _ rfl K hK; simp only [Jo.z] at hK ⊢; go_simp; exact hK.out _ _ rfl (br _ _)
    refine Jo.jm rfl ?_ ?_
    · rintro wj hJ _ rfl K hK; simp only [Jo.z] at hK ⊢; go_simp; exact hK.out _ _ rfl (br _ _)
    exact Jo.Steps.nil
  rintro w5 hJ _ _ _ rfl _ rfl _ _ _ rfl _ rfl _ rfl _ rfl -; simp only [Jo.z]; replace X1 := X1.below hJ; replace X2 := X2.below hJ; replace p1 := p1.below hJ; replace p2 := p2.below hJ; replace HB := Lib.hid (bt HB.out hJ); refine Jo.jdone (by kernel_rfl) ?_
  go_wp2_with (first | (go_at_call 86; ((with_reducible refine (compareInt_any _ _ _).mono ?_); rintro ee w6 ⟨rfl, rfl⟩)))
  go_ret
  exact ⟨ret_int HR.out, HB.out⟩

set_option maxHeartbeats 4000000 in
theorem dcmp_tops {w : World} {A B : Option Addr} {n c m d : Nat} {s t : Bool} {z e y f N1 E1 N2 E2 σ τ x1 x2 p r : Int} (hT : Tab w) (h : Wr w s A n c z) (k : Wr w t B m d y) (hn : n ≤ 100000) (hm : m ≤ 100000) (b1 : -4194304 ≤ E1) (b2 : E1 ≤ 4194304) (b3 : -4194304 ≤ E2) (b4 : E2 ≤ 4194304)
    (HN1 : Hid ((mk z e).1 = N1)) (HE1 : Hid ((mk z e).2 = E1)) (HN2 : Hid ((mk y f).1 = N2)) (HE2 : Hid ((mk y f).2 = E2)) (HS : Hid (cmpI N1 0 = σ)) (HS2 : Hid (cmpI N2 0 = τ)) (heq : σ = τ) (HX1 : Hid (((blen N1.natAbs : Nat) : Int) + E1 = x1)) (HX2 : Hid (((blen N2.natAbs : Nat) : Int) + E2 = x2)) (HP : Hid (cmpI x1 x2 = p)) (hp : p ≠ 0) (HR : Hid (σ * p = r)) :
    Calls Tryz.prog 77 #[.agg #[.bool s, .slice A n c, .int .i64 e], .agg #[.bool t, .slice B m d, .int .i64 f]] w (PI w r) := by
  subst heq
  have q1 : (σ != σ) = false := by simp
  have q2 : (p != 0) = true := by simpa using hp
  have bs : -1 ≤ σ ∧ σ ≤ 1 := HS.out ▸ cmpI_bd _ _
  have bp : -1 ≤ p ∧ p ≤ 1 := HP.out ▸ cmpI_bd _ _
  have HW : Hid (IntKind.i64.wrap (σ * p) = r) := Lib.hid (by
    rw [← HR.out]; refine IntWalk.i64_in _ ?_; obtain ⟨s1, s2⟩ := bs; obtain ⟨p1, p2⟩ := bp
    rcases (by omega : σ = -1 ∨ σ = 0 ∨ σ = 1) with e | e | e <;> rcases (by omega : p = -1 ∨ p = 0 ∨ p = 1) with e2 | e2 | e2 <;> rw [e, e2] <;> decide)
  clear hp bs bp
  go_enter Tryz.func77, Tryz.ntmps77
  go_upto_region 1 with (fail)
  generalize hW1 : (w.alloc _).alloc _ = w1 at *; obtain ⟨X1, X2, HB⟩ := Bo.en2 hW1; replace hT := hT.below HB.out; replace h := h.below HB.out; replace k := k.below HB.out; clear hW1
  refine Jo.region_joint (T := [0, 1, 2, 3]) (ds := [some 9, some 10, some 11, some 12, none, none]) (ls := [[], [0], [], [2], [], []]) (k := 6) (L := [(some 9, 0), (some 10, 1), (some 11, 2), (some 12, 3)]) (fuel := 2) (J := fun wj => Below (World.heap w1).size w1 wj)
    (F := [Jo.Fact.eq (.agg #[.bool s, .slice A n c, .int .i64 e]), Jo.Fact.dy N1 E1 n, Jo.Fact.eq (.agg #[.bool t, .slice B m d, .int .i64 f]), Jo.Fact.dy N2 E2 m, Jo.Fact.any, Jo.Fact.any])
    (by kernel_rfl) (by kernel_rfl) (by decide) rfl rfl (fun _ _ h b => bt h b) ((br _ _).drew) ?_ (fun vs w2 hJ hd => ?_)
  · refine Jo.jm rfl ?_ ?_
    · rintro wj hJ K hK; simp only [Jo.z] at hK ⊢; obtain ⟨xX10, xX11, xX12⟩ := (X1.below hJ).u3; go_simp; exact hK.out _ _ rfl (br _ _)
    refine Jo.jm rfl ?_ ?_
    · rintro wj hJ _ rfl K hK; simp only [Jo.z] at hK ⊢; go_simp; refine (dTaken (hT.below hJ) (h.below hJ) (by omega) HN1.out HE1.out).mono ?_; rintro ee wk ⟨s1, A1, n1, c1, rfl, p1, k1, B⟩; exact hK.out _ _ ⟨s1, A1, n1, c1, rfl, p1, k1⟩ B
    refine Jo.jm rfl ?_ ?_
    · rintro wj hJ K hK; simp only [Jo.z] at hK ⊢; obtain ⟨xX20, xX21, xX22⟩ := (X2.below hJ).u3; go_simp; exact hK.out _ _ rfl (br _ _)
    refine Jo.jm rfl ?_ ?_
    · rintro wj hJ _ rfl K hK; simp only [Jo.z] at hK ⊢; go_simp; refine (dTaken (hT.below hJ) (k.below hJ) (by omega) HN2.out HE2.out).mono ?_; rintro ee wk ⟨s2, A2, n2, c2, rfl, p2, k2, B⟩; exact hK.out _ _ ⟨s2, A2, n2, c2, rfl, p2, k2⟩ B
    exact Jo.Steps.nil
  have d1 : (Jo.Fact.dy N1 E1 n).P (vs 1) w2 := hd 1 (by decide)
  have d3 : (Jo.Fact.dy N2 E2 m).P (vs 3) w2 := hd 3 (by decide)
  simp only [Jo.putl, Jo.zd, Jo.ze, Act.put, Jo.za, Jo.zb, Jo.zc]
  rw [show vs 0 = _ from hd 0 (by decide), show vs 2 = _ from hd 2 (by decide)]
  clear hd; generalize vs 1 = u1 at d1 ⊢; generalize vs 3 = u3 at d3 ⊢; obtain ⟨s1, A1, n1, c1, rfl, p1, k1⟩ := d1; obtain ⟨s2, A2, n2, c2, rfl, p2, k2⟩ := d3; replace X1 := X1.below hJ; replace X2 := X2.below hJ; replace hT := hT.below hJ; replace h := h.below hJ; replace k := k.below hJ; replace HB := Lib.hid (bt HB.out hJ); obtain ⟨xX10, xX11, xX12⟩ := X1.u3; have zX10 := X1.frozen
  refine Jo.jnext (i := 4) (o := ⟨none, _, _, _, _, _⟩) (by kernel_rfl) rfl (fun K hK => ?_)
  go_simp; refine hK.out _ _ ?_; clear hK K xX10 zX10 xX11 xX12; generalize hS : ((w2.setCell _ _).setCell _ _).setCell _ _ = w3 at *; have SX := StN.of3 X1 hS; replace X2 := X2.stn SX (by omega); replace p1 := p1.stn SX (by simp [no32]); replace p2 := p2.stn SX (by simp [no32]); replace HB := Lib.hid (SX.below HB.out (by omega)); replace X1 := SX.box; clear SX hS; obtain ⟨xX20, xX21, xX22⟩ := X2.u3
  have zX20 := X2.frozen
  refine Jo.jnext (i := 5) (o := ⟨none, _, _, _, _, _⟩) (by kernel_rfl) rfl (fun K hK => ?_)
  go_simp; refine hK.out _ _ ?_; clear hK K xX20 zX20 xX21 xX22; generalize hS : ((w3.setCell _ _).setCell _ _).setCell _ _ = w4 at *; have SX := StN.of3 X2 hS; replace X1 := X1.stn SX (by omega); replace p1 := p1.stn SX (by simp [no32]); replace p2 := p2.stn SX (by simp [no32]); replace HB := Lib.hid (SX.below HB.out (by omega)); replace X2 := SX.box; clear SX hS; refine Jo.jdone (by kernel_rfl) ?_
  go_upto_region 2 with (fail)
  refine Jo.region_joint (T := [0, 1, 2, 3, 4, 5, 6, 7]) (ds := [some 13, some 14, some 15, some 16, some 17, some 18, some 5, some 6]) (ls := [[], [0], [1], [], [3], [4], [2], [5]]) (k := 8) (L := [(some 13, 0), (some 14, 1), (some 15, 2), (some 16, 3), (some 17, 4), (some 18, 5), (some 5, 6), (some 6, 7)]) (fuel := 0) (J := fun wj => Below (World.heap w4).size w4 wj)
    (F := [Jo.qp w.heap.size 0, Jo.Fact.eq (.agg #[.bool s1, .slice A1 n1 c1]), Jo.qi σ, Jo.qp (w.heap.size + 1) 0, Jo.Fact.eq (.agg #[.bool s2, .slice A2 n2 c2]), Jo.qi σ, Jo.qi σ, Jo.qi σ])
    (by kernel_rfl) (by kernel_rfl) (by decide) rfl rfl (fun _ _ h b => bt h b) ((br _ _).drew) ?_ (fun vs w5 hJ hd => ?_)
  · refine Jo.jm rfl ?_ ?_
    · rintro wj hJ K hK; simp only [Jo.z] at hK ⊢; go_simp; exact hK.out _ _ rfl (br _ _)
    refine Jo.jm rfl ?_ ?_
    · rintro wj hJ _ rfl K hK; simp only [Jo.z] at hK ⊢; obtain ⟨xX10, xX11, xX12⟩ := (X1.below hJ).u3; go_simp; exact hK.out _ _ rfl (br _ _)
    refine Jo.jm rfl ?_ ?_
    · rintro wj hJ _ rfl K hK; simp only [Jo.z] at hK ⊢; go_simp; refine (wSign (p1.below hJ).wr HS.out).mono ?_; rintro ee wk ⟨rfl, B⟩; exact hK.out _ _ rfl B
    refine Jo.jm rfl ?_ ?_
    · rintro wj hJ K hK; simp only [Jo.z] at hK ⊢; go_simp; exact hK.out _ _ rfl (br _ _)
    refine Jo.jm rfl ?_ ?_
    · rintro wj hJ _ rfl K hK; simp only [Jo.z] at hK ⊢; obtain ⟨xX20, xX21, xX22⟩ := (X2.below hJ).u3; go_simp; exact hK.out _ _ rfl (br _ _)
    refine Jo.jm rfl ?_ ?_
    · rintro wj hJ _ rfl K hK; simp only [Jo.z] at hK ⊢; go_simp; refine (wSign (p2.below hJ).wr HS2.out).mono ?_; rintro ee wk ⟨rfl, B⟩; exact hK.out _ _ rfl B
    refine Jo.jm rfl ?_ ?_
    · rintro wj hJ _ rfl K hK; simp only [Jo.z] at hK ⊢; go_simp; exact hK.out _ _ rfl (br _ _)
    refine Jo.jm rfl ?_ ?_
    · rintro wj hJ _ rfl K hK; simp only [Jo.z] at hK ⊢; go_simp; exact hK.out _ _ rfl (br _ _)
    exact Jo.Steps.nil
  simp only [Jo.putl, Jo.zd, Jo.ze, Act.put, Jo.za, Jo.zb, Jo.zc]
  rw [show vs 1 = _ from hd 1 (by decide), show vs 2 = _ from hd 2 (by decide), show vs 4 = _ from hd 4 (by decide), show vs 5 = _ from hd 5 (by decide), show vs 6 = _ from hd 6 (by decide), show vs 7 = _ from hd 7 (by decide)]
  clear hd; replace X1 := X1.below hJ; replace X2 := X2.below hJ; replace p1 := p1.below hJ; replace p2 := p2.below hJ; replace HB := Lib.hid (bt HB.out hJ); refine Jo.jdone (by kernel_rfl) ?_
  go_upto_region 5 with (fail)
  refine Jo.rk [0, 1, 2, 3, 4, 5] [some 25, some 26, some 27, some 28, some 29, some 7] [[], [0], [], [2], [1, 3], [4]] 6 0 [Jo.Fact.eq (.agg #[.bool s1, .slice A1 n1 c1, .int .i64 E1]), Jo.qi x1, Jo.Fact.eq (.agg #[.bool s2, .slice A2 n2 c2, .int .i64 E2]), Jo.qi x2, Jo.qi p, Jo.qi p] (by kernel_rfl) (by kernel_rfl) (by decide) rfl ?_ ?_
  · refine Jo.jm rfl ?_ ?_
    · rintro wj hJ K hK; simp only [Jo.z] at hK ⊢; obtain ⟨xX10, xX11, xX12⟩ := (X1.below hJ).u3; go_simp; exact hK.out _ _ rfl (br _ _)
    refine Jo.jm rfl ?_ ?_
    · rintro wj hJ _ rfl K hK; simp only [Jo.z] at hK ⊢; go_simp; refine (dHighest (p1.below hJ) (by omega) b1 b2 HX1.out).mono ?_; rintro ee wk ⟨rfl, B⟩; exact hK.out _ _ rfl B
    refine Jo.jm rfl ?_ ?_
    · rintro wj hJ K hK; simp only [Jo.z] at hK ⊢; obtain ⟨xX20, xX21, xX22⟩ := (X2.below hJ).u3; go_simp; exact hK.out _ _ rfl (br _ _)
    refine Jo.jm rfl ?_ ?_
    · rintro wj hJ _ rfl K hK; simp only [Jo.z] at hK ⊢; go_simp; refine (dHighest (p2.below hJ) (by omega) b3 b4 HX2.out).mono ?_; rintro ee wk ⟨rfl, B⟩; exact hK.out _ _ rfl B
    refine Jo.jm rfl ?_ ?_
    · rintro wj hJ _ rfl _ rfl K hK; simp only [Jo.z] at hK ⊢; go_simp; refine (compareInt_any x1 x2 wj).mono ?_; rintro ee wk ⟨rfl, rfl⟩; exact hK.out _ _ (val_int HP.out) (br _ _)
    refine Jo.jm rfl ?_ ?_
    · rintro wj hJ _ rfl K hK; simp only [Jo.z] at hK ⊢; go_simp; exact hK.out _ _ rfl (br _ _)
    exact Jo.Steps.nil
  rintro w6 hJ _ rfl _ rfl _ rfl _ rfl _ rfl _ rfl -; simp only [Jo.z]; replace X1 := X1.below hJ; replace X2 := X2.below hJ; replace p1 := p1.below hJ; replace p2 := p2.below hJ; replace HB := Lib.hid (bt HB.out hJ); refine Jo.jdone (by kernel_rfl) ?_; have hw := HW.out; go_wp2
  go_ret
  exact ⟨rfl, HB.out⟩

set_option maxHeartbeats 4000000 in
theorem dcmp_up {w : World} {A B : Option Addr} {n c m d : Nat} {s t : Bool} {z e y f N1 E1 N2 E2 σ τ x1 x2 p r : Int} (hT : Tab w) (h : Wr w s A n c z) (k : Wr w t B m d y) (hn : n ≤ 100000) (hm : m ≤ 100000) (b1 : -4194304 ≤ E1) (b2 : E1 ≤ 4194304) (b3 : -4194304 ≤ E2) (b4 : E2 ≤ 4194304)
    (HN1 : Hid ((mk z e).1 = N1)) (HE1 : Hid ((mk z e).2 = E1)) (HN2 : Hid ((mk y f).1 = N2)) (HE2 : Hid ((mk y f).2 = E2)) (HS : Hid (cmpI N1 0 = σ)) (HS2 : Hid (cmpI N2 0 = τ)) (heq : σ = τ) (HX1 : Hid (((blen N1.natAbs : Nat) : Int) + E1 = x1)) (HX2 : Hid (((blen N2.natAbs : Nat) : Int) + E2 = x2)) (HP : Hid (cmpI x1 x2 = p)) (hp : p = 0) (hle : E1 ≤ E2) (HR : Hid (cmpI (N1 * ((2 ^ (E1 - E1).toNat : Nat) : Int)) (N2 * ((2 ^ (E2 - E1).toNat : Nat) : Int)) = r)) :
    Calls Tryz.prog 77 #[.agg #[.bool s, .slice A n c, .int .i64 e], .agg #[.bool t, .slice B m d, .int .i64 f]] w (PI w r) := by
  subst heq
  have q3 : (p != 0) = false := by simpa using hp
  clear hp
  have q1 : (σ != σ) = false := by simp
  have q2 : decide (E2 < E1) = false := by simp; omega
  go_enter Tryz.func77, Tryz.ntmps77
  go_upto_region 1 with (fail)
  generalize hW1 : (w.alloc _).alloc _ = w1 at *; obtain ⟨X1, X2, HB⟩ := Bo.en2 hW1; replace hT := hT.below HB.out; replace h := h.below HB.out; replace k := k.below HB.out; clear hW1
  refine Jo.region_joint (T := [0, 1, 2, 3]) (ds := [some 9, some 10, some 11, some 12, none, none]) (ls := [[], [0], [], [2], [], []]) (k := 6) (L := [(some 9, 0), (some 10, 1), (some 11, 2), (some 12, 3)]) (fuel := 2) (J := fun wj => Below (World.heap w1).size w1 wj)
    (F := [Jo.Fact.eq (.agg #[.bool s, .slice A n c, .int .i64 e]), Jo.Fact.dy N1 E1 n, Jo.Fact.eq (.agg #[.bool t, .slice B m d, .int .i64 f]), Jo.Fact.dy N2 E2 m, Jo.Fact.any, Jo.Fact.any])
    (by kernel_rfl) (by kernel_rfl) (by decide) rfl rfl (fun _ _ h b => bt h b) ((br _ _).drew) ?_ (fun vs w2 hJ hd => ?_)
  · refine Jo.jm rfl ?_ ?_
    · rintro wj hJ K hK; simp only [Jo.z] at hK ⊢; obtain ⟨xX10, xX11, xX12⟩ := (X1.below hJ).u3; go_simp; exact hK.out _ _ rfl (br _ _)
    refine Jo.jm rfl ?_ ?_
    · rintro wj hJ _ rfl K hK; simp only [Jo.z] at hK ⊢; go_simp; refine (dTaken (hT.below hJ) (h.below hJ) (by omega) HN1.out HE1.out).mono ?_; rintro ee wk ⟨s1, A1, n1, c1, rfl, p1, k1, B⟩; exact hK.out _ _ ⟨s1, A1, n1, c1, rfl, p1, k1⟩ B
    refine Jo.jm rfl ?_ ?_
    · rintro wj hJ K hK; simp only [Jo.z] at hK ⊢; obtain ⟨xX20, xX21, xX22⟩ := (X2.below hJ).u3; go_simp; exact hK.out _ _ rfl (br _ _)
    refine Jo.jm rfl ?_ ?_
    · rintro wj hJ _ rfl K hK; simp only [Jo.z] at hK ⊢; go_simp; refine (dTaken (hT.below hJ) (k.below hJ) (by omega) HN2.out HE2.out).mono ?_; rintro ee wk ⟨s2, A2, n2, c2, rfl, p2, k2, B⟩; exact hK.out _ _ ⟨s2, A2, n2, c2, rfl, p2, k2⟩ B
    exact Jo.Steps.nil
  have d1 : (Jo.Fact.dy N1 E1 n).P (vs 1) w2 := hd 1 (by decide)
  have d3 : (Jo.Fact.dy N2 E2 m).P (vs 3) w2 := hd 3 (by decide)
  simp only [Jo.putl, Jo.zd, Jo.ze, Act.put, Jo.za, Jo.zb, Jo.zc]
  rw [show vs 0 = _ from hd 0 (by decide), show vs 2 = _ from hd 2 (by decide)]
  clear hd; generalize vs 1 = u1 at d1 ⊢; generalize vs 3 = u3 at d3 ⊢; obtain ⟨s1, A1, n1, c1, rfl, p1, k1⟩ := d1; obtain ⟨s2, A2, n2, c2, rfl, p2, k2⟩ := d3; replace X1 := X1.below hJ; replace X2 := X2.below hJ; replace hT := hT.below hJ; replace h := h.below hJ; replace k := k.below hJ; replace HB := Lib.hid (bt HB.out hJ); obtain ⟨xX10, xX11, xX12⟩ := X1.u3; have zX10 := X1.frozen
  refine Jo.jnext (i := 4) (o := ⟨none, _, _, _, _, _⟩) (by kernel_rfl) rfl (fun K hK => ?_)
  go_simp; refine hK.out _ _ ?_; clear hK K xX10 zX10 xX11 xX12; generalize hS : ((w2.setCell _ _).setCell _ _).setCell _ _ = w3 at *; have SX := StN.of3 X1 hS; replace X2 := X2.stn SX (by omega); replace p1 := p1.stn SX (by simp [no32]); replace p2 := p2.stn SX (by simp [no32]); replace HB := Lib.hid (SX.below HB.out (by omega)); replace X1 := SX.box; clear SX hS; obtain ⟨xX20, xX21, xX22⟩ := X2.u3
  have zX20 := X2.frozen
  refine Jo.jnext (i := 5) (o := ⟨none, _, _, _, _, _⟩) (by kernel_rfl) rfl (fun K hK => ?_)
  go_simp; refine hK.out _ _ ?_; clear hK K xX20 zX20 xX21 xX22; generalize hS : ((w3.setCell _ _).setCell _ _).setCell _ _ = w4 at *; have SX := StN.of3 X2 hS; replace X1 := X1.stn SX (by omega); replace p1 := p1.stn SX (by simp [no32]); replace p2 := p2.stn SX (by simp [no32]); replace HB := Lib.hid (SX.below HB.out (by omega)); replace X2 := SX.box; clear SX hS; refine Jo.jdone (by kernel_rfl) ?_
  go_upto_region 2 with (fail)
  refine Jo.region_joint (T := [0, 1, 2, 3, 4, 5, 6, 7]) (ds := [some 13, some 14, some 15, some 16, some 17, some 18, some 5, some 6]) (ls := [[], [0], [1], [], [3], [4], [2], [5]]) (k := 8) (L := [(some 13, 0), (some 14, 1), (some 15, 2), (some 16, 3), (some 17, 4), (some 18, 5), (some 5, 6), (some 6, 7)]) (fuel := 0) (J := fun wj => Below (World.heap w4).size w4 wj)
    (F := [Jo.qp w.heap.size 0, Jo.Fact.eq (.agg #[.bool s1, .slice A1 n1 c1]), Jo.qi σ, Jo.qp (w.heap.size + 1) 0, Jo.Fact.eq (.agg #[.bool s2, .slice A2 n2 c2]), Jo.qi σ, Jo.qi σ, Jo.qi σ])
    (by kernel_rfl) (by kernel_rfl) (by decide) rfl rfl (fun _ _ h b => bt h b) ((br _ _).drew) ?_ (fun vs w5 hJ hd => ?_)
  · refine Jo.jm rfl ?_ ?_
    · rintro wj hJ K hK; simp only [Jo.z] at hK ⊢; go_simp; exact hK.out _ _ rfl (br _ _)
    refine Jo.jm rfl ?_ ?_
    · rintro wj hJ _ rfl K hK; simp only [Jo.z] at hK ⊢; obtain ⟨xX10, xX11, xX12⟩ := (X1.below hJ).u3; go_simp; exact hK.out _ _ rfl (br _ _)
    refine Jo.jm rfl ?_ ?_
    · rintro wj hJ _ rfl K hK; simp only [Jo.z] at hK ⊢; go_simp; refine (wSign (p1.below hJ).wr HS.out).mono ?_; rintro ee wk ⟨rfl, B⟩; exact hK.out _ _ rfl B
    refine Jo.jm rfl ?_ ?_
    · rintro wj hJ K hK; simp only [Jo.z] at hK ⊢; go_simp; exact hK.out _ _ rfl (br _ _)
    refine Jo.jm rfl ?_ ?_
    · rintro wj hJ _ rfl K hK; simp only [Jo.z] at hK ⊢; obtain ⟨xX20, xX21, xX22⟩ := (X2.below hJ).u3; go_simp; exact hK.out _ _ rfl (br _ _)
    refine Jo.jm rfl ?_ ?_
    · rintro wj hJ _ rfl K hK; simp only [Jo.z] at hK ⊢; go_simp; refine (wSign (p2.below hJ).wr HS2.out).mono ?_; rintro ee wk ⟨rfl, B⟩; exact hK.out _ _ rfl B
    refine Jo.jm rfl ?_ ?_
    · rintro wj hJ _ rfl K hK; simp only [Jo.z] at hK ⊢; go_simp; exact hK.out _ _ rfl (br _ _)
    refine Jo.jm rfl ?_ ?_
    · rintro wj hJ _ rfl K hK; simp only [Jo.z] at hK ⊢; go_simp; exact hK.out _ _ rfl (br _ _)
    exact Jo.Steps.nil
  simp only [Jo.putl, Jo.zd, Jo.ze, Act.put, Jo.za, Jo.zb, Jo.zc]
  rw [show vs 1 = _ from hd 1 (by decide), show vs 2 = _ from hd 2 (by decide), show vs 4 = _ from hd 4 (by decide), show vs 5 = _ from hd 5 (by decide), show vs 6 = _ from hd 6 (by decide), show vs 7 = _ from hd 7 (by decide)]
  clear hd; replace X1 := X1.below hJ; replace X2 := X2.below hJ; replace p1 := p1.below hJ; replace p2 := p2.below hJ; replace HB := Lib.hid (bt HB.out hJ); refine Jo.jdone (by kernel_rfl) ?_
  go_upto_region 5 with (fail)
  refine Jo.region_joint (T := [0, 1, 2, 3, 4, 5]) (ds := [some 25, some 26, some 27, some 28, some 29, some 7]) (ls := [[], [0], [], [2], [1, 3], [4]]) (k := 6) (L := [(some 25, 0), (some 26, 1), (some 27, 2), (some 28, 3), (some 29, 4), (some 7, 5)]) (fuel := 0) (J := fun wj => Below (World.heap w5).size w5 wj)
    (F := [Jo.Fact.eq (.agg #[.bool s1, .slice A1 n1 c1, .int .i64 E1]), Jo.qi x1, Jo.Fact.eq (.agg #[.bool s2, .slice A2 n2 c2, .int .i64 E2]), Jo.qi x2, Jo.qi p, Jo.qi p])
    (by kernel_rfl) (by kernel_rfl) (by decide) rfl rfl (fun _ _ h b => bt h b) ((br _ _).drew) ?_ (fun vs w6 hJ hd => ?_)
  · refine Jo.jm rfl ?_ ?_
    · rintro wj hJ K hK; simp only [Jo.z] at hK ⊢; obtain ⟨xX10, xX11, xX12⟩ := (X1.below hJ).u3; go_simp; exact hK.out _ _ rfl (br _ _)
    refine Jo.jm rfl ?_ ?_
    · rintro wj hJ _ rfl K hK; simp only [Jo.z] at hK ⊢; go_simp; refine (dHighest (p1.below hJ) (by omega) b1 b2 HX1.out).mono ?_; rintro ee wk ⟨rfl, B⟩; exact hK.out _ _ rfl B
    refine Jo.jm rfl ?_ ?_
    · rintro wj hJ K hK; simp only [Jo.z] at hK ⊢; obtain ⟨xX20, xX21, xX22⟩ := (X2.below hJ).u3; go_simp; exact hK.out _ _ rfl (br _ _)
    refine Jo.jm rfl ?_ ?_
    · rintro wj hJ _ rfl K hK; simp only [Jo.z] at hK ⊢; go_simp; refine (dHighest (p2.below hJ) (by omega) b3 b4 HX2.out).mono ?_; rintro ee wk ⟨rfl, B⟩; exact hK.out _ _ rfl B
    refine Jo.jm rfl ?_ ?_
    · rintro wj hJ _ rfl _ rfl K hK; simp only [Jo.z] at hK ⊢; go_simp; refine (compareInt_any x1 x2 wj).mono ?_; rintro ee wk ⟨rfl, rfl⟩; exact hK.out _ _ (val_int HP.out) (br _ _)
    refine Jo.jm rfl ?_ ?_
    · rintro wj hJ _ rfl K hK; simp only [Jo.z] at hK ⊢; go_simp; exact hK.out _ _ rfl (br _ _)
    exact Jo.Steps.nil
  simp only [Jo.putl, Jo.zd, Jo.ze, Act.put, Jo.za, Jo.zb, Jo.zc]
  rw [show vs 0 = _ from hd 0 (by decide), show vs 1 = _ from hd 1 (by decide), show vs 2 = _ from hd 2 (by decide), show vs 3 = _ from hd 3 (by decide), show vs 4 = _ from hd 4 (by decide), show vs 5 = _ from hd 5 (by decide)]
  clear hd; replace X1 := X1.below hJ; replace X2 := X2.below hJ; replace p1 := p1.below hJ; replace p2 := p2.below hJ; replace HB := Lib.hid (bt HB.out hJ); refine Jo.jdone (by kernel_rfl) ?_; obtain ⟨xX10, xX11, xX12⟩ := X1.u3; obtain ⟨xX20, xX21, xX22⟩ := X2.u3
  go_upto_region 9 with (fail)
  clear xX10 xX11 xX12 xX20 xX21 xX22; refine Jo.rk [0, 1, 2, 3, 4, 5, 6, 7] [some 40, some 41, some 42, some 43, some 44, some 45, some 46, some 4] [[], [], [0, 1], [], [], [3, 4], [2, 5], [6]] 8 0 [Jo.Fact.eq (.agg #[.bool s1, .slice A1 n1 c1, .int .i64 E1]), Jo.qi E1, Jo.Fact.wn (N1 * ((2 ^ (E1 - E1).toNat : Nat) : Int)) (n + 262200), Jo.Fact.eq (.agg #[.bool s2, .slice A2 n2 c2, .int .i64 E2]), Jo.qi E1, Jo.Fact.wn (N2 * ((2 ^ (E2 - E1).toNat : Nat) : Int)) (m + 262200), Jo.qi r, Jo.qi r] (by kernel_rfl) (by kernel_rfl) (by decide) rfl ?_ ?_
  · refine Jo.jm rfl ?_ ?_
    · rintro wj hJ K hK; simp only [Jo.z] at hK ⊢; obtain ⟨xX10, xX11, xX12⟩ := (X1.below hJ).u3; go_simp; exact hK.out _ _ rfl (br _ _)
    refine Jo.jm rfl ?_ ?_
    · rintro wj hJ K hK; simp only [Jo.z] at hK ⊢; go_simp; exact hK.out _ _ rfl (br _ _)
    refine Jo.jm rfl ?_ ?_
    · rintro wj hJ _ rfl _ rfl K hK; simp only [Jo.z] at hK ⊢; go_simp; refine (dTimes (p1.below hJ) (by omega) (by omega) (by omega) rfl).mono ?_; rintro ee wk ⟨s5, A5, n5, c5, rfl, p5, k5, B⟩; exact hK.out _ _ ⟨s5, A5, n5, c5, rfl, p5, by omega⟩ B
    refine Jo.jm rfl ?_ ?_
    · rintro wj hJ K hK; simp only [Jo.z] at hK ⊢; obtain ⟨xX20, xX21, xX22⟩ := (X2.below hJ).u3; go_simp; exact hK.out _ _ rfl (br _ _)
    refine Jo.jm rfl ?_ ?_
    · rintro wj hJ K hK; simp only [Jo.z] at hK ⊢; go_simp; exact hK.out _ _ rfl (br _ _)
    refine Jo.jm rfl ?_ ?_
    · rintro wj hJ _ rfl _ rfl K hK; simp only [Jo.z] at hK ⊢; go_simp; refine (dTimes (p2.below hJ) (by omega) (by omega) (by omega) rfl).mono ?_; rintro ee wk ⟨s6, A6, n6, c6, rfl, p6, k6, B⟩; exact hK.out _ _ ⟨s6, A6, n6, c6, rfl, p6, by omega⟩ B
    refine Jo.jm rfl ?_ ?_
    · rintro wj hJ _ ⟨s5, A5, n5, c5, rfl, p5, k5⟩ _ ⟨s6, A6, n6, c6, rfl, p6, k6⟩ K hK; simp only [Jo.z] at hK ⊢; go_simp; refine (wCmp p5.wr p6.wr HR.out).mono ?_; rintro ee wk ⟨rfl, B⟩; exact hK.out _ _ rfl B
    refine Jo.jm rfl ?_ ?_
    · rintro wj hJ _ rfl K hK; simp only [Jo.z] at hK ⊢; go_simp; exact hK.out _ _ rfl (br _ _)
    exact Jo.Steps.nil
  rintro w7 hJ _ rfl _ rfl _ ⟨s5, A5, n5, c5, rfl, _, _⟩ _ rfl _ rfl _ ⟨s6, A6, n6, c6, rfl, _, _⟩ _ rfl _ rfl -; simp only [Jo.z]; replace X1 := X1.below hJ; replace X2 := X2.below hJ; replace p1 := p1.below hJ; replace p2 := p2.below hJ; replace HB := Lib.hid (bt HB.out hJ); refine Jo.jdone (by kernel_rfl) ?_; go_wp2
  go_ret
  exact ⟨rfl, HB.out⟩

set_option maxHeartbeats 4000000 in
theorem dcmp_dn {w : World} {A B : Option Addr} {n c m d : Nat} {s t : Bool} {z e y f N1 E1 N2 E2 σ τ x1 x2 p r : Int} (hT : Tab w) (h : Wr w s A n c z) (k : Wr w t B m d y) (hn : n ≤ 100000) (hm : m ≤ 100000) (b1 : -4194304 ≤ E1) (b2 : E1 ≤ 4194304) (b3 : -4194304 ≤ E2) (b4 : E2 ≤ 4194304)
    (HN1 : Hid ((mk z e).1 = N1)) (HE1 : Hid ((mk z e).2 = E1)) (HN2 : Hid ((mk y f).1 = N2)) (HE2 : Hid ((mk y f).2 = E2)) (HS : Hid (cmpI N1 0 = σ)) (HS2 : Hid (cmpI N2 0 = τ)) (heq : σ = τ) (HX1 : Hid (((blen N1.natAbs : Nat) : Int) + E1 = x1)) (HX2 : Hid (((blen N2.natAbs : Nat) : Int) + E2 = x2)) (HP : Hid (cmpI x1 x2 = p)) (hp : p = 0) (hle : E2 < E1) (HR : Hid (cmpI (N1 * ((2 ^ (E1 - E2).toNat : Nat) : Int)) (N2 * ((2 ^ (E2 - E2).toNat : Nat) : Int)) = r)) :
    Calls Tryz.prog 77 #[.agg #[.bool s, .slice A n c, .int .i64 e], .agg #[.bool t, .slice B m d, .int .i64 f]] w (PI w r) := by
  subst heq
  have q3 : (p != 0) = false := by simpa using hp
  clear hp
  have q1 : (σ != σ) = false := by simp
  have q2 : decide (E2 < E1) = true := by simp; omega
  go_enter Tryz.func77, Tryz.ntmps77
  go_upto_region 1 with (fail)
  generalize hW1 : (w.alloc _).alloc _ = w1 at *; obtain ⟨X1, X2, HB⟩ := Bo.en2 hW1; replace hT := hT.below HB.out; replace h := h.below HB.out; replace k := k.below HB.out; clear hW1
  refine Jo.region_joint (T := [0, 1, 2, 3]) (ds := [some 9, some 10, some 11, some 12, none, none]) (ls := [[], [0], [], [2], [], []]) (k := 6) (L := [(some 9, 0), (some 10, 1), (some 11, 2), (some 12, 3)]) (fuel := 2) (J := fun wj => Below (World.heap w1).size w1 wj)
    (F := [Jo.Fact.eq (.agg #[.bool s, .slice A n c, .int .i64 e]), Jo.Fact.dy N1 E1 n, Jo.Fact.eq (.agg #[.bool t, .slice B m d, .int .i64 f]), Jo.Fact.dy N2 E2 m, Jo.Fact.any, Jo.Fact.any])
    (by kernel_rfl) (by kernel_rfl) (by decide) rfl rfl (fun _ _ h b => bt h b) ((br _ _).drew) ?_ (fun vs w2 hJ hd => ?_)
  · refine Jo.jm rfl ?_ ?_
    · rintro wj hJ K hK; simp only [Jo.z] at hK ⊢; obtain ⟨xX10, xX11, xX12⟩ := (X1.below hJ).u3; go_simp; exact hK.out _ _ rfl (br _ _)
    refine Jo.jm rfl ?_ ?_
    · rintro wj hJ _ rfl K hK; simp only [Jo.z] at hK ⊢; go_simp; refine (dTaken (hT.below hJ) (h.below hJ) (by omega) HN1.out HE1.out).mono ?_; rintro ee wk ⟨s1, A1, n1, c1, rfl, p1, k1, B⟩; exact hK.out _ _ ⟨s1, A1, n1, c1, rfl, p1, k1⟩ B
    refine Jo.jm rfl ?_ ?_
    · rintro wj hJ K hK; simp only [Jo.z] at hK ⊢; obtain ⟨xX20, xX21, xX22⟩ := (X2.below hJ).u3; go_simp; exact hK.out _ _ rfl (br _ _)
    refine Jo.jm rfl ?_ ?_
    · rintro wj hJ _ rfl K hK; simp only [Jo.z] at hK ⊢; go_simp; refine (dTaken (hT.below hJ) (k.below hJ) (by omega) HN2.out HE2.out).mono ?_; rintro ee wk ⟨s2, A2, n2, c2, rfl, p2, k2, B⟩; exact hK.out _ _ ⟨s2, A2, n2, c2, rfl, p2, k2⟩ B
    exact Jo.Steps.nil
  have d1 : (Jo.Fact.dy N1 E1 n).P (vs 1) w2 := hd 1 (by decide)
  have d3 : (Jo.Fact.dy N2 E2 m).P (vs 3) w2 := hd 3 (by decide)
  simp only [Jo.putl, Jo.zd, Jo.ze, Act.put, Jo.za, Jo.zb, Jo.zc]
  rw [show vs 0 = _ from hd 0 (by decide), show vs 2 = _ from hd 2 (by decide)]
  clear hd; generalize vs 1 = u1 at d1 ⊢; generalize vs 3 = u3 at d3 ⊢; obtain ⟨s1, A1, n1, c1, rfl, p1, k1⟩ := d1; obtain ⟨s2, A2, n2, c2, rfl, p2, k2⟩ := d3; replace X1 := X1.below hJ; replace X2 := X2.below hJ; replace hT := hT.below hJ; replace h := h.below hJ; replace k := k.below hJ; replace HB := Lib.hid (bt HB.out hJ); obtain ⟨xX10, xX11, xX12⟩ := X1.u3; have zX10 := X1.frozen
  refine Jo.jnext (i := 4) (o := ⟨none, _, _, _, _, _⟩) (by kernel_rfl) rfl (fun K hK => ?_)
  go_simp; refine hK.out _ _ ?_; clear hK K xX10 zX10 xX11 xX12; generalize hS : ((w2.setCell _ _).setCell _ _).setCell _ _ = w3 at *; have SX := StN.of3 X1 hS; replace X2 := X2.stn SX (by omega); replace p1 := p1.stn SX (by simp [no32]); replace p2 := p2.stn SX (by simp [no32]); replace HB := Lib.hid (SX.below HB.out (by omega)); replace X1 := SX.box; clear SX hS; obtain ⟨xX20, xX21, xX22⟩ := X2.u3
  have zX20 := X2.frozen
  refine Jo.jnext (i := 5) (o := ⟨none, _, _, _, _, _⟩) (by kernel_rfl) rfl (fun K hK => ?_)
  go_simp; refine hK.out _ _ ?_; clear hK K xX20 zX20 xX21 xX22; generalize hS : ((w3.setCell _ _).setCell _ _).setCell _ _ = w4 at *; have SX := StN.of3 X2 hS; replace X1 := X1.stn SX (by omega); replace p1 := p1.stn SX (by simp [no32]); replace p2 := p2.stn SX (by simp [no32]); replace HB := Lib.hid (SX.below HB.out (by omega)); replace X2 := SX.box; clear SX hS; refine Jo.jdone (by kernel_rfl) ?_
  go_upto_region 2 with (fail)
  refine Jo.region_joint (T := [0, 1, 2, 3, 4, 5, 6, 7]) (ds := [some 13, some 14, some 15, some 16, some 17, some 18, some 5, some 6]) (ls := [[], [0], [1], [], [3], [4], [2], [5]]) (k := 8) (L := [(some 13, 0), (some 14, 1), (some 15, 2), (some 16, 3), (some 17, 4), (some 18, 5), (some 5, 6), (some 6, 7)]) (fuel := 0) (J := fun wj => Below (World.heap w4).size w4 wj)
    (F := [Jo.qp w.heap.size 0, Jo.Fact.eq (.agg #[.bool s1, .slice A1 n1 c1]), Jo.qi σ, Jo.qp (w.heap.size + 1) 0, Jo.Fact.eq (.agg #[.bool s2, .slice A2 n2 c2]), Jo.qi σ, Jo.qi σ, Jo.qi σ])
    (by kernel_rfl) (by kernel_rfl) (by decide) rfl rfl (fun _ _ h b => bt h b) ((br _ _).drew) ?_ (fun vs w5 hJ hd => ?_)
  · refine Jo.jm rfl ?_ ?_
    · rintro wj hJ K hK; simp only [Jo.z] at hK ⊢; go_simp; exact hK.out _ _ rfl (br _ _)
    refine Jo.jm rfl ?_ ?_
    · rintro wj hJ _ rfl K hK; simp only [Jo.z] at hK ⊢; obtain ⟨xX10, xX11, xX12⟩ := (X1.below hJ).u3; go_simp; exact hK.out _ _ rfl (br _ _)
    refine Jo.jm rfl ?_ ?_
    · rintro wj hJ _ rfl K hK; simp only [Jo.z] at hK ⊢; go_simp; refine (wSign (p1.below hJ).wr HS.out).mono ?_; rintro ee wk ⟨rfl, B⟩; exact hK.out _ _ rfl B
    refine Jo.jm rfl ?_ ?_
    · rintro wj hJ K hK; simp only [Jo.z] at hK ⊢; go_simp; exact hK.out _ _ rfl (br _ _)
    refine Jo.jm rfl ?_ ?_
    · rintro wj hJ _ rfl K hK; simp only [Jo.z] at hK ⊢; obtain ⟨xX20, xX21, xX22⟩ := (X2.below hJ).u3; go_simp; exact hK.out _ _ rfl (br _ _)
    refine Jo.jm rfl ?_ ?_
    · rintro wj hJ _ rfl K hK; simp only [Jo.z] at hK ⊢; go_simp; refine (wSign (p2.below hJ).wr HS2.out).mono ?_; rintro ee wk ⟨rfl, B⟩; exact hK.out _ _ rfl B
    refine Jo.jm rfl ?_ ?_
    · rintro wj hJ _ rfl K hK; simp only [Jo.z] at hK ⊢; go_simp; exact hK.out _ _ rfl (br _ _)
    refine Jo.jm rfl ?_ ?_
    · rintro wj hJ _ rfl K hK; simp only [Jo.z] at hK ⊢; go_simp; exact hK.out _ _ rfl (br _ _)
    exact Jo.Steps.nil
  simp only [Jo.putl, Jo.zd, Jo.ze, Act.put, Jo.za, Jo.zb, Jo.zc]
  rw [show vs 1 = _ from hd 1 (by decide), show vs 2 = _ from hd 2 (by decide), show vs 4 = _ from hd 4 (by decide), show vs 5 = _ from hd 5 (by decide), show vs 6 = _ from hd 6 (by decide), show vs 7 = _ from hd 7 (by decide)]
  clear hd; replace X1 := X1.below hJ; replace X2 := X2.below hJ; replace p1 := p1.below hJ; replace p2 := p2.below hJ; replace HB := Lib.hid (bt HB.out hJ); refine Jo.jdone (by kernel_rfl) ?_
  go_upto_region 5 with (fail)
  refine Jo.region_joint (T := [0, 1, 2, 3, 4, 5]) (ds := [some 25, some 26, some 27, some 28, some 29, some 7]) (ls := [[], [0], [], [2], [1, 3], [4]]) (k := 6) (L := [(some 25, 0), (some 26, 1), (some 27, 2), (some 28, 3), (some 29, 4), (some 7, 5)]) (fuel := 0) (J := fun wj => Below (World.heap w5).size w5 wj)
    (F := [Jo.Fact.eq (.agg #[.bool s1, .slice A1 n1 c1, .int .i64 E1]), Jo.qi x1, Jo.Fact.eq (.agg #[.bool s2, .slice A2 n2 c2, .int .i64 E2]), Jo.qi x2, Jo.qi p, Jo.qi p])
    (by kernel_rfl) (by kernel_rfl) (by decide) rfl rfl (fun _ _ h b => bt h b) ((br _ _).drew) ?_ (fun vs w6 hJ hd => ?_)
  · refine Jo.jm rfl ?_ ?_
    · rintro wj hJ K hK; simp only [Jo.z] at hK ⊢; obtain ⟨xX10, xX11, xX12⟩ := (X1.below hJ).u3; go_simp; exact hK.out _ _ rfl (br _ _)
    refine Jo.jm rfl ?_ ?_
    · rintro wj hJ _ rfl K hK; simp only [Jo.z] at hK ⊢; go_simp; refine (dHighest (p1.below hJ) (by omega) b1 b2 HX1.out).mono ?_; rintro ee wk ⟨rfl, B⟩; exact hK.out _ _ rfl B
    refine Jo.jm rfl ?_ ?_
    · rintro wj hJ K hK; simp only [Jo.z] at hK ⊢; obtain ⟨xX20, xX21, xX22⟩ := (X2.below hJ).u3; go_simp; exact hK.out _ _ rfl (br _ _)
    refine Jo.jm rfl ?_ ?_
    · rintro wj hJ _ rfl K hK; simp only [Jo.z] at hK ⊢; go_simp; refine (dHighest (p2.below hJ) (by omega) b3 b4 HX2.out).mono ?_; rintro ee wk ⟨rfl, B⟩; exact hK.out _ _ rfl B
    refine Jo.jm rfl ?_ ?_
    · rintro wj hJ _ rfl _ rfl K hK; simp only [Jo.z] at hK ⊢; go_simp; refine (compareInt_any x1 x2 wj).mono ?_; rintro ee wk ⟨rfl, rfl⟩; exact hK.out _ _ (val_int HP.out) (br _ _)
    refine Jo.jm rfl ?_ ?_
    · rintro wj hJ _ rfl K hK; simp only [Jo.z] at hK ⊢; go_simp; exact hK.out _ _ rfl (br _ _)
    exact Jo.Steps.nil
  simp only [Jo.putl, Jo.zd, Jo.ze, Act.put, Jo.za, Jo.zb, Jo.zc]
  rw [show vs 0 = _ from hd 0 (by decide), show vs 1 = _ from hd 1 (by decide), show vs 2 = _ from hd 2 (by decide), show vs 3 = _ from hd 3 (by decide), show vs 4 = _ from hd 4 (by decide), show vs 5 = _ from hd 5 (by decide)]
  clear hd; replace X1 := X1.below hJ; replace X2 := X2.below hJ; replace p1 := p1.below hJ; replace p2 := p2.below hJ; replace HB := Lib.hid (bt HB.out hJ); refine Jo.jdone (by kernel_rfl) ?_; obtain ⟨xX10, xX11, xX12⟩ := X1.u3; obtain ⟨xX20, xX21, xX22⟩ := X2.u3
  go_upto_region 9 with (fail)
  clear xX10 xX11 xX12 xX20 xX21 xX22; refine Jo.rk [0, 1, 2, 3, 4, 5, 6, 7] [some 40, some 41, some 42, some 43, some 44, some 45, some 46, some 4] [[], [], [0, 1], [], [], [3, 4], [2, 5], [6]] 8 0 [Jo.Fact.eq (.agg #[.bool s1, .slice A1 n1 c1, .int .i64 E1]), Jo.qi E2, Jo.Fact.wn (N1 * ((2 ^ (E1 - E2).toNat : Nat) : Int)) (n + 262200), Jo.Fact.eq (.agg #[.bool s2, .slice A2 n2 c2, .int .i64 E2]), Jo.qi E2, Jo.Fact.wn (N2 * ((2 ^ (E2 - E2).toNat : Nat) : Int)) (m + 262200), Jo.qi r, Jo.qi r] (by kernel_rfl) (by kernel_rfl) (by decide) rfl ?_ ?_
  · refine Jo.jm rfl ?_ ?_
    · rintro wj hJ K hK; simp only [Jo.z] at hK ⊢; obtain ⟨xX10, xX11, xX12⟩ := (X1.below hJ).u3; go_simp; exact hK.out _ _ rfl (br _ _)
    refine Jo.jm rfl ?_ ?_
    · rintro wj hJ K hK; simp only [Jo.z] at hK ⊢; go_simp; exact hK.out _ _ rfl (br _ _)
    refine Jo.jm rfl ?_ ?_
    · rintro wj hJ _ rfl _ rfl K hK; simp only [Jo.z] at hK ⊢; go_simp; refine (dTimes (p1.below hJ) (by omega) (by omega) (by omega) rfl).mono ?_; rintro ee wk ⟨s5, A5, n5, c5, rfl, p5, k5, B⟩; exact hK.out _ _ ⟨s5, A5, n5, c5, rfl, p5, by omega⟩ B
    refine Jo.jm rfl ?_ ?_
    · rintro wj hJ K hK; simp only [Jo.z] at hK ⊢; obtain ⟨xX20, xX21, xX22⟩ := (X2.below hJ).u3; go_simp; exact hK.out _ _ rfl (br _ _)
    refine Jo.jm rfl ?_ ?_
    · rintro wj hJ K hK; simp only [Jo.z] at hK ⊢; go_simp; exact hK.out _ _ rfl (br _ _)
    refine Jo.jm rfl ?_ ?_
    · rintro wj hJ _ rfl _ rfl K hK; simp only [Jo.z] at hK ⊢; go_simp; refine (dTimes (p2.below hJ) (by omega) (by omega) (by omega) rfl).mono ?_; rintro ee wk ⟨s6, A6, n6, c6, rfl, p6, k6, B⟩; exact hK.out _ _ ⟨s6, A6, n6, c6, rfl, p6, by omega⟩ B
    refine Jo.jm rfl ?_ ?_
    · rintro wj hJ _ ⟨s5, A5, n5, c5, rfl, p5, k5⟩ _ ⟨s6, A6, n6, c6, rfl, p6, k6⟩ K hK; simp only [Jo.z] at hK ⊢; go_simp; refine (wCmp p5.wr p6.wr HR.out).mono ?_; rintro ee wk ⟨rfl, B⟩; exact hK.out _ _ rfl B
    refine Jo.jm rfl ?_ ?_
    · rintro wj hJ _ rfl K hK; simp only [Jo.z] at hK ⊢; go_simp; exact hK.out _ _ rfl (br _ _)
    exact Jo.Steps.nil
  rintro w7 hJ _ rfl _ rfl _ ⟨s5, A5, n5, c5, rfl, _, _⟩ _ rfl _ rfl _ ⟨s6, A6, n6, c6, rfl, _, _⟩ _ rfl _ rfl -; simp only [Jo.z]; replace X1 := X1.below hJ; replace X2 := X2.below hJ; replace p1 := p1.below hJ; replace p2 := p2.below hJ; replace HB := Lib.hid (bt HB.out hJ); refine Jo.jdone (by kernel_rfl) ?_; go_wp2
  go_ret
  exact ⟨rfl, HB.out⟩

theorem dCmp {w : World} {A B : Option Addr} {n c m d : Nat} {s t : Bool} {z e y f r : Int} (hT : Tab w) (h : Wr w s A n c z) (k : Wr w t B m d y) (hn : n ≤ 100000) (hm : m ≤ 100000) (hr : cmpI (vl (mk z e)) (vl (mk y f)) = r) :
    Calls Tryz.prog 77 #[.agg #[.bool s, .slice A n c, .int .i64 e], .agg #[.bool t, .slice B m d, .int .i64 f]] w (PI w r) := by
  obtain ⟨b1, b2⟩ := mk_bd z e; obtain ⟨b3, b4⟩ := mk_bd y f
  by_cases hs : cmpI (mk z e).1 0 = cmpI (mk y f).1 0
  · by_cases hp : cmpI (((blen (mk z e).1.natAbs : Nat) : Int) + (mk z e).2) (((blen (mk y f).1.natAbs : Nat) : Int) + (mk y f).2) = 0
    · by_cases hle : (mk z e).2 ≤ (mk y f).2
      · refine dcmp_up hT h k hn hm b1 b2 b3 b4 (Lib.hid rfl) (Lib.hid rfl) (Lib.hid rfl) (Lib.hid rfl) (Lib.hid rfl) (Lib.hid rfl) hs (Lib.hid rfl) (Lib.hid rfl) (Lib.hid rfl) hp hle (Lib.hid ?_); rw [← hr, ← vl_cmp_low (Int.le_refl (mk z e).2) hle b1]
        simp
      · refine dcmp_dn hT h k hn hm b1 b2 b3 b4 (Lib.hid rfl) (Lib.hid rfl) (Lib.hid rfl) (Lib.hid rfl) (Lib.hid rfl) (Lib.hid rfl) hs (Lib.hid rfl) (Lib.hid rfl) (Lib.hid rfl) hp (by omega) (Lib.hid ?_); rw [← hr, ← vl_cmp_low (l := (mk y f).2) (by omega) (Int.le_refl _) b3]
        simp
    · refine dcmp_tops hT h k hn hm b1 b2 b3 b4 (Lib.hid rfl) (Lib.hid rfl) (Lib.hid rfl) (Lib.hid rfl) (Lib.hid rfl) (Lib.hid rfl) hs (Lib.hid rfl) (Lib.hid rfl) (Lib.hid rfl) hp (Lib.hid ?_); rw [← hr]; exact vl_cmp_top (mk_nf _ _) (mk_nf _ _) hs rfl hp
  · refine dcmp_signs hT h k hn hm b1 b2 b3 b4 (Lib.hid rfl) (Lib.hid rfl) (Lib.hid rfl) (Lib.hid rfl) (Lib.hid rfl) (Lib.hid rfl) hs (Lib.hid ?_); rw [← hr, ← vl_sign, ← vl_sign]; exact cmp_signs (by rw [vl_sign, vl_sign]; exact hs)
end Go.Proofs.YteejbcimmmcnlaaGreatDoor
