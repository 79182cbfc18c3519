/-
  Contracts and words that the statement's proof rests on, several texts in one: Eh.
-/
import Derived.Test.YteejbcimmmcnlaaGreatDoorYBav
/-
  What dy.Add and Sub do.
-/
namespace Go.Proofs.YteejbcimmmcnlaaGreatDoor
open Go.RowKit
set_option linter.unusedVariables false
set_option maxRecDepth 100000

def DAddInv (w : World) (g3 : Nat) (l : List (Int × Int)) (k : Nat) (wr : World) : Prop :=
  ∃ s A n c, Bo wr w.heap.size #[.bool false, .slice none 0 0, .int .i64 0] 42 ∧ Bo wr g3 #[.bool s, .slice A n c, .int .i64 (smd (l.take k)).2] 42 ∧ Wn wr s A n c (smd (l.take k)).1 ∧ Below w.heap.size w wr
set_option maxRecDepth 20000 in
set_option maxHeartbeats 4000000 in
theorem dAdd {w : World} {A : Option Addr} {n c K : Nat} {l : List (Int × Int)} {N E : Int} (hT : Tab w) (h : Dl w A n c K l) (hK : K ≤ 20000) (hC : Can l) (hN : (smd l).1 = N) (hE : (smd l).2 = E) :
    Calls Tryz.prog 32 #[.slice A n c] w (D1 w 20000 N E) := by
  have HN := Lib.hid hN; have HE := Lib.hid hE; have HC := Lib.hid hC; have HLn := Lib.hid h.1; have hcap := h.2.1; have hbig := h.2.2.1; have hT0 := hT; have hD0 := h; clear hN hE hC
  go_enter Tryz.func32, Tryz.ntmps32
  go_upto_region 1 with (fail)
  generalize hW1 : w.alloc _ = w1 at *; obtain ⟨XR, HB⟩ := Bo.en1 hW1; replace hT := hT.below HB.out; replace h := h.below HB.out; clear hW1
  go_upto_region 2 with (fail)
  have hg3 := XR.lt; replace XR := XR.below (bel1 _ (.cells #[.bool false, .slice none 0 0, .int .i64 0] 42)); replace hT := hT.below (bel1 _ (.cells #[.bool false, .slice none 0 0, .int .i64 0] 42)); replace h := h.below (bel1 _ (.cells #[.bool false, .slice none 0 0, .int .i64 0] 42)); replace HB := Lib.hid (bt HB.out (bel1 _ (.cells #[.bool false, .slice none 0 0, .int .i64 0] 42))); have X3 := Bo.new w1 #[.bool false, .slice none 0 0, .int .i64 0] 42
  generalize hWn : w1.alloc (.cells #[.bool false, .slice none 0 0, .int .i64 0] 42) = w2 at *; clear hWn
  go_wp2_with fail
  generalize w1.heap.size = g3 at *; clear hT h w1
  go_loopw [9] (fun i wr => ∃ k : Nat, k ≤ n ∧ i = .int .i64 k ∧ DAddInv w g3 l k wr) (fun i _ => n - (intOf i).toNat)
  case atStart => exact ⟨0, Nat.zero_le _, rfl, false, none, 0, 0, XR, X3, Wn.zero, HB.out⟩
  case round =>
    obtain ⟨k, hk, rfl, hI⟩ := hrel; obtain ⟨s, B, p, d, XR, X3, hw, hB⟩ := hI; have HB := Lib.hid hB; have hT := hT0.below hB; have h := hD0.below hB; clear hB
    by_cases hlt : k < n
    · obtain ⟨b, o, rfl, hcell⟩ := h.2.2.2 (by omega); obtain ⟨t, D, q, e, c0, c1, c2, hv, hq⟩ := hcell k hlt; clear hcell h hD0; obtain ⟨l1, l2, l3⟩ := HC.out k (by rw [HLn.out]; exact hlt); have hp := hw.lm l1; have HT := Lib.hid (smd_take (by rw [HLn.out]; exact hlt : k < l.length)); have HF1 := Lib.hid (smd_nf (l.take k)); generalize hS : smd (l.take (k + 1)) = S at *; generalize smd (l.take k) = R at *
      generalize hP : l.getD k (0, 0) = P at *; obtain ⟨N1, E1⟩ := R; obtain ⟨z2, e2⟩ := P; simp only at hv c2 X3 hw l1 l2
      have HT := Lib.hid (show S = pl (N1, E1) (mk z2 e2) from HT.out)
      have hnf2 := mk_nf z2 e2; obtain ⟨Q, hQ⟩ : ∃ x, mk z2 e2 = x := ⟨_, rfl⟩; rw [hQ] at l2 hnf2; have HT := Lib.hid (hQ ▸ HT.out); obtain ⟨N2, E2⟩ := Q; have HQ1 := Lib.hid (congrArg Prod.fst hQ); have HQ2 := Lib.hid (congrArg Prod.snd hQ); have HF2 := Lib.hid hnf2; clear hQ hnf2; have HL2 := Lib.hid l2; have HL3 := Lib.hid l3; have HS := Lib.hid hS; clear l1 l2 l3 hS hP
      have i1 : (k : Int) < n := by omega
      have i2 : (0 : Int) ≤ k := by omega
      go_upto_region 5 with (fail)
      have hgd := X3.lt; replace XR := XR.below (bel1 _ (.cells #[.bool t, .slice D q e, .int .i64 e2] 42)); replace X3 := X3.below (bel1 _ (.cells #[.bool t, .slice D q e, .int .i64 e2] 42)); replace hT := hT.below (bel1 _ (.cells #[.bool t, .slice D q e, .int .i64 e2] 42)); replace hw := hw.below (bel1 _ (.cells #[.bool t, .slice D q e, .int .i64 e2] 42)); replace hv := hv.below (bel1 _ (.cells #[.bool t, .slice D q e, .int .i64 e2] 42))
      replace HB := Lib.hid (bt HB.out (bel1 _ (.cells #[.bool t, .slice D q e, .int .i64 e2] 42))); have X5 := Bo.new wr #[.bool t, .slice D q e, .int .i64 e2] 42; generalize hWn : wr.alloc (.cells #[.bool t, .slice D q e, .int .i64 e2] 42) = w3 at *; clear hWn; clear c0 c1 c2; refine Jo.rk [0, 1, 2, 3] [some 13, some 14, some 15, some 16, none] [[], [], [1], [0, 2], []] 5 1 [Jo.Fact.eq (.agg #[.bool s, .slice B p d, .int .i64 E1]), Jo.Fact.eq (.agg #[.bool t, .slice D q e, .int .i64 e2]), Jo.Fact.dy N2 E2 q, Jo.Fact.dy S.1 S.2 20000, Jo.Fact.any] (by kernel_rfl) (by kernel_rfl) (by decide) rfl ?_ ?_
      · refine Jo.jm rfl ?_ ?_
        · rintro wj hJ K hK; simp only [Jo.z] at hK ⊢; obtain ⟨xX30, xX31, xX32⟩ := (X3.below hJ).u3; go_simp; exact hK.out _ _ rfl (br _ _)
        refine Jo.jm rfl ?_ ?_
        · rintro wj hJ K hK; simp only [Jo.z] at hK ⊢; obtain ⟨xX50, xX51, xX52⟩ := (X5.below hJ).u3; go_simp; exact hK.out _ _ rfl (br _ _)
        refine Jo.jm rfl ?_ ?_
        · rintro wj hJ _ rfl K hK; simp only [Jo.z] at hK ⊢; go_simp; refine (dTaken (hT.below hJ) (hv.below hJ) (by omega) HQ1.out HQ2.out).mono ?_; rintro ee wk ⟨s2, A2, n2, c2, rfl, p2, k2, B⟩; exact hK.out _ _ ⟨s2, A2, n2, c2, rfl, p2, k2⟩ B
        refine Jo.jm rfl ?_ ?_
        · rintro wj hJ _ rfl _ ⟨s2, A2, n2, c2, rfl, p2, k2⟩ K hK; simp only [Jo.z] at hK ⊢; go_simp; refine (dPlus (N := S.1) (E := S.2) (hT.below hJ) (hw.below hJ) p2 hp (by omega) HF1.out HF2.out HL2.out (congrArg Prod.fst HT.out.symm) (congrArg Prod.snd HT.out.symm)).mono ?_; rintro ee wk ⟨s4, A4, n4, c4, rfl, p4, k4, B⟩; exact hK.out _ _ ⟨s4, A4, n4, c4, rfl, p4, p4.lm HL3.out⟩ B
        exact Jo.Steps.nil
      rintro w4 hJ _ rfl _ rfl _ ⟨s2, A2, n2, c2, rfl, _, _⟩ _ ⟨s4, A4, n4, c4, rfl, p4, k4⟩ -; simp only [Jo.z]; replace XR := XR.below hJ; replace X3 := X3.below hJ; replace X5 := X5.below hJ; replace hT := hT.below hJ; replace hw := hw.below hJ; replace hv := hv.below hJ; replace HB := Lib.hid (bt HB.out hJ); obtain ⟨xX30, xX31, xX32⟩ := X3.u3; have zX30 := X3.frozen
      refine Jo.jnext (i := 4) (o := ⟨none, _, _, _, _, _⟩) (by kernel_rfl) rfl (fun K hK => ?_)
      go_simp; refine hK.out _ _ ?_; clear hK K xX30 zX30 xX31 xX32; generalize hS : ((w4.setCell _ _).setCell _ _).setCell _ _ = w5 at *; have SX := StN.of3 X3 hS; replace XR := XR.stn SX (by omega); replace p4 := p4.stn SX (by simp [no32]); replace HB := Lib.hid (SX.below HB.out (by omega)); replace X3 := SX.box; clear SX hS; refine Jo.jdone (by kernel_rfl) ?_; go_wp2
      go_roundw
      case rel =>
        refine ⟨k + 1, by omega, by go_num, s4, A4, n4, c4, XR, ?_, ?_, HB.out⟩
        · rw [HS.out]; exact X3
        · rw [HS.out]; exact p4
      case measure => simp [intOf]; omega
    · obtain rfl : k = n := by omega
      have HR : Hid (smd (l.take k) = smd l) := Lib.hid (by rw [List.take_of_length_le (by rw [HLn.out]; omega)])
      have HL : Hid (Lm (smd l).1 ∨ k = 0) := Lib.hid (by
        rcases Nat.eq_zero_or_pos k with e | e
        · exact .inr e
        · have := (HC.out (k - 1) (by rw [HLn.out]; omega)).2.2
          rw [show k - 1 + 1 = k by omega, List.take_of_length_le (by rw [HLn.out]; omega)] at this
          exact .inl this)
      rw [HR.out, HN.out] at hw; rw [HR.out, HE.out] at X3
      have hp : p ≤ 20000 := by
        rcases HL.out with e | e
        · rw [HN.out] at e; exact hw.lm e
        · have e0 := HR.out; rw [e] at e0
          have : N = 0 := by rw [← HN.out, ← e0]; rfl
          rw [this] at hw
          have := hw.1.pos
          simp at this
          omega
      obtain ⟨xX30, xX31, xX32⟩ := X3.u3; have zXR0 := XR.frozen 0; have zXR1 := XR.frozen 1; have zXR2 := XR.frozen 2; have y0 := XR.cell 0; have y1 := XR.cell 1; have y2 := XR.cell 2; go_wp2; clear xX30 xX31 xX32; clear zXR0 zXR1 zXR2 y0 y1 y2; have SX := StN.mk3 XR (.bool s) (.slice B p d) (.int .i64 E); replace hw := hw.stn SX (by simp [no32]); exact bodyPost_ret (v := .agg #[.bool s, .slice B p d, .int .i64 E]) (by simp [results, Tryz.results32, go_sem, SX.box.cell]) rfl ⟨s, B, p, d, rfl, hw, hp, (SX.below HB.out (by omega))⟩

theorem smd_two (a b : Int × Int) : smd [a, b] = pl (mk a.1 a.2) (mk b.1 b.2) := rfl
set_option maxHeartbeats 4000000 in
theorem dSub {w : World} {A B : Option Addr} {n c m d : Nat} {s t : Bool} {z e y f N E : Int} (hT : Tab w) (h : Wr w s A n c z) (k : Wr w t B m d y) (hn : n ≤ 20000) (hm : m ≤ 20000) (hC : Can [(z, e), ng (mk y f)])
    (hN : (pl (mk z e) (ng (mk y f))).1 = N) (hE : (pl (mk z e) (ng (mk y f))).2 = E) :
    Calls Tryz.prog 33 #[.agg #[.bool s, .slice A n c, .int .i64 e], .agg #[.bool t, .slice B m d, .int .i64 f]] w (D1 w 20000 N E) := by
  have hs : smd [(z, e), ng (mk y f)] = pl (mk z e) (ng (mk y f)) := by
    rw [smd_two]
    congr 1
    exact ng_nf (mk_nf y f)
  rw [← hs] at hN hE; clear hs; obtain ⟨q, hq⟩ : ∃ q, mk y f = q := ⟨_, rfl⟩; rw [hq] at hN hE hC; obtain ⟨N2, E2⟩ := q
  have HQ1 := Lib.hid (congrArg (fun p => -Prod.fst p) hq)
  have HQ2 := Lib.hid (congrArg Prod.snd hq); simp only [ng] at hN hE hC HQ1 HQ2; have HN := Lib.hid hN; have HE := Lib.hid hE; have HC := Lib.hid hC; clear hN hE hC hq
  go_enter Tryz.func33, Tryz.ntmps33
  go_upto_region 1 with (fail)
  generalize hW1 : ((w.alloc _).alloc _).alloc _ = w1 at *; obtain ⟨X1, X2, XR, HB⟩ := Bo.en3 hW1; replace hT := hT.below HB.out; replace h := h.below HB.out; replace k := k.below HB.out; clear hW1; refine Jo.rk [0, 1, 2, 3, 4] [some 5, some 6, some 7, some 8, some 9, none] [[], [], [1], [0, 2], [3], []] 6 1 [Jo.Fact.eq (.agg #[.bool s, .slice A n c, .int .i64 e]), Jo.Fact.eq (.agg #[.bool t, .slice B m d, .int .i64 f]), Jo.Fact.dy (-N2) E2 m, Jo.Fact.dl 20000 2 [(z, e), (-N2, E2)], Jo.Fact.dy N E 20000, Jo.Fact.any] (by kernel_rfl) (by kernel_rfl) (by decide) rfl ?_ ?_
  · refine Jo.jm rfl ?_ ?_
    · rintro wj hJ K hK; simp only [Jo.z] at hK ⊢; obtain ⟨xX10, xX11, xX12⟩ := (X1.below hJ).u3; go_simp; exact hK.out _ _ rfl (br _ _)
    refine Jo.jm rfl ?_ ?_
    · rintro wj hJ K hK; simp only [Jo.z] at hK ⊢; obtain ⟨xX20, xX21, xX22⟩ := (X2.below hJ).u3; go_simp; exact hK.out _ _ rfl (br _ _)
    refine Jo.jm rfl ?_ ?_
    · rintro wj hJ _ rfl K hK; simp only [Jo.z] at hK ⊢; go_simp; refine (dNeg (hT.below hJ) (k.below hJ) (by omega) HQ1.out HQ2.out).mono ?_; rintro ee wk ⟨s2, A2, n2, c2, rfl, p2, k2, B⟩; exact hK.out _ _ ⟨s2, A2, n2, c2, rfl, p2, k2⟩ B
    refine Jo.jm rfl ?_ ?_
    · rintro wj hJ _ rfl _ ⟨s2, A2, n2, c2, rfl, p2, k2⟩ K hK; simp only [Jo.z] at hK ⊢; go_simp; exact hK.out _ _ ⟨_, 2, rfl, Dl.lit2 rfl (h.below hJ) p2.wr hn (by omega)⟩ (bel1 _ _)
    refine Jo.jm rfl ?_ ?_
    · rintro wj hJ _ ⟨A3, c3, rfl, p3⟩ K hK; simp only [Jo.z] at hK ⊢; go_simp; refine (dAdd (hT.below hJ) p3 (by omega) HC.out HN.out HE.out).mono ?_; rintro ee wk ⟨s4, A4, n4, c4, rfl, p4, k4, B⟩; exact hK.out _ _ ⟨s4, A4, n4, c4, rfl, p4, k4⟩ B
    exact Jo.Steps.nil
  rintro w2 hJ _ rfl _ rfl _ ⟨s2, A2, n2, c2, rfl, _, _⟩ _ ⟨A3, c3, rfl, _⟩ _ ⟨s4, A4, n4, c4, rfl, p4, k4⟩ -; simp only [Jo.z]; replace X1 := X1.below hJ; replace X2 := X2.below hJ; replace XR := XR.below hJ; replace hT := hT.below hJ; replace h := h.below hJ; replace k := k.below hJ; replace HB := Lib.hid (bt HB.out hJ); obtain ⟨xXR0, xXR1, xXR2⟩ := XR.u3; have zXR0 := XR.frozen
  refine Jo.jnext (i := 5) (o := ⟨none, _, _, _, _, _⟩) (by kernel_rfl) rfl (fun K hK => ?_)
  go_simp; refine hK.out _ _ ?_; clear hK K xXR0 zXR0 xXR1 xXR2; have SX := StN.mk3 XR (.bool s4) (.slice A4 n4 c4) (.int .i64 E); replace p4 := p4.stn SX (by simp [no32]); refine Jo.jdone (by kernel_rfl) ?_; go_wp2; exact bodyPost_ret (v := .agg #[.bool s4, .slice A4 n4 c4, .int .i64 E]) (by simp [results, Tryz.results33, go_sem, SX.box.cell]) rfl ⟨s4, A4, n4, c4, rfl, p4, k4, (SX.below HB.out (by omega))⟩
end Go.Proofs.YteejbcimmmcnlaaGreatDoor
