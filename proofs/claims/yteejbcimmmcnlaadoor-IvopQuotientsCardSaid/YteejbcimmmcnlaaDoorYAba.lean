/-
  Contracts and words that the statement's proof rests on, several texts in one: Cj, Fr, Ia, Ib, Ic.
-/
import Derived.Below
import Derived.BigQuiet
import Derived.Carry
import Derived.Deep.DeepCutAuto
import Derived.Deep.Draws
import Derived.Deep.MidRow
import Derived.Deep.QuietTactic
import Derived.Deep.RegionHeld3
import Derived.Deep.RegionWith
import Derived.IntWalk
import Derived.Laws.Bits64b
import Derived.Laws.CopyOwn
import Derived.Laws.Externs
import Derived.Laws.MakeOwn
import Derived.Laws.OwnMore
import Derived.Laws.Rows
import Derived.Lib.BitFns
import Derived.Lib.Hide
import Derived.Lib.Mul64
import Derived.Lib.TrailingZeros
import Derived.Maps.AppendAt
import Derived.StillTailTactics
import Derived.Test.YteejbcimmmcnlaaDoorRows
import Derived.WalkKit
import Derived.WalkLawsBesides
import Derived.WalkSpells
import Derived.Test.YteejbcimmmcnlaaDoorYAah
import Derived.Test.YteejbcimmmcnlaaDoorYAai
import Derived.Test.YteejbcimmmcnlaaDoorYAaj
import Derived.Test.YteejbcimmmcnlaaDoorYAal
import Derived.Test.YteejbcimmmcnlaaDoorYAam
import Derived.Test.YteejbcimmmcnlaaDoorYAat
import Derived.Test.YteejbcimmmcnlaaDoorYAax
import Derived.Test.YteejbcimmmcnlaaDoorYAaz
/-
  What every statement of layer 8 begins with: the chapter's examples.
-/
namespace Go.Proofs.YteejbcimmmcnlaaDoor
open Go.RowKit
set_option linter.unusedVariables false
set_option linter.unusedSimpArgs false
set_option maxRecDepth 100000

/-- The cells of some interval, and what it is taken for. -/
def Rw (e : Bool) (K : Int) (s : Bool) (M E K' : Int) (s' : Bool) (M' E' : Int) (x : Sp) : Prop := M < 18446744073709551616 ∧ M' < 18446744073709551616 ∧ rkI e K s M E K' s' M' E' = x
theorem Ci.rw {e : Bool} {K M E K' M' E' : Int} {s s' : Bool} {x : Sp} (h : Ci e K s M E K' s' M' E' x) : Rw e K s M E K' s' M' E' x := ⟨h.top.1, h.top.2, h.rk⟩
def Jo.Fact.il8 (n : Nat) (l : List Sp) : Jo.Fact := ⟨fun v w => ∃ A c, v = .slice A n c ∧ Il8 w A n c l, fun v w w' h b => by
  obtain ⟨A, c, e, h⟩ := h; exact ⟨A, c, e, h.below b⟩⟩
theorem Il8.lit1 {W : World} {h : Nat} {K1 M1 E1 G1 P1 Q1 : Int} {e1 s1 g1 : Bool} {x1 : Sp} (hg : W.heap.size = h) (v1 : Rw e1 K1 s1 M1 E1 G1 g1 P1 Q1 x1) :
    Il8 (W.alloc (.cells #[.bool e1, .int .i64 K1, .bool s1, .int .u64 M1, .int .i64 E1, .int .i64 G1, .bool g1, .int .u64 P1, .int .i64 Q1] 26)) (some ⟨h, 0, none⟩) 1 1 [x1] := by
  subst hg; have hh := heap_alloc_new W (.cells #[.bool e1, .int .i64 K1, .bool s1, .int .u64 M1, .int .i64 E1, .int .i64 G1, .bool g1, .int .u64 P1, .int .i64 Q1] 26)
  refine ⟨rfl, Nat.le_refl _, by decide, fun _ => ⟨_, 0, rfl, fun k hk => ?_⟩⟩
  obtain rfl : k = 0 := by omega
  exact ⟨e1, K1, s1, M1, E1, G1, g1, P1, Q1, by rw [cell_of_row _ _ _ _ _ _ hh]; rfl, by rw [cell_of_row _ _ _ _ _ _ hh]; rfl, by rw [cell_of_row _ _ _ _ _ _ hh]; rfl, by rw [cell_of_row _ _ _ _ _ _ hh]; rfl, by rw [cell_of_row _ _ _ _ _ _ hh]; rfl, by rw [cell_of_row _ _ _ _ _ _ hh]; rfl, by rw [cell_of_row _ _ _ _ _ _ hh]; rfl, by rw [cell_of_row _ _ _ _ _ _ hh]; rfl, by rw [cell_of_row _ _ _ _ _ _ hh]; rfl, v1.1, v1.2.1, v1.2.2⟩
theorem Il8.lit2 {W : World} {h : Nat} {K1 M1 E1 G1 P1 Q1 K2 M2 E2 G2 P2 Q2 : Int} {e1 s1 g1 e2 s2 g2 : Bool} {x1 x2 : Sp} (hg : W.heap.size = h) (v1 : Rw e1 K1 s1 M1 E1 G1 g1 P1 Q1 x1) (v2 : Rw e2 K2 s2 M2 E2 G2 g2 P2 Q2 x2) :
    Il8 (W.alloc (.cells #[.bool e1, .int .i64 K1, .bool s1, .int .u64 M1, .int .i64 E1, .int .i64 G1, .bool g1, .int .u64 P1, .int .i64 Q1, .bool e2, .int .i64 K2, .bool s2, .int .u64 M2, .int .i64 E2, .int .i64 G2, .bool g2, .int .u64 P2, .int .i64 Q2] 26)) (some ⟨h, 0, none⟩) 2 2 [x1, x2] := by
  subst hg; have hh := heap_alloc_new W (.cells #[.bool e1, .int .i64 K1, .bool s1, .int .u64 M1, .int .i64 E1, .int .i64 G1, .bool g1, .int .u64 P1, .int .i64 Q1, .bool e2, .int .i64 K2, .bool s2, .int .u64 M2, .int .i64 E2, .int .i64 G2, .bool g2, .int .u64 P2, .int .i64 Q2] 26)
  refine ⟨rfl, Nat.le_refl _, by decide, fun _ => ⟨_, 0, rfl, fun k hk => ?_⟩⟩
  rcases (by omega : k = 0 ∨ k = 1) with rfl | rfl
  · exact ⟨e1, K1, s1, M1, E1, G1, g1, P1, Q1, by rw [cell_of_row _ _ _ _ _ _ hh]; rfl, by rw [cell_of_row _ _ _ _ _ _ hh]; rfl, by rw [cell_of_row _ _ _ _ _ _ hh]; rfl, by rw [cell_of_row _ _ _ _ _ _ hh]; rfl, by rw [cell_of_row _ _ _ _ _ _ hh]; rfl, by rw [cell_of_row _ _ _ _ _ _ hh]; rfl, by rw [cell_of_row _ _ _ _ _ _ hh]; rfl, by rw [cell_of_row _ _ _ _ _ _ hh]; rfl, by rw [cell_of_row _ _ _ _ _ _ hh]; rfl, v1.1, v1.2.1, v1.2.2⟩
  · exact ⟨e2, K2, s2, M2, E2, G2, g2, P2, Q2, by rw [cell_of_row _ _ _ _ _ _ hh]; rfl, by rw [cell_of_row _ _ _ _ _ _ hh]; rfl, by rw [cell_of_row _ _ _ _ _ _ hh]; rfl, by rw [cell_of_row _ _ _ _ _ _ hh]; rfl, by rw [cell_of_row _ _ _ _ _ _ hh]; rfl, by rw [cell_of_row _ _ _ _ _ _ hh]; rfl, by rw [cell_of_row _ _ _ _ _ _ hh]; rfl, by rw [cell_of_row _ _ _ _ _ _ hh]; rfl, by rw [cell_of_row _ _ _ _ _ _ hh]; rfl, v2.1, v2.2.1, v2.2.2⟩
set_option maxHeartbeats 1000000 in
theorem kvOf {w : World} {a b oa ob : Int} {x : Sp} (a1 : -9223372036854775808 ≤ a) (a2 : a ≤ 9223372036854775807) (b1 : -9223372036854775808 ≤ b) (b2 : b ≤ 9223372036854775807) (ha : sgi (decide (a < 0)) (lo a.natAbs 0) = oa) (hb : sgi (decide (b < 0)) (lo b.natAbs 0) = ob) (hx : mkI oa ob = x) : Calls Tryd.prog 11 #[.int .i64 a, .int .i64 b] w (PV w x) := by
  have HA := Lib.hid ha; have HBB := Lib.hid hb; have HX := Lib.hid hx; clear ha hb hx
  go_enter Tryd.func11, Tryd.ntmps11
  go_upto_region 1 with (fail)
  generalize hW1 : w.alloc _ = w1 at *; obtain ⟨XR, HB⟩ := Bo.en1 hW1; clear hW1
  go_wp2_with fail
  refine (nOf _ a1 a2 HA.out).mono ?_; rintro ee w2 ⟨K1, s1, M1, E1, rfl, q1, B⟩; replace XR := XR.below B; replace HB := Lib.hid (bt HB.out B); clear B
  go_wp2_with fail
  refine (nOf _ b1 b2 HBB.out).mono ?_; rintro ee w3 ⟨K2, s2, M2, E2, rfl, q2, B⟩; replace XR := XR.below B; replace HB := Lib.hid (bt HB.out B); clear B
  go_wp2_with fail
  refine (kvMake q1.top q2.top q1.rk q2.rk HX.out).mono ?_; rintro ee w4 ⟨e3, K3, s3, M3, E3, K3b, s3b, M3b, E3b, rfl, v3, B⟩; replace XR := XR.below B; replace HB := Lib.hid (bt HB.out B); clear B; obtain ⟨xXR0, xXR1, xXR2, xXR3, xXR4, xXR5, xXR6, xXR7, xXR8⟩ := XR.u9; have zXR0 := XR.frozen; go_wp2; clear xXR0 zXR0 xXR1 xXR2 xXR3 xXR4 xXR5 xXR6 xXR7 xXR8; have SX := StN.mk9 XR (.bool e3) (.int .i64 K3) (.bool s3) (.int .u64 M3) (.int .i64 E3) (.int .i64 K3b) (.bool s3b) (.int .u64 M3b) (.int .i64 E3b)
  exact bodyPost_ret (by simp [results, Tryd.results11, go_sem, SX.box.cell]) rfl ⟨_, _, _, _, _, _, _, _, _, rfl, v3, (SX.below HB.out (by omega))⟩
end Go.Proofs.YteejbcimmmcnlaaDoor

/-
  Whether one of some intervals is taken for the empty one; what ivop.Neg does.
-/
namespace Go.Proofs.YteejbcimmmcnlaaDoor
open Go.RowKit
set_option linter.unusedVariables false
set_option linter.unusedSimpArgs false
set_option maxRecDepth 100000

theorem ci_some {e : Bool} {D M E D' M' E' : Int} {s s' : Bool} {a b : Int} (hM : M < 18446744073709551616) (hM' : M' < 18446744073709551616) (h : rkI e D s M E D' s' M' E' = some (a, b)) : Ci e D s M E D' s' M' E' (some (a, b)) := by
  rw [← h]; refine mayI_ci hM hM' ?_
  cases hm : mayI e D s M E D' s' M' E'
  · rw [mayI_no hm] at h
    cases h
  · rfl
set_option maxHeartbeats 4000000 in
theorem fkEmpty {w : World} {A : Option Addr} {n c : Nat} {l : List Sp} {r : Bool} (h : Il8 w A n c l) (hr : gone l = r) : Calls Tryd.prog 19 #[.slice A n c] w (PB w r) := by
  have HR := Lib.hid hr; have HLn := Lib.hid h.1; have hcap := h.2.1; have hbig := h.2.2.1; have hD0 := h; clear hr h
  go_enter Tryd.func19, Tryd.ntmps19
  go_wp2
  go_loopw [7] (fun i wr => ∃ k : Nat, k ≤ n ∧ i = .int .i64 k ∧ (∀ j, j < k → l.getD j none ≠ none) ∧ Below w.heap.size w wr) (fun i _ => n - (intOf i).toNat)
  case atStart => exact ⟨0, Nat.zero_le _, rfl, fun j h => absurd h (Nat.not_lt_zero _), Below.refl _ _⟩
  case round =>
    obtain ⟨k, hk, rfl, hU, hB⟩ := hrel; have HU := Lib.hid hU; have HB := Lib.hid hB; clear hU hB
    by_cases hlt : k < n
    · have tlt : decide ((k : Int) < (n : Int)) = true := by simp; omega
      have h := hD0.below HB.out; obtain ⟨b, o, rfl, hcell⟩ := h.2.2.2 (by omega); obtain ⟨e, D, s, M, E, D', s', M', E', x0, x1, x2, x3, x4, x5, x6, x7, x8, hM, hM', hx⟩ := hcell k hlt; clear hcell h hD0
      have i1 : (k : Int) < n := by omega
      have i2 : (0 : Int) ≤ k := by omega
      have hyes : l.getD k none = none → r = true := fun e => HR.out.symm.trans (gone_at (by rw [HLn.out]; exact hlt) e)
      have hnx : l.getD k none ≠ none → ∀ j, j < k + 1 → l.getD j none ≠ none := fun e j hj => by
        by_cases c : j = k
        · rw [c]; exact e
        · exact HU.out j (by omega)
      rw [← hx] at hyes hnx; clear hx HR HU
      cases e
      · go_upto_region 4 with (fail)
        clear x0 x1 x2 x3 x4 x5 x6 x7 x8; have lX4 := Nat.le_refl (World.heap wr).size; generalize hWn : wr.alloc _ = w3 at *; obtain ⟨X4, BW⟩ := Bo.nw hWn; clear hWn; replace HB := Lib.hid (bt HB.out BW); clear BW; clear lX4; have hm0 := mayI_no (e := false) (K := D) (s := s) (M := M) (E := E) (K' := D') (s' := s') (M' := M') (E' := E')
        cases hm : mayI false D s M E D' s' M' E'
        · obtain rfl := hyes (hm0 hm)
          have HMY := Lib.hid hm; clear hyes hnx hm hm0; obtain ⟨xX40, xX41, xX42, xX43, xX44, xX45, xX46, xX47, xX48⟩ := X4.u9
          go_wp2_with fail
          refine (kvMay hM hM' HMY.out).mono ?_; rintro ee w4 ⟨rfl, B⟩; clear xX40 xX41 xX42 xX43 xX44 xX45 xX46 xX47 xX48; replace X4 := X4.below B; replace HB := Lib.hid (bt HB.out B); clear B; clear HMY; go_wp2
          go_ret
          exact ⟨rfl, HB.out⟩
        · have HN : Hid (∀ j, j < k + 1 → l.getD j none ≠ none) := Lib.hid (hnx (of_decide_eq_true hm))
          have HMY := Lib.hid hm; clear hyes hnx hm hm0; obtain ⟨xX40, xX41, xX42, xX43, xX44, xX45, xX46, xX47, xX48⟩ := X4.u9
          go_wp2_with fail
          refine (kvMay hM hM' HMY.out).mono ?_; rintro ee w4 ⟨rfl, B⟩; clear xX40 xX41 xX42 xX43 xX44 xX45 xX46 xX47 xX48; replace X4 := X4.below B; replace HB := Lib.hid (bt HB.out B); clear B; clear HMY; go_wp2
          go_roundw
          case rel => exact ⟨k + 1, by omega, by go_num, HN.out, HB.out⟩
          case measure => simp [intOf]; omega
      · go_upto_region 4 with (fail)
        clear x0 x1 x2 x3 x4 x5 x6 x7 x8; have lX4 := Nat.le_refl (World.heap wr).size; generalize hWn : wr.alloc _ = w3 at *; obtain ⟨X4, BW⟩ := Bo.nw hWn; clear hWn; replace HB := Lib.hid (bt HB.out BW); clear BW; clear lX4
        obtain rfl := hyes rkI_t
        clear hyes hnx; obtain ⟨xX40, xX41, xX42, xX43, xX44, xX45, xX46, xX47, xX48⟩ := X4.u9; go_wp2
        go_ret
        exact ⟨rfl, HB.out⟩
    · obtain rfl : k = n := by omega
      have tlt : decide ((k : Int) < (k : Int)) = false := by simp
      obtain rfl : false = r := (gone_no (fun j hj => HU.out j (by rw [HLn.out] at hj; exact hj))).symm.trans HR.out
      clear HU HR; go_wp2
      go_ret
      exact ⟨rfl, HB.out⟩
set_option maxHeartbeats 4000000 in
theorem fkNeg {w : World} {e : Bool} {D M E D' M' E' : Int} {s s' : Bool} {x z : Sp} (hM : M < 18446744073709551616) (hM' : M' < 18446744073709551616) (hx : rkI e D s M E D' s' M' E' = x) (hr : negI x = z) : Calls Tryd.prog 47 #[.agg #[.bool e, .int .i64 D, .bool s, .int .u64 M, .int .i64 E, .int .i64 D', .bool s', .int .u64 M', .int .i64 E']] w (PV w z) := by
  obtain ⟨p, hp⟩ : ∃ p, gone [x] = p := ⟨_, rfl⟩; have HP := Lib.hid hp; have HX := Lib.hid hx; clear hx hp
  go_enter Tryd.func47, Tryd.ntmps47
  go_upto_region 1 with (fail)
  generalize hW1 : (w.alloc _).alloc _ = w1 at *; obtain ⟨X1, XR, HB⟩ := Bo.en2 hW1; clear hW1; obtain ⟨xX10, xX11, xX12, xX13, xX14, xX15, xX16, xX17, xX18⟩ := X1.u9
  go_wp2_with fail
  refine (fkEmpty (Il8.lit1 rfl ⟨hM, hM', HX.out⟩) HP.out).mono ?_; rintro ee w2 ⟨rfl, B⟩; replace B := bt (bel1 _ (.cells #[.bool e, .int .i64 D, .bool s, .int .u64 M, .int .i64 E, .int .i64 D', .bool s', .int .u64 M', .int .i64 E'] 26)) B; clear xX10 xX11 xX12 xX13 xX14 xX15 xX16 xX17 xX18; replace X1 := X1.below B; replace XR := XR.below B; replace HB := Lib.hid (bt HB.out B); clear B
  rcases x with _ | ⟨xa, xb⟩
  · obtain rfl : true = p := HP.out
    obtain rfl : none = z := hr
    clear HP
    go_wp2_with fail
    refine (kvNoneE).mono ?_; rintro ee w3 ⟨rfl, B⟩; replace X1 := X1.below B; replace XR := XR.below B; replace HB := Lib.hid (bt HB.out B); clear B; obtain ⟨xXR0, xXR1, xXR2, xXR3, xXR4, xXR5, xXR6, xXR7, xXR8⟩ := XR.u9; have zXR0 := XR.frozen; go_wp2; clear xXR0 zXR0 xXR1 xXR2 xXR3 xXR4 xXR5 xXR6 xXR7 xXR8; have SX := StN.mk9 XR (.bool true) (.int .i64 0) (.bool false) (.int .u64 0) (.int .i64 0) (.int .i64 0) (.bool false) (.int .u64 0) (.int .i64 0)
    exact bodyPost_ret (by simp [results, Tryd.results47, go_sem, SX.box.cell]) rfl ⟨_, _, _, _, _, _, _, _, _, rfl, Ci.none, (SX.below HB.out (by omega))⟩
  · obtain ⟨rfl, a1, b1, o1, o1l, o1h⟩ := ci_some hM hM' HX.out
    obtain rfl : false = p := HP.out
    obtain ⟨u, hu⟩ : ∃ u, -xb = u := ⟨_, rfl⟩; obtain ⟨l, hl⟩ : ∃ l, -xa = l := ⟨_, rfl⟩
    have hr2 : mkI u l = z := by rw [← hu, ← hl]; exact hr
    have HU : Hid (-rk D' s' M' E' = u) := Lib.hid (by rw [b1.rk]; exact hu)
    have HL : Hid (-rk D s M E = l) := Lib.hid (by rw [a1.rk]; exact hl)
    have HR := Lib.hid hr2; clear hu hl hr hr2 o1 o1l o1h HX HP; obtain ⟨xX10, xX11, xX12, xX13, xX14, xX15, xX16, xX17, xX18⟩ := X1.u9
    go_upto_region 3 with (fail)
    clear xX10 xX11 xX12 xX13 xX14 xX15 xX16 xX17 xX18; refine Jo.rk [0, 1, 2, 3, 4, 5, 6] [some 7, some 8, some 9, some 10, some 11, some 12, some 13, none] [[], [0], [1], [], [3], [4], [2, 5], []] 8 1 [Jo.qp w.heap.size 5, Jo.q4 D' s' M' E', Jo.Fact.num u, Jo.qp w.heap.size 1, Jo.q4 D s M E, Jo.Fact.num l, Jo.Fact.iv z, Jo.Fact.any] (by kernel_rfl) (by kernel_rfl) (by decide) rfl ?_ ?_
    · refine Jo.jm rfl ?_ ?_
      · rintro wj hJ K hK; simp only [Jo.z] at hK ⊢; go_simp; exact hK.out _ _ rfl (br _ _)
      refine Jo.jm rfl ?_ ?_
      · rintro wj hJ _ rfl K hK; simp only [Jo.z] at hK ⊢; obtain ⟨xX15, xX16, xX17, xX18⟩ := (X1.below hJ).v9; go_simp; exact hK.out _ _ rfl (br _ _)
      refine Jo.jm rfl ?_ ?_
      · rintro wj hJ _ rfl K hK; simp only [Jo.z] at hK ⊢; go_simp; refine (nNeg b1.top HU.out).mono ?_; rintro ee wk ⟨K2, s2, M2, E2, rfl, q2, B⟩; exact hK.out _ _ ⟨K2, s2, M2, E2, rfl, q2⟩ B
      refine Jo.jm rfl ?_ ?_
      · rintro wj hJ K hK; simp only [Jo.z] at hK ⊢; go_simp; exact hK.out _ _ rfl (br _ _)
      refine Jo.jm rfl ?_ ?_
      · rintro wj hJ _ rfl K hK; simp only [Jo.z] at hK ⊢; obtain ⟨xX11, xX12, xX13, xX14⟩ := (X1.below hJ).w9; go_simp; exact hK.out _ _ rfl (br _ _)
      refine Jo.jm rfl ?_ ?_
      · rintro wj hJ _ rfl K hK; simp only [Jo.z] at hK ⊢; go_simp; refine (nNeg a1.top HL.out).mono ?_; rintro ee wk ⟨K3, s3, M3, E3, rfl, q3, B⟩; exact hK.out _ _ ⟨K3, s3, M3, E3, rfl, q3⟩ B
      refine Jo.jm rfl ?_ ?_
      · rintro wj hJ _ ⟨K2, s2, M2, E2, rfl, q2⟩ _ ⟨K3, s3, M3, E3, rfl, q3⟩ K hK; simp only [Jo.z] at hK ⊢; go_simp; refine (kvMake q2.top q3.top q2.rk q3.rk HR.out).mono ?_; rintro ee wk ⟨e4, K4, s4, M4, E4, K4b, s4b, M4b, E4b, rfl, v4, B⟩; exact hK.out _ _ ⟨e4, K4, s4, M4, E4, K4b, s4b, M4b, E4b, rfl, v4⟩ B
      exact Jo.Steps.nil
    rintro w8 hJ _ _ _ rfl _ ⟨K2, s2, M2, E2, rfl, q2⟩ _ _ _ rfl _ ⟨K3, s3, M3, E3, rfl, q3⟩ _ ⟨e4, K4, s4, M4, E4, K4b, s4b, M4b, E4b, rfl, v4⟩ -; simp only [Jo.z]; replace X1 := X1.below hJ; replace XR := XR.below hJ; replace HB := Lib.hid (bt HB.out hJ); obtain ⟨xXR0, xXR1, xXR2, xXR3, xXR4, xXR5, xXR6, xXR7, xXR8⟩ := XR.u9; have zXR0 := XR.frozen
    refine Jo.jnext (i := 7) (o := ⟨none, _, _, _, _, _⟩) (by kernel_rfl) rfl (fun K hK => ?_)
    go_simp; refine hK.out _ _ ?_; clear hK K xXR0 zXR0 xXR1 xXR2 xXR3 xXR4 xXR5 xXR6 xXR7 xXR8; have SX := StN.mk9 XR (.bool e4) (.int .i64 K4) (.bool s4) (.int .u64 M4) (.int .i64 E4) (.int .i64 K4b) (.bool s4b) (.int .u64 M4b) (.int .i64 E4b); refine Jo.jdone (by kernel_rfl) ?_; go_wp2; exact bodyPost_ret (by simp [results, Tryd.results47, go_sem, SX.box.cell]) rfl ⟨_, _, _, _, _, _, _, _, _, rfl, v4, (SX.below HB.out (by omega))⟩
end Go.Proofs.YteejbcimmmcnlaaDoor

/-
  Places next to a quotient, by worth alone: unique, rising; what is rounded of a number that lies between the same two. Plain arithmetic; no Go text.
-/
namespace Go.Proofs.YteejbcimmmcnlaaDoor
open Go.RowKit
set_option linter.unusedVariables false

/-- The place of the greatest number that is not above A / B, and of the least that is not below it (B above nought). -/
def DnQ (A B r : Int) : Prop := -19342822337206103650074625 ≤ r ∧ r ≤ 19342822337206103650074624 ∧ (-19342822337206103650074625 < r → vr r * B ≤ A) ∧ (r < 19342822337206103650074624 → A < vr (r + 1) * B)
def UpQ (A B r : Int) : Prop := DnQ (-A) B (-r)
def Sid (up : Bool) (A B r : Int) : Prop := if up = true then UpQ A B r else DnQ A B r
theorem sid_f {A B r : Int} : Sid false A B r = DnQ A B r := if_neg (by decide)
theorem sid_t {A B r : Int} : Sid true A B r = UpQ A B r := if_pos rfl
theorem DnQ.mono {A B C D r t : Int} (hB : 0 < B) (hD : 0 < D) (h : DnQ A B r) (k : DnQ C D t) (hAC : A * D ≤ C * B) : r ≤ t := by
  obtain ⟨h1, h2, h3, h4⟩ := h; obtain ⟨k1, k2, k3, k4⟩ := k
  rcases Int.lt_or_le t r with q | q
  · exfalso
    have a := h3 (by omega); have b := k4 (by omega)
    have c : vr (t + 1) ≤ vr r := vr_le (by omega)
    have a2 : vr r * B * D ≤ A * D := Int.mul_le_mul_of_nonneg_right a (Int.le_of_lt hD)
    have b2 : C * B < vr (t + 1) * D * B := Int.mul_lt_mul_of_pos_right b hB
    have c2 : vr (t + 1) * (D * B) ≤ vr r * (D * B) := Int.mul_le_mul_of_nonneg_right c (Int.le_of_lt (Int.mul_pos hD hB))
    rw [Int.mul_assoc, Int.mul_comm B D] at a2; rw [Int.mul_assoc] at b2
    omega
  · exact q
theorem DnQ.uniq {A B r t : Int} (hB : 0 < B) (h : DnQ A B r) (k : DnQ A B t) : r = t := by
  have a := h.mono hB hB k (Int.le_refl _); have b := k.mono hB hB h (Int.le_refl _)
  omega
theorem Sid.uniq {up : Bool} {A B r t : Int} (hB : 0 < B) (h : Sid up A B r) (k : Sid up A B t) : r = t := by
  cases up
  · rw [sid_f] at h k; exact h.uniq hB k
  · rw [sid_t] at h k
    have := DnQ.uniq hB h k
    omega
theorem Sid.mono {up : Bool} {A B C D r t : Int} (hB : 0 < B) (hD : 0 < D) (h : Sid up A B r) (k : Sid up C D t) (hAC : A * D ≤ C * B) : r ≤ t := by
  cases up
  · rw [sid_f] at h k; exact h.mono hB hD k hAC
  · rw [sid_t] at h k
    have := DnQ.mono hD hB k h (by rw [Int.neg_mul, Int.neg_mul]; omega)
    omega
/-- Of the opposite, to the other side, the opposite. -/
theorem Sid.neg {up : Bool} {A B r : Int} (h : Sid up A B r) : Sid (!up) (-A) B (-r) := by
  cases up
  · rw [sid_f] at h
    rw [show (!false) = true from rfl, sid_t]
    unfold UpQ
    rw [Int.neg_neg, Int.neg_neg]; exact h
  · rw [sid_t] at h
    rw [show (!true) = false from rfl, sid_f]
    exact h
theorem sid_sgi {s up : Bool} {A B r : Int} (h : Sid (up != s) A B r) : Sid up (sgi s A) B (sgi s r) := by
  cases s
  · rw [wsg_f, wsg_f]
    cases up <;> exact h
  · rw [wsg_t, wsg_t]
    have h2 : Sid (!up) A B r := by cases up <;> exact h
    have := h2.neg
    rwa [Bool.not_not] at this
theorem Sid.bd {up : Bool} {A B r : Int} (h : Sid up A B r) : -19342822337206103650074625 ≤ r ∧ r ≤ 19342822337206103650074625 := by
  cases up
  · rw [sid_f] at h
    have := h.1; have := h.2.1
    omega
  · rw [sid_t] at h
    have := h.1; have := h.2.1
    omega
/-- There is one. -/
theorem last_yes (p : Nat → Prop) (h0 : p 0) : ∀ n, ¬ p n → ∃ k, k < n ∧ p k ∧ ¬ p (k + 1)
  | 0, h => absurd h0 h
  | n + 1, h => by
    by_cases q : p n
    · exact ⟨n, Nat.lt_succ_self _, q, h⟩
    · obtain ⟨k, a, b, c⟩ := last_yes p h0 n q; exact ⟨k, Nat.lt_succ_of_lt a, b, c⟩
theorem dnq_ex (A : Int) {B : Int} (hB : 0 < B) : ∃ r, DnQ A B r := by
  obtain ⟨n, hn⟩ : ∃ n : Nat, (n : Int) = 38685644674412207300149250 := ⟨38685644674412207300149250, rfl⟩
  obtain ⟨k, hk, a, b⟩ := last_yes (fun k => k = 0 ∨ ((k : Int) ≤ 38685644674412207300149249 ∧ vr ((k : Int) - 19342822337206103650074625) * B ≤ A)) (.inl rfl) n (by omega)
  refine ⟨(k : Int) - 19342822337206103650074625, by omega, by omega, fun h => ?_, fun h => ?_⟩
  · rcases a with a | a
    · omega
    · exact a.2
  · have c : ¬ vr (((k + 1 : Nat) : Int) - 19342822337206103650074625) * B ≤ A := fun c => b (.inr ⟨by omega, c⟩)
    rw [show ((k + 1 : Nat) : Int) - 19342822337206103650074625 = (k : Int) - 19342822337206103650074625 + 1 by omega] at c
    omega
theorem sid_ex (up : Bool) (A : Int) {B : Int} (hB : 0 < B) : ∃ r, Sid up A B r := by
  cases up
  · obtain ⟨r, h⟩ := dnq_ex A hB; exact ⟨r, by rw [sid_f]; exact h⟩
  · obtain ⟨r, h⟩ := dnq_ex (-A) hB; refine ⟨-r, ?_⟩; rw [sid_t]
    unfold UpQ
    rw [Int.neg_neg]; exact h
/-- By a worth that lies between the same two. -/
theorem DnQ.of_dn {X A B a b r : Int} (hB : 0 < B) (h : Dn X r) (h1 : a < X) (h2 : X < b) (h3 : a * B < A) (h4 : A < b * B) (hs : ∀ s, ¬ (a < vr s ∧ vr s < b)) : DnQ A B r := by
  obtain ⟨d1, d2, d3, d4⟩ := h
  refine ⟨d1, d2, fun k => ?_, fun k => ?_⟩
  · have e := d3 k; have n := hs r
    have l : vr r ≤ a := by omega
    have := Int.mul_le_mul_of_nonneg_right l (Int.le_of_lt hB)
    omega
  · have e := d4 k; have n := hs (r + 1)
    have l : b ≤ vr (r + 1) := by omega
    have := Int.mul_le_mul_of_nonneg_right l (Int.le_of_lt hB)
    omega
theorem DnQ.of_eq {X A B r : Int} (hB : 0 < B) (h : Dn X r) (e : X * B = A) : DnQ A B r := by
  obtain ⟨d1, d2, d3, d4⟩ := h; subst e
  exact ⟨d1, d2, fun k => Int.mul_le_mul_of_nonneg_right (d3 k) (Int.le_of_lt hB), fun k => Int.mul_lt_mul_of_pos_right (d4 k) hB⟩
theorem sid_of {P : Int × Int} {A B a b : Int} (up : Bool) (hP : Nf P) (hB : 0 < B) (h1 : a < vl P) (h2 : vl P < b) (h3 : a * B < A) (h4 : A < b * B) (hs : ∀ s, ¬ (a < vr s ∧ vr s < b)) : Sid up A B (rnd up P.1 P.2) := by
  obtain ⟨p1, p2⟩ := rnd_spec hP
  cases up
  · rw [sid_f]; exact DnQ.of_dn hB p1 h1 h2 h3 h4 hs
  · rw [sid_t]
    refine DnQ.of_dn (a := -b) (b := -a) hB p2 (by omega) (by omega) (by rw [Int.neg_mul]; omega) (by rw [Int.neg_mul]; omega) (fun s => ?_)
    have := hs (-s)
    rw [vr_neg] at this
    omega
theorem sid_eq {P : Int × Int} {A B : Int} (up : Bool) (hP : Nf P) (hB : 0 < B) (e : vl P * B = A) : Sid up A B (rnd up P.1 P.2) := by
  obtain ⟨p1, p2⟩ := rnd_spec hP
  cases up
  · rw [sid_f]; exact DnQ.of_eq hB p1 e
  · rw [sid_t]; exact DnQ.of_eq hB p2 (by rw [Int.neg_mul]; omega)
/-- Far enough from nought no place lies between two even multiples. -/
theorem no_placeQ {i : Int} {u : Nat} (hi : 9223372036854775808 ≤ i) (s : Int) : ¬ (2 * i * 2 ^ u < vr s ∧ vr s < (2 * i + 2) * 2 ^ u) := by
  rintro ⟨h1, h2⟩; have hu := p2pos u
  have hpos : 0 < vr s := Int.lt_of_le_of_lt (Int.mul_nonneg (by omega) (Int.le_of_lt hu)) h1
  have hs : 0 < s := by
    rcases Int.lt_or_le 0 s with q | q
    · exact q
    · exfalso
      have := vr_le q
      rw [show vr 0 = 0 from rfl] at this
      omega
  have e0 : vr s = ((s - 1) % 9223372036854775808 + 9223372036854775808) * 2 ^ ((s - 1) / 9223372036854775808 - 1048576 + KK).toNat := by
    unfold vr vp
    rw [if_neg (by omega), if_neg (by omega)]
  obtain ⟨M, hM⟩ : ∃ M, (s - 1) % 9223372036854775808 + 9223372036854775808 = M := ⟨_, rfl⟩; obtain ⟨t, ht⟩ : ∃ t, ((s - 1) / 9223372036854775808 - 1048576 + (KK : Int)).toNat = t := ⟨_, rfl⟩; rw [hM, ht] at e0
  have hMl : M < 18446744073709551616 := by omega
  rw [e0] at h1 h2; clear e0 hM ht hs hpos
  rcases Nat.lt_or_ge u t with q | q
  · obtain ⟨d, rfl⟩ : ∃ d, t = u + 1 + d := ⟨t - (u + 1), by omega⟩
    have e1 : M * 2 ^ (u + 1 + d) = M * 2 ^ d * 2 * 2 ^ u := by
      rw [Int.pow_add, Int.pow_succ]; generalize (2 : Int) ^ u = U; generalize (2 : Int) ^ d = D; rw [Int.mul_assoc M D 2, Int.mul_assoc M, Int.mul_comm U 2, Int.mul_comm (2 * U) D, Int.mul_assoc D 2 U]
    rw [e1] at h1 h2; have a1 := Int.lt_of_mul_lt_mul_right h1 (Int.le_of_lt hu); have a2 := Int.lt_of_mul_lt_mul_right h2 (Int.le_of_lt hu)
    omega
  · obtain ⟨d, rfl⟩ : ∃ d, u = t + d := ⟨u - t, by omega⟩
    have ht := p2pos t; have hd := p2pos d; rw [Int.pow_add] at h1
    have l1 : (2 : Int) ^ t * 1 ≤ 2 ^ t * 2 ^ d := Int.mul_le_mul_of_nonneg_left hd (Int.le_of_lt ht)
    rw [Int.mul_one] at l1
    have l2 : 2 * i * (2 : Int) ^ t ≤ 2 * i * (2 ^ t * 2 ^ d) := Int.mul_le_mul_of_nonneg_left l1 (by omega)
    have a1 := Int.lt_of_mul_lt_mul_right (Int.lt_of_le_of_lt l2 h1) (Int.le_of_lt ht)
    omega
theorem mk_vlB {z e : Int} (h : z.natAbs < 2 ^ 500000) (h1 : -3000000 ≤ e) (h2 : e ≤ 3000000) : vl (mk z e) = z * 2 ^ (e + KK).toNat := by
  obtain ⟨η, hη⟩ : ∃ η : Nat, η = 4000000 := ⟨_, rfl⟩; refine (mk_fit (h := η) (by omega) (by omega) ?_).2; obtain ⟨κ, hκ⟩ : ∃ κ : Nat, κ = 500000 := ⟨_, rfl⟩; rw [← hκ] at h
  have := Nat.mul_lt_mul_of_pos_right h (Nat.pow_pos (n := (e + (η : Int)).toNat) (show 0 < 2 by decide))
  rw [← Nat.pow_add] at this; exact Nat.lt_of_lt_of_le this (Nat.pow_le_pow_right (by decide) (by omega))
/-- A quotient's bits, and one more that tells whether something is left. -/
def stk (q r : Nat) : Nat := 2 * q + if r = 0 then 0 else 1
/-- A quotient of natural numbers, rounded by its first bits and what is left. -/
theorem quo_side {α β : Nat} {e : Int} {n κ : Nat} (up : Bool) (hβ : 0 < β) (hq0 : α ≠ 0 → 9223372036854775808 ≤ α * 2 ^ n / β) (hκ : κ = 500000) (hs : stk (α * 2 ^ n / β) (α * 2 ^ n % β) < 2 ^ κ) (h1 : -2900000 ≤ e - n) (h2 : e ≤ 2900000) :
    Sid up ((α : Int) * 2 ^ (e + KK).toNat) (β : Int) (rnd up (mk ((stk (α * 2 ^ n / β) (α * 2 ^ n % β) : Nat) : Int) (e - n - 1)).1 (mk ((stk (α * 2 ^ n / β) (α * 2 ^ n % β) : Nat) : Int) (e - n - 1)).2) := by
  have hk := KK_eq
  have hb0 : (0 : Int) < (β : Int) := by omega
  have nf := mk_nf ((stk (α * 2 ^ n / β) (α * 2 ^ n % β) : Nat) : Int) (e - n - 1); have ev := mk_vlB (z := ((stk (α * 2 ^ n / β) (α * 2 ^ n % β) : Nat) : Int)) (e := e - n - 1) (by rw [Int.natAbs_natCast, ← hκ]; exact hs) (by omega) (by omega); obtain ⟨u, hu⟩ : ∃ u : Nat, (e - n - 1 + (KK : Int)).toNat = u := ⟨_, rfl⟩
  have e1 : (e + (KK : Int)).toNat = n + (1 + u) := by omega
  rw [hu] at ev
  rw [e1, Int.pow_add, Int.pow_add, show (2 : Int) ^ 1 = 2 from rfl, ← Int.mul_assoc]
  have hd := Nat.div_add_mod (α * 2 ^ n) β; have hm := Nat.mod_lt (α * 2 ^ n) hβ; have hpu := p2pos u
  have hcast : ((α * 2 ^ n : Nat) : Int) = (α : Int) * 2 ^ n := by push_cast; rfl
  by_cases ha : α = 0
  · subst ha
    have e2 : stk (0 * 2 ^ n / β) (0 * 2 ^ n % β) = 0 := by
      rw [Nat.zero_mul, Nat.zero_div, Nat.zero_mod]
      rfl
    rw [e2] at ev nf ⊢; refine sid_eq up nf hb0 ?_; rw [ev]
    show (((0 : Nat) : Int)) * 2 ^ u * (β : Int) = ((0 : Nat) : Int) * 2 ^ n * (2 * 2 ^ u)
    rw [show (((0 : Nat) : Int)) = 0 from rfl, Int.zero_mul, Int.zero_mul, Int.zero_mul, Int.zero_mul]
  · have hq := hq0 ha; clear hq0; clear hs; rw [← hcast]; clear hcast; generalize α * 2 ^ n = X at ev nf hd hm hq ⊢; generalize X / β = q at ev nf hd hq ⊢; generalize X % β = r at ev nf hd hm ⊢
    have hdI : (β : Int) * (q : Int) + (r : Int) = (X : Int) := by exact_mod_cast hd
    by_cases hr : r = 0
    · have e3 : stk q r = 2 * q := by
        unfold stk
        rw [if_pos hr]
        omega
      rw [e3] at ev nf ⊢; refine sid_eq up nf hb0 ?_; rw [ev, ← hdI, hr]
      show (((2 * q : Nat)) : Int) * 2 ^ u * (β : Int) = ((β : Int) * (q : Int) + ((0 : Nat) : Int)) * (2 * 2 ^ u)
      push_cast
      generalize (2 : Int) ^ u = U; rw [Int.add_zero, Int.mul_assoc, Int.mul_comm U, Int.mul_assoc 2, ← Int.mul_assoc (q : Int), Int.mul_comm (q : Int), Int.mul_left_comm]
    · have e3 : stk q r = 2 * q + 1 := by
        unfold stk
        rw [if_neg hr]
      rw [e3] at ev nf ⊢
      have c1 : (((2 * q + 1 : Nat)) : Int) = 2 * (q : Int) + 1 := by omega
      have c2 : (2 * (q : Int) * 2 ^ u) * (β : Int) = (β : Int) * (q : Int) * (2 * 2 ^ u) := by
        generalize (2 : Int) ^ u = U; rw [Int.mul_right_comm, Int.mul_comm 2 (q : Int), Int.mul_assoc (q : Int) 2, Int.mul_comm 2 (β : Int), ← Int.mul_assoc (q : Int), Int.mul_comm (q : Int), Int.mul_assoc]
      have c3 : ((2 * (q : Int) + 2) * 2 ^ u) * (β : Int) = ((β : Int) * (q : Int) + (β : Int)) * (2 * 2 ^ u) := by
        rw [show 2 * (q : Int) + 2 = 2 * ((q : Int) + 1) by omega, show (β : Int) * (q : Int) + (β : Int) = (β : Int) * ((q : Int) + 1) by rw [Int.mul_add, Int.mul_one]]
        generalize (2 : Int) ^ u = U; generalize (q : Int) + 1 = p; rw [Int.mul_right_comm, Int.mul_comm 2 p, Int.mul_assoc p 2, Int.mul_comm 2 (β : Int), ← Int.mul_assoc p, Int.mul_comm p, Int.mul_assoc]
      have h2u : (0 : Int) < 2 * 2 ^ u := by omega
      refine sid_of up nf hb0 (a := 2 * (q : Int) * 2 ^ u) (b := (2 * (q : Int) + 2) * 2 ^ u) ?_ ?_ ?_ ?_ (no_placeQ (by omega))
      · rw [ev, c1]; exact Int.mul_lt_mul_of_pos_right (by omega) hpu
      · rw [ev, c1]; exact Int.mul_lt_mul_of_pos_right (by omega) hpu
      · rw [c2]; exact Int.mul_lt_mul_of_pos_right (by omega) h2u
      · rw [c3]; exact Int.mul_lt_mul_of_pos_right (by omega) h2u
end Go.Proofs.YteejbcimmmcnlaaDoor

/-
  Places next to a root, by worth alone; what quotients and roots have to do with their neighbours, ones, opposites. Plain arithmetic; no Go text.
-/
namespace Go.Proofs.YteejbcimmmcnlaaDoor
open Go.RowKit
set_option linter.unusedVariables false

theorem sid_exact {up : Bool} {A B r : Int} (hB : 0 < B) (h1 : -19342822337206103650074625 < r) (h2 : r < 19342822337206103650074625) (e : vr r * B = A) : Sid up A B r := by
  cases up
  · rw [sid_f]; exact DnQ.of_eq hB (dn_self h1 h2) e
  · rw [sid_t]; refine DnQ.of_eq hB (dn_self (r := -r) (by omega) (by omega)) ?_; rw [vr_neg, Int.neg_mul, e]
/-- Both sides are one, or neighbours. -/
theorem sid_two {A B r t : Int} (hB : 0 < B) (h : Sid false A B r) (k : Sid true A B t) : (t = r ∧ vr r * B = A ∧ -19342822337206103650074625 < r ∧ r < 19342822337206103650074625) ∨ (t = r + 1 ∧ (-19342822337206103650074625 < r → vr r * B < A) ∧ (t < 19342822337206103650074625 → A < vr t * B)) := by
  rw [sid_f] at h; rw [sid_t] at k; obtain ⟨h1, h2, h3, h4⟩ := h; obtain ⟨k1, k2, k3, k4⟩ := k
  have k3' : t < 19342822337206103650074625 → A ≤ vr t * B := fun c => by
    have := k3 (by omega)
    rw [vr_neg, Int.neg_mul] at this
    omega
  have k4' : -19342822337206103650074624 < t → vr (t - 1) * B < A := fun c => by
    have := k4 (by omega)
    rw [show -t + 1 = -(t - 1) by omega, vr_neg, Int.neg_mul] at this
    omega
  have mul_le : ∀ a b : Int, a ≤ b → vr a * B ≤ vr b * B := fun a b c => Int.mul_le_mul_of_nonneg_right (vr_le c) (Int.le_of_lt hB)
  have hrt : r ≤ t := by
    rcases Int.lt_or_le t r with q | q
    · exfalso
      have a := h3 (by omega); have b := k3' (by omega)
      have c : vr t * B < vr r * B := Int.mul_lt_mul_of_pos_right (vr_lt q) hB
      omega
    · exact q
  have htr : t ≤ r + 1 := by
    rcases Int.lt_or_le (r + 1) t with q | q
    · exfalso
      have a := h4 (by omega); have b := k4' (by omega); have c := mul_le (r + 1) (t - 1) (by omega)
      omega
    · exact q
  by_cases e : t = r
  · subst e
    left
    have a := h3 (by omega); have b := k3' (by omega); exact ⟨rfl, by omega, by omega, by omega⟩
  · right
    have e2 : t = r + 1 := by omega
    refine ⟨e2, fun c => ?_, fun c => ?_⟩
    · have := k4' (by omega)
      rw [e2, show r + 1 - 1 = r by omega] at this
      exact this
    · have := h4 (by omega)
      rw [← e2] at this; exact this
/-- The quotient's place: of nought, of infinite ones, of finite ones. -/
def Qt (up : Bool) (x y r : Int) : Prop :=
  if y = 0 then r = sgi (!up) TP else if x = 0 ∨ infp y = true then r = 0 else if infp x = true then r = sgi (decide (x < 0) != decide (y < 0)) TP else Sid up (sgi (decide (y < 0)) (vr x) * 2 ^ KK) (sgi (decide (y < 0)) (vr y)) r
theorem qt_none {up : Bool} {x r : Int} (h : r = sgi (!up) TP) : Qt up x 0 r := by
  unfold Qt
  rw [if_pos rfl]; exact h
theorem qt_zero {up : Bool} {x y r : Int} (hy : y ≠ 0) (h : x = 0 ∨ infp y = true) : Qt up x y r ↔ r = 0 := by
  unfold Qt
  rw [if_neg hy, if_pos h]
theorem qt_none' {up : Bool} {x r : Int} : Qt up x 0 r ↔ r = sgi (!up) TP := by
  unfold Qt
  rw [if_pos rfl]
theorem qt_inf {up : Bool} {x y r : Int} (hy : y ≠ 0) (h : ¬ (x = 0 ∨ infp y = true)) (hx : infp x = true) : Qt up x y r ↔ r = sgi (decide (x < 0) != decide (y < 0)) TP := by
  unfold Qt
  rw [if_neg hy, if_neg h, if_pos hx]
theorem qt_fin {up : Bool} {x y r : Int} (hy : y ≠ 0) (h : ¬ (x = 0 ∨ infp y = true)) (hx : infp x = false) : Qt up x y r ↔ Sid up (sgi (decide (y < 0)) (vr x) * 2 ^ KK) (sgi (decide (y < 0)) (vr y)) r := by
  unfold Qt
  rw [if_neg hy, if_neg h, if_neg (by rw [hx]; exact ff)]
theorem sg_vr_pos {y : Int} (hy : y ≠ 0) : 0 < sgi (decide (y < 0)) (vr y) := by
  by_cases c : y < 0
  · rw [decide_eq_true c, wsg_t]
    have := vr_pos (x := -y) (by omega)
    rw [vr_neg] at this; exact this
  · rw [decide_eq_false c, wsg_f]; exact vr_pos (by omega)
theorem qt_ex (up : Bool) (x y : Int) : ∃ r, Qt up x y r := by
  by_cases hy : y = 0
  · subst hy; exact ⟨_, qt_none rfl⟩
  · by_cases h : x = 0 ∨ infp y = true
    · exact ⟨0, (qt_zero hy h).2 rfl⟩
    · cases hx : infp x
      · obtain ⟨r, hr⟩ := sid_ex up (sgi (decide (y < 0)) (vr x) * 2 ^ KK) (sg_vr_pos hy); exact ⟨r, (qt_fin hy h hx).2 hr⟩
      · exact ⟨_, (qt_inf hy h hx).2 rfl⟩
theorem Qt.uniq {up : Bool} {x y r t : Int} (h : Qt up x y r) (k : Qt up x y t) : r = t := by
  by_cases hy : y = 0
  · subst hy; rw [qt_none'.1 h, qt_none'.1 k]
  · by_cases h0 : x = 0 ∨ infp y = true
    · rw [(qt_zero hy h0).1 h, (qt_zero hy h0).1 k]
    · cases hx : infp x
      · exact ((qt_fin hy h0 hx).1 h).uniq (sg_vr_pos hy) ((qt_fin hy h0 hx).1 k)
      · rw [(qt_inf hy h0 hx).1 h, (qt_inf hy h0 hx).1 k]
theorem Qt.bd {up : Bool} {x y r : Int} (h : Qt up x y r) : -19342822337206103650074625 ≤ r ∧ r ≤ 19342822337206103650074625 := by
  have htp := TP_eq
  have sg : ∀ s, -19342822337206103650074625 ≤ sgi s TP ∧ sgi s TP ≤ 19342822337206103650074625 := fun s => by
    rcases sgT s with e | e <;> rw [e] <;> omega
  by_cases hy : y = 0
  · subst hy; rw [qt_none'.1 h]; exact sg _
  · by_cases h0 : x = 0 ∨ infp y = true
    · rw [(qt_zero hy h0).1 h]
      decide
    · cases hx : infp x
      · exact ((qt_fin hy h0 hx).1 h).bd
      · rw [(qt_inf hy h0 hx).1 h]; exact sg _
theorem sgi_sgi (s : Bool) (x : Int) : sgi s (sgi s x) = x := by
  cases s
  · rw [wsg_f, wsg_f]
  · rw [wsg_t, wsg_t, Int.neg_neg]
theorem qt_neg {up : Bool} {x y r : Int} (hy : y ≠ 0) (h : Qt up x y r) : Qt (!up) (-x) y (-r) := by
  by_cases h0 : x = 0 ∨ infp y = true
  · rw [(qt_zero hy h0).1 h]
    exact (qt_zero hy (h0.imp (fun e => by omega) id)).2 rfl
  · have h0' : ¬ (-x = 0 ∨ infp y = true) := fun c => h0 (c.imp (fun e => by omega) id)
    cases hx : infp x
    · refine (qt_fin hy h0' (by rw [infp_neg]; exact hx)).2 ?_
      have := ((qt_fin hy h0 hx).1 h).neg
      have e : sgi (decide (y < 0)) (vr (-x)) * 2 ^ KK = -(sgi (decide (y < 0)) (vr x) * 2 ^ KK) := by
        rw [vr_neg, ← Int.neg_mul]
        congr 1
        cases decide (y < 0)
        · rw [wsg_f, wsg_f]
        · rw [wsg_t, wsg_t]
      rw [e]; exact this
    · refine (qt_inf hy h0' (by rw [infp_neg]; exact hx)).2 ?_
      rw [(qt_inf hy h0 hx).1 h, neg_sign (fun e => h0 (.inl e)), ← sgi_neg]
      cases decide (x < 0) <;> cases decide (y < 0) <;> rfl
theorem qt_negs {up : Bool} {x y r : Int} (hy : y ≠ 0) (h : Qt up x y r) : Qt up (-x) (-y) r := by
  have hy' : -y ≠ 0 := by omega
  by_cases h0 : x = 0 ∨ infp y = true
  · rw [(qt_zero hy h0).1 h]
    exact (qt_zero hy' (h0.imp (fun e => by omega) (fun e => by rw [infp_neg]; exact e))).2 rfl
  · have h0' : ¬ (-x = 0 ∨ infp (-y) = true) := fun c => h0 (c.imp (fun e => by omega) (fun e => by rw [infp_neg] at e; exact e))
    cases hx : infp x
    · refine (qt_fin hy' h0' (by rw [infp_neg]; exact hx)).2 ?_
      have := (qt_fin hy h0 hx).1 h
      have e : ∀ z, sgi (decide (-y < 0)) (vr (-z)) = sgi (decide (y < 0)) (vr z) := fun z => by
        rw [neg_sign hy, vr_neg]
        cases decide (y < 0)
        · rw [show (!false) = true from rfl, wsg_t, wsg_f, Int.neg_neg]
        · rw [show (!true) = false from rfl, wsg_t, wsg_f]
      rw [e, e]; exact this
    · refine (qt_inf hy' h0' (by rw [infp_neg]; exact hx)).2 ?_
      rw [(qt_inf hy h0 hx).1 h, neg_sign (fun e => h0 (.inl e)), neg_sign hy]
      cases decide (x < 0) <;> cases decide (y < 0) <;> rfl

/-- The place of the greatest number that is not above the root of X, and of the least that is not below it. -/
def Rt (up : Bool) (X r : Int) : Prop :=
  if up = true then 0 < r ∧ r ≤ 19342822337206103650074625 ∧ (r < 19342822337206103650074625 → X ≤ vr r * vr r) ∧ vr (r - 1) * vr (r - 1) < X
  else 0 ≤ r ∧ r ≤ 19342822337206103650074624 ∧ vr r * vr r ≤ X ∧ (r < 19342822337206103650074624 → X < vr (r + 1) * vr (r + 1))
theorem rt_f {X r : Int} : Rt false X r ↔ (0 ≤ r ∧ r ≤ 19342822337206103650074624 ∧ vr r * vr r ≤ X ∧ (r < 19342822337206103650074624 → X < vr (r + 1) * vr (r + 1))) := by
  unfold Rt
  rw [if_neg ff]
theorem rt_t {X r : Int} : Rt true X r ↔ (0 < r ∧ r ≤ 19342822337206103650074625 ∧ (r < 19342822337206103650074625 → X ≤ vr r * vr r) ∧ vr (r - 1) * vr (r - 1) < X) := by
  unfold Rt
  rw [if_pos rfl]
theorem sq_le {a b : Int} (h0 : 0 ≤ a) (h : a ≤ b) : a * a ≤ b * b := Int.mul_le_mul h h h0 (by omega)
theorem vr_sq {r t : Int} (h0 : 0 ≤ r) (h : r ≤ t) : vr r * vr r ≤ vr t * vr t := sq_le (vr_nn h0) (vr_le h)
end Go.Proofs.YteejbcimmmcnlaaDoor

/-
  Quotients, roots, ratios of numbers by the document's way: what they are by worth alone. Plain arithmetic; no Go text.
-/
namespace Go.Proofs.YteejbcimmmcnlaaDoor
open Go.RowKit
set_option linter.unusedVariables false

theorem rnd_sgi {σ up : Bool} {z e : Int} : rnd up (mk (sgi σ z) e).1 (mk (sgi σ z) e).2 = sgi σ (rnd (up != σ) (mk z e).1 (mk z e).2) := by
  cases σ
  · rw [wsg_f, wsg_f]
    cases up <;> rfl
  · rw [wsg_t, wsg_t, mk_neg]; have h := rnd_turn (mk_nf z e) (!up); rw [Bool.not_not] at h; rw [h]
    cases up <;> rfl
theorem Sid.cross {up : Bool} {A B C D r : Int} (hB : 0 < B) (hD : 0 < D) (h : Sid up A B r) (e : A * D = C * B) : Sid up C D r := by
  obtain ⟨t, ht⟩ := sid_ex up C hD; have a := h.mono hB hD ht (Int.le_of_eq e); have b := ht.mono hD hB h (Int.le_of_eq e.symm)
  have c : r = t := by omega
  rw [c]; exact ht
/-- The place of a ratio of whole numbers. -/
def Rq (up : Bool) (z y r : Int) : Prop := if y = 0 then r = sgi (!up) TP else Sid up (sgi (decide (y < 0)) z * 2 ^ KK) (sgi (decide (y < 0)) y) r
theorem rq_some {up : Bool} {z y r : Int} (hy : y ≠ 0) : Rq up z y r ↔ Sid up (sgi (decide (y < 0)) z * 2 ^ KK) (sgi (decide (y < 0)) y) r := by
  unfold Rq
  rw [if_neg hy]
theorem Rq.mono {up : Bool} {z y z' y' r t : Int} (hy : 0 < y) (hy' : 0 < y') (h : Rq up z y r) (k : Rq up z' y' t) (hle : z * y' ≤ z' * y) : r ≤ t := by
  have a := (rq_some (by omega)).1 h; have b := (rq_some (by omega)).1 k; rw [decide_eq_false (by omega), wsg_f, wsg_f] at a b; refine a.mono hy hy' b ?_
  have := Int.mul_le_mul_of_nonneg_right hle (Int.le_of_lt (p2pos KK))
  rw [Int.mul_right_comm z, Int.mul_right_comm z']; exact this
/-- The quotient of two finite numbers. -/
theorem div_side {up s t : Bool} {M1 E1 M2 E2 x y : Int} {α β v w : Nat} {r : Int} (q1 : Fq 1 s M1 E1 x) (q2 : Fq 1 t M2 E2 y) (hM1 : M1 = (α : Int) * 2 ^ v) (hM2 : M2 = (β : Int) * 2 ^ w) (hβ : 0 < β) (hv : v < 64) (hw : w < 64)
    (h : Sid up (sgi (s != t) ((α : Int) * 2 ^ (E1 - E2 + v - w + (KK : Int)).toNat)) (β : Int) r) : Qt up x y r := by
  obtain ⟨a1, a2, a3, a4, a5, a6, a7, a8, a9⟩ := fq_vr q1; obtain ⟨b1, b2, b3, b4, b5, b6, b7, b8, b9⟩ := fq_vr q2; have hk := KK_eq; have ix := infp_fin a5 a6; have iy := infp_fin b5 b6
  refine (qt_fin b7 (by rw [iy]; rintro (c | c); exact a7 c; cases c) ix).2 ?_
  rw [b9, a8, b8, sgi_sgi]
  have hB : (0 : Int) < M2 * 2 ^ (E2 + KK).toNat := Int.mul_pos (by omega) (p2pos _)
  refine h.cross (by omega) hB ?_
  have e1 : sgi t (sgi s (M1 * 2 ^ (E1 + (KK : Int)).toNat)) = sgi (s != t) (M1 * 2 ^ (E1 + (KK : Int)).toNat) := by
    cases s <;> cases t
    · rfl
    · rfl
    · rfl
    · rw [show (true != true) = false from rfl, wsg_f, wsg_t, wsg_t, Int.neg_neg]
  rw [e1, sgi_mul, sgi_mul, sgi_mul]
  congr 1
  rw [hM1, hM2]
  have p1 : (2 : Int) ^ (E1 - E2 + v - w + (KK : Int)).toNat * (2 ^ w * 2 ^ (E2 + (KK : Int)).toNat) = 2 ^ v * 2 ^ (E1 + (KK : Int)).toNat * 2 ^ KK := by
    rw [← Int.pow_add, ← Int.pow_add, ← Int.pow_add, ← Int.pow_add]
    congr 1
    omega
  have four : ∀ α β a b c d e f : Int, a * (b * c) = d * e * f → α * a * (β * b * c) = α * d * e * f * β := fun α β a b c d e f h => by
    have h1 : α * a * (β * b * c) = α * β * (a * (b * c)) := by
      rw [Int.mul_assoc β b c, Int.mul_assoc α a, ← Int.mul_assoc a β, Int.mul_comm a β, Int.mul_assoc β a, ← Int.mul_assoc α β]
    have h2 : α * d * e * f * β = α * β * (d * e * f) := by
      rw [Int.mul_assoc α d e, Int.mul_assoc α (d * e) f, Int.mul_right_comm α]
    rw [h1, h2, h]
  exact four _ _ _ _ _ _ _ _ p1
end Go.Proofs.YteejbcimmmcnlaaDoor
