/-
  Contracts and words that the statement's proof rests on, several texts in one: Ft, Ig, Fc, Fi, Fj, Mp.
-/
import Derived.Below
import Derived.BigQuiet
import Derived.Carry
import Derived.Deep.DeepCutAuto
import Derived.Deep.Draws
import Derived.Deep.MidRow
import Derived.Deep.QuietTactic
import Derived.Deep.RegionHeld3
import Derived.Deep.RegionWith
import Derived.IntWalk
import Derived.Laws.Bits64b
import Derived.Laws.CopyOwn
import Derived.Laws.Externs
import Derived.Laws.MakeOwn
import Derived.Laws.OwnMore
import Derived.Laws.Rows
import Derived.Lib.BitFns
import Derived.Lib.Hide
import Derived.Lib.Mul64
import Derived.Lib.TrailingZeros
import Derived.Maps.AppendAt
import Derived.StillTailTactics
import Derived.Test.YteejbcimmmcnlaaGreatDoorRows
import Derived.WalkKit
import Derived.WalkLawsBesides
import Derived.WalkSpells
import Derived.Test.YteejbcimmmcnlaaGreatDoorYBag
import Derived.Test.YteejbcimmmcnlaaGreatDoorYBah
import Derived.Test.YteejbcimmmcnlaaGreatDoorYBai
import Derived.Test.YteejbcimmmcnlaaGreatDoorYBaj
import Derived.Test.YteejbcimmmcnlaaGreatDoorYBam
import Derived.Test.YteejbcimmmcnlaaGreatDoorYBaq
import Derived.Test.YteejbcimmmcnlaaGreatDoorYBbb
import Derived.Test.YteejbcimmmcnlaaGreatDoorYBbg
import Derived.Test.YteejbcimmmcnlaaGreatDoorYBbh
import Derived.Test.YteejbcimmmcnlaaGreatDoorYBbj
import Derived.Test.YteejbcimmmcnlaaGreatDoorYBbk
import Derived.Test.YteejbcimmmcnlaaGreatDoorYBbl
/-
  What ivop.Add and Sub do.
-/
namespace Go.Proofs.YteejbcimmmcnlaaGreatDoor
open Go.RowKit
set_option linter.unusedVariables false
set_option linter.unusedSimpArgs false
set_option maxRecDepth 100000

set_option maxHeartbeats 8000000 in
theorem fkAdd {w : World} {A : Option Addr} {n c : Nat} {l : List Sp} {z : Sp} (hT : Tb w) (h : Il8 w A n c l) (hr : addL l = z) : Calls Tryz.prog 12 #[.slice A n c] w (PV w z) := by
  obtain ⟨p, hp⟩ : ∃ p, gone l = p := ⟨_, rfl⟩; have HP := Lib.hid hp; have HLn := Lib.hid h.1; have hcap := h.2.1; have hbig := h.2.2.1; clear hp
  go_enter Tryz.func12, Tryz.ntmps12
  go_upto_region 1 with (fail)
  generalize hW1 : w.alloc _ = w1 at *; obtain ⟨XR, HB⟩ := Bo.en1 hW1; replace hT := hT.below HB.out; replace h := h.below HB.out; clear hW1
  go_wp2_with fail
  refine (fkEmpty h HP.out).mono ?_; rintro ee w2 ⟨rfl, B⟩; replace XR := XR.below B; replace hT := hT.below B; replace h := h.below B; replace HB := Lib.hid (bt HB.out B); clear B
  cases p
  · have hok := h.ok; have hae := (add_ends HP.out hok).trans hr; obtain ⟨u, hu⟩ : ∃ u, smA false (lowL l) = u := ⟨_, rfl⟩; obtain ⟨v, hv⟩ : ∃ v, smA true (highL l) = v := ⟨_, rfl⟩
    have hz : mkI u v = z := by rw [← hu, ← hv]; exact hae
    have HU := Lib.hid hu; have HV := Lib.hid hv; have HZ := Lib.hid hz; clear hok hae hu hv hz hr; go_wp2
    go_loopw [3, 4, 12] (fun va vb i wr => ∃ k A1 B1 c1 d1, k ≤ n ∧ va = .slice A1 k c1 ∧ vb = .slice B1 k d1 ∧ i = .int .i64 ((k : Nat) : Int) ∧ EInv w2 A1 B1 k c1 d1 (lowL (l.take k)) (highL (l.take k)) wr) (fun _ _ i _ => n - (intOf i).toNat)
    case atStart => exact ⟨0, _, _, _, _, Nat.zero_le _, rfl, rfl, rfl, Na.nil _ _, Na.nil _ _, (fun k h => by cases h), Below.refl _ _⟩
    case round =>
      obtain ⟨k, A1, B1, c1, d1, hk, rfl, rfl, rfl, N1, N2, hne, hB⟩ := hrel; have HB0 := HB; replace HB := Lib.hid hB; clear hB
      by_cases hlt : k < n
      · have tlt : decide ((k : Int) < (n : Int)) = true := by simp; omega
        have h' := h.below HB.out
        obtain ⟨a0, b0, hg⟩ := gone_get HP.out (k := k) (by rw [HLn.out]; exact hlt); have hsl := lowL_take (l := l) (k := k) (by rw [HLn.out]; exact hlt); have hsh := highL_take (l := l) (k := k) (by rw [HLn.out]; exact hlt); rw [hg] at hsl hsh; obtain ⟨b, o, rfl, hcell⟩ := h'.2.2.2 (by omega); obtain ⟨e, D, s, M, E, D', s', M', E', x0, x1, x2, x3, x4, x5, x6, x7, x8, hM, hM', hx⟩ := hcell k hlt; rw [hg] at hx
        obtain ⟨rfl, a1, b1, _, _, _⟩ := ci_some hM hM' hx; clear hcell h' h hx hM hM'
        have i1 : (k : Int) < n := by omega
        have i2 : (0 : Int) ≤ k := by omega
        generalize lowL (l.take k) = la at *; generalize highL (l.take k) = lb at *
        have HSL : Hid (lowL (l.take (k + 1)) = la ++ [a0]) := Lib.hid hsl
        have HSH : Hid (highL (l.take (k + 1)) = lb ++ [b0]) := Lib.hid hsh
        have HNE := Lib.hid hne; clear hsl hsh hne hg HU HV HZ HP XR hT HB0
        go_upto_region 7 with (fail)
        clear x0 x1 x2 x3 x4 x5 x6 x7 x8; have lX6 := Nat.le_refl (World.heap wr).size; generalize hWn : wr.alloc _ = w6 at *; obtain ⟨X6, BW⟩ := Bo.nw hWn; clear hWn; replace N1 := N1.below BW; replace N2 := N2.below BW; replace HB := Lib.hid (bt HB.out BW); clear BW; clear lX6; obtain ⟨xX60, xX61, xX62, xX63, xX64, xX65, xX66, xX67, xX68⟩ := X6.u9
        go_wp2_with (at_builtin; refine wpList_na rfl _ _ rfl rfl rfl (N1.below (bel1 _ _)) a1 (Bo.new _ _ _) (by omega) (Nat.le_trans HB.out.size (bel1 _ _).size) ?_)
        intro A2 d2 w7 N1' G1 at1
        clear xX60 xX61 xX62 xX63 xX64 xX65 xX66 xX67 xX68; have hB2 := bt HB.out (bel1 _ (.cells #[.int .i64 D, .bool s, .int .u64 M, .int .i64 E] 24)); have N1b := N1.below (bel1 _ (.cells #[.int .i64 D, .bool s, .int .u64 M, .int .i64 E] 24)); have N2b := N2.below (bel1 _ (.cells #[.int .i64 D, .bool s, .int .u64 M, .int .i64 E] 24)); replace X6 := (X6.below (bel1 _ (.cells #[.int .i64 D, .bool s, .int .u64 M, .int .i64 E] 24))).grownN N1b (by decide) G1
        replace HB := Lib.hid (hB2.grown G1 hB2.size (fun k hk => (N1b.own_lt k hk).1))
        have l1 : ∀ k, ownA B1 = some k → k < w6.heap.size + 1 := fun k hk => by
          have := (N2b.own_lt k hk).2
          simpa using this
        replace N2 := N2b.kept G1 (own_ne HNE.out); clear N1 N1b N2b G1 hB2; obtain ⟨xX60, xX61, xX62, xX63, xX64, xX65, xX66, xX67, xX68⟩ := X6.u9
        go_wp2_with (at_builtin; refine wpList_na rfl _ _ rfl rfl rfl (N2.below (bel1 _ _)) b1 (Bo.new _ _ _) (by omega) (Nat.le_trans HB.out.size (bel1 _ _).size) ?_)
        intro B2 d3 w8 N2' G2 at2
        clear xX60 xX61 xX62 xX63 xX64 xX65 xX66 xX67 xX68; have hB2 := bt HB.out (bel1 _ (.cells #[.int .i64 D', .bool s', .int .u64 M', .int .i64 E'] 24)); have N2b := N2.below (bel1 _ (.cells #[.int .i64 D', .bool s', .int .u64 M', .int .i64 E'] 24)); have N1b := N1'.below (bel1 _ (.cells #[.int .i64 D', .bool s', .int .u64 M', .int .i64 E'] 24))
        have lA : ∀ k, ownA A2 = some k → k < w7.heap.size + 1 := fun k hk => by
          have := (N1b.own_lt k hk).2
          simpa using this
        have hne2 : ∀ k, ownA A2 = some k → ownA B2 ≠ some k := ne_row HNE.out at1 at2 l1 lA
        have hne1 : ∀ k, ownA A2 = some k → ownA B1 ≠ some k := ne_row HNE.out at1 (.inl rfl) l1 lA
        replace HB := Lib.hid (hB2.grown G2 hB2.size (fun k hk => (N2b.own_lt k hk).1))
        replace N1' := N1b.kept G2 (own_ne' hne1)
        have t1 := HSL.out; have t2 := HSH.out; clear N1b N2b G2 hB2 hne1 X6 N2 l1 lA at1 at2 HSL HSH HNE; go_wp2
        go_roundw
        case rel => exact ⟨k + 1, _, _, _, _, by omega, rfl, rfl, by go_num, by rw [t1]; exact N1', by rw [t2]; exact N2', hne2, HB.out⟩
        case measure => simp [intOf]; omega
      · obtain rfl : k = n := by omega
        have tlt : decide ((k : Int) < (k : Int)) = false := by simp
        have e1 : l.take k = l := List.take_of_length_le (by rw [HLn.out]; omega)
        rw [e1] at N1 N2; have L1 := N1.nl (by omega); have L2 := N2.nl (by omega); replace XR := XR.below HB.out; replace hT := hT.below HB.out; replace HB := Lib.hid (bt HB0.out HB.out); clear N1 N2 e1 hne HB0 h HP
        go_wp2_with fail
        refine (aSum hT L1 HU.out).mono ?_; rintro ee w9 ⟨K21, s21, M21, E21, rfl, q21, B⟩; replace XR := XR.below B; replace hT := hT.below B; replace L1 := L1.below B; replace L2 := L2.below B; replace HB := Lib.hid (bt HB.out B); clear B
        go_wp2_with fail
        refine (aSum hT L2 HV.out).mono ?_; rintro ee wA ⟨K22, s22, M22, E22, rfl, q22, B⟩; replace XR := XR.below B; replace hT := hT.below B; replace L1 := L1.below B; replace L2 := L2.below B; replace HB := Lib.hid (bt HB.out B); clear B
        go_wp2_with fail
        refine (kvMake q21.top q22.top q21.rk q22.rk HZ.out).mono ?_; rintro ee wB ⟨e23, K23, s23, M23, E23, K23b, s23b, M23b, E23b, rfl, v23, B⟩; replace XR := XR.below B; replace hT := hT.below B; replace L1 := L1.below B; replace L2 := L2.below B; replace HB := Lib.hid (bt HB.out B); clear B; clear L1 L2 hT; obtain ⟨xXR0, xXR1, xXR2, xXR3, xXR4, xXR5, xXR6, xXR7, xXR8⟩ := XR.u9; have zXR0 := XR.frozen
        go_wp2; clear xXR0 zXR0 xXR1 xXR2 xXR3 xXR4 xXR5 xXR6 xXR7 xXR8; have SX := StN.mk9 XR (.bool e23) (.int .i64 K23) (.bool s23) (.int .u64 M23) (.int .i64 E23) (.int .i64 K23b) (.bool s23b) (.int .u64 M23b) (.int .i64 E23b); exact bodyPost_ret (by simp [results, Tryz.results12, go_sem, SX.box.cell]) rfl ⟨_, _, _, _, _, _, _, _, _, rfl, v23, (SX.below HB.out (by omega))⟩
  · obtain rfl : none = z := (add_gone HP.out).symm.trans hr
    clear HP hT h hr
    go_wp2_with fail
    refine (kvNoneE).mono ?_; rintro ee w3 ⟨rfl, B⟩; replace XR := XR.below B; replace HB := Lib.hid (bt HB.out B); clear B; obtain ⟨xXR0, xXR1, xXR2, xXR3, xXR4, xXR5, xXR6, xXR7, xXR8⟩ := XR.u9; have zXR0 := XR.frozen; go_wp2; clear xXR0 zXR0 xXR1 xXR2 xXR3 xXR4 xXR5 xXR6 xXR7 xXR8; have SX := StN.mk9 XR (.bool true) (.int .i64 0) (.bool false) (.int .u64 0) (.int .i64 0) (.int .i64 0) (.bool false) (.int .u64 0) (.int .i64 0)
    exact bodyPost_ret (by simp [results, Tryz.results12, go_sem, SX.box.cell]) rfl ⟨_, _, _, _, _, _, _, _, _, rfl, Ci.none, (SX.below HB.out (by omega))⟩
set_option maxHeartbeats 4000000 in
theorem fkSub {w : World} {e : Bool} {D M E D' M' E' : Int} {s s' : Bool} {e2 : Bool} {G P Q G' P' Q' : Int} {g g' : Bool} {x y z : Sp} (hT : Tb w) (hM : M < 18446744073709551616) (hM' : M' < 18446744073709551616) (hP : P < 18446744073709551616) (hP' : P' < 18446744073709551616) (hx : rkI e D s M E D' s' M' E' = x) (hy : rkI e2 G g P Q G' g' P' Q' = y) (hr : subI x y = z) : Calls Tryz.prog 14 #[.agg #[.bool e, .int .i64 D, .bool s, .int .u64 M, .int .i64 E, .int .i64 D', .bool s', .int .u64 M', .int .i64 E'], .agg #[.bool e2, .int .i64 G, .bool g, .int .u64 P, .int .i64 Q, .int .i64 G', .bool g', .int .u64 P', .int .i64 Q']] w (PV w z) := by
  obtain ⟨m, hm⟩ : ∃ m, negI y = m := ⟨_, rfl⟩
  have hr2 : addL [x, m] = z := by rw [← hm]; exact hr
  have HX := Lib.hid hx; have HY := Lib.hid hy; have HM := Lib.hid hm; have HR := Lib.hid hr2; clear hx hy hm hr hr2
  go_enter Tryz.func14, Tryz.ntmps14
  go_upto_region 1 with (fail)
  generalize hW1 : ((w.alloc _).alloc _).alloc _ = w1 at *; obtain ⟨X2, X3, XR, HB⟩ := Bo.en3 hW1; replace hT := hT.below HB.out; clear hW1; refine Jo.rk [0, 1, 2, 3, 4] [some 5, some 6, some 7, some 8, some 9, none] [[], [], [1], [0, 2], [3], []] 6 1 [Jo.q9 e D s M E D' s' M' E', Jo.q9 e2 G g P Q G' g' P' Q', Jo.Fact.iv m, Jo.Fact.il8 2 [x, m], Jo.Fact.iv z, Jo.Fact.any] (by kernel_rfl) (by kernel_rfl) (by decide) rfl ?_ ?_
  · refine Jo.jm rfl ?_ ?_
    · rintro wj hJ K hK; simp only [Jo.z] at hK ⊢; obtain ⟨xX20, xX21, xX22, xX23, xX24, xX25, xX26, xX27, xX28⟩ := (X2.below hJ).u9; go_simp; exact hK.out _ _ rfl (br _ _)
    refine Jo.jm rfl ?_ ?_
    · rintro wj hJ K hK; simp only [Jo.z] at hK ⊢; obtain ⟨xX30, xX31, xX32, xX33, xX34, xX35, xX36, xX37, xX38⟩ := (X3.below hJ).u9; go_simp; exact hK.out _ _ rfl (br _ _)
    refine Jo.jm rfl ?_ ?_
    · rintro wj hJ _ rfl K hK; simp only [Jo.z] at hK ⊢; go_simp; refine (fkNeg hP hP' HY.out HM.out).mono ?_; rintro ee wk ⟨e1, K1, s1, M1, E1, K1b, s1b, M1b, E1b, rfl, v1, B⟩; exact hK.out _ _ ⟨e1, K1, s1, M1, E1, K1b, s1b, M1b, E1b, rfl, v1⟩ B
    refine Jo.jm rfl ?_ ?_
    · rintro wj hJ _ rfl _ ⟨e1, K1, s1, M1, E1, K1b, s1b, M1b, E1b, rfl, v1⟩ K hK; simp only [Jo.z] at hK ⊢; go_simp; exact hK.out _ _ ⟨_, 2, rfl, Il8.lit2 rfl ⟨hM, hM', HX.out⟩ v1.rw⟩ (bel1 _ _)
    refine Jo.jm rfl ?_ ?_
    · rintro wj hJ _ ⟨A3, c3, rfl, h3⟩ K hK; simp only [Jo.z] at hK ⊢; go_simp; refine (fkAdd (hT.below hJ) h3 HR.out).mono ?_; rintro ee wk ⟨e2, K2, s2, M2, E2, K2b, s2b, M2b, E2b, rfl, v2, B⟩; exact hK.out _ _ ⟨e2, K2, s2, M2, E2, K2b, s2b, M2b, E2b, rfl, v2⟩ B
    exact Jo.Steps.nil
  rintro w8 hJ _ rfl _ rfl _ ⟨e1, K1, s1, M1, E1, K1b, s1b, M1b, E1b, rfl, v1⟩ _ ⟨_, _, rfl, _⟩ _ ⟨e2, K2, s2, M2, E2, K2b, s2b, M2b, E2b, rfl, v2⟩ -; simp only [Jo.z]; replace X2 := X2.below hJ; replace X3 := X3.below hJ; replace XR := XR.below hJ; replace hT := hT.below hJ; replace HB := Lib.hid (bt HB.out hJ); obtain ⟨xXR0, xXR1, xXR2, xXR3, xXR4, xXR5, xXR6, xXR7, xXR8⟩ := XR.u9; have zXR0 := XR.frozen
  refine Jo.jnext (i := 5) (o := ⟨none, _, _, _, _, _⟩) (by kernel_rfl) rfl (fun K hK => ?_)
  go_simp; refine hK.out _ _ ?_; clear hK K xXR0 zXR0 xXR1 xXR2 xXR3 xXR4 xXR5 xXR6 xXR7 xXR8; have SX := StN.mk9 XR (.bool e2) (.int .i64 K2) (.bool s2) (.int .u64 M2) (.int .i64 E2) (.int .i64 K2b) (.bool s2b) (.int .u64 M2b) (.int .i64 E2b); refine Jo.jdone (by kernel_rfl) ?_; go_wp2; exact bodyPost_ret (by simp [results, Tryz.results14, go_sem, SX.box.cell]) rfl ⟨_, _, _, _, _, _, _, _, _, rfl, v2, (SX.below HB.out (by omega))⟩
end Go.Proofs.YteejbcimmmcnlaaGreatDoor

/-
  What the document's Root of layer 7 does.
-/
namespace Go.Proofs.YteejbcimmmcnlaaGreatDoor
open Go.RowKit
set_option linter.unusedVariables false
set_option linter.unusedSimpArgs false
set_option maxRecDepth 100000

/-- The root's place, and whether there is one. -/
def Ro (up : Bool) (x r : Int) (t : Bool) : Prop := if x < 0 then r = 0 ∧ t = false else if x = 0 ∨ infp x = true then r = x ∧ t = true else Rt up (vr x * 2 ^ KK) r ∧ t = true
theorem ro_neg {up : Bool} {x r : Int} {t : Bool} (h : x < 0) : Ro up x r t ↔ (r = 0 ∧ t = false) := by
  unfold Ro
  rw [if_pos h]
theorem ro_it {up : Bool} {x r : Int} {t : Bool} (h : ¬ x < 0) (h2 : x = 0 ∨ infp x = true) : Ro up x r t ↔ (r = x ∧ t = true) := by
  unfold Ro
  rw [if_neg h, if_pos h2]
theorem ro_fin {up : Bool} {x r : Int} {t : Bool} (h : ¬ x < 0) (h2 : ¬ (x = 0 ∨ infp x = true)) : Ro up x r t ↔ (Rt up (vr x * 2 ^ KK) r ∧ t = true) := by
  unfold Ro
  rw [if_neg h, if_neg h2]
end Go.Proofs.YteejbcimmmcnlaaGreatDoor

/-
  How far from nought, squares and roots of intervals, by the places of their ends. Plain arithmetic; no Go text.
-/
namespace Go.Proofs.YteejbcimmmcnlaaGreatDoor
open Go.RowKit
set_option linter.unusedVariables false

def absI (x : Sp) : Sp := match x with
  | none => none
  | some (a, b) => if 0 ≤ a then some (a, b) else if b ≤ 0 then negI (some (a, b)) else mkI 0 (max b (-a))
def sqrI (x : Sp) : Sp := match absI x with
  | none => none
  | some (a, b) => mkI (mulp false a a) (mulp true b b)
def rootI (r : Bool → Int → Int) (x : Sp) : Sp := match meetI x (some (0, 19342822337206103650074625)) with
  | none => none
  | some (a, b) => mkI (r false a) (r true b)
/-- The roots' places as a function. -/
def RF (r : Bool → Int → Int) : Prop := ∀ up x, 0 ≤ x → Ro up x (r up x) true
theorem rt_ex9 (up : Bool) {X : Int} (hX : 0 < X) : ∃ r, Rt up X r := by
  obtain ⟨n, hn⟩ : ∃ n : Nat, (n : Int) = 19342822337206103650074625 := ⟨19342822337206103650074625, rfl⟩
  obtain ⟨k, hk, a, b⟩ := last_yes (fun k => (k : Int) ≤ 19342822337206103650074624 ∧ vr (k : Int) * vr (k : Int) ≤ X) ⟨by decide, by rw [show vr ((0 : Nat) : Int) = 0 from rfl]; omega⟩ n (by omega)
  have b' : (k : Int) < 19342822337206103650074624 → X < vr ((k : Int) + 1) * vr ((k : Int) + 1) := fun c => by
    have d : ¬ vr ((k + 1 : Nat) : Int) * vr ((k + 1 : Nat) : Int) ≤ X := fun d => b ⟨by omega, d⟩
    rw [show ((k + 1 : Nat) : Int) = (k : Int) + 1 by omega] at d
    omega
  cases up
  · exact ⟨k, rt_f.2 ⟨by omega, a.1, a.2, b'⟩⟩
  · by_cases e : vr (k : Int) * vr (k : Int) = X
    · have k0 : 0 < (k : Int) := by
        rcases Int.lt_or_le 0 (k : Int) with q | q
        · exact q
        · exfalso
          rw [show (k : Int) = 0 by omega, show vr 0 = 0 from rfl] at e
          omega
      have s := sq_lt (vr_nn (x := (k : Int) - 1) (by omega)) (vr_lt (show (k : Int) - 1 < k by omega))
      exact ⟨k, rt_t.2 ⟨k0, by omega, fun _ => by omega, by omega⟩⟩
    · refine ⟨(k : Int) + 1, rt_t.2 ⟨by omega, by omega, fun c => Int.le_of_lt (b' (by omega)), ?_⟩⟩
      rw [show (k : Int) + 1 - 1 = k by omega]
      omega
theorem ro_ex9 (up : Bool) (x : Int) (h : 0 ≤ x) : ∃ r, Ro up x r true := by
  by_cases c2 : x = 0 ∨ infp x = true
  · exact ⟨x, (ro_it (by omega) c2).2 ⟨rfl, rfl⟩⟩
  · obtain ⟨r, hr⟩ := rt_ex9 up (Int.mul_pos (vr_pos (show 0 < x by omega)) (p2pos KK))
    exact ⟨r, (ro_fin (by omega) c2).2 ⟨hr, rfl⟩⟩
theorem rf_ex : ∃ r, RF r := by
  have h : ∀ p : Bool × Int, ∃ r, 0 ≤ p.2 → Ro p.1 p.2 r true := fun p => by
    by_cases c : 0 ≤ p.2
    · obtain ⟨r, hr⟩ := ro_ex9 p.1 p.2 c
      exact ⟨r, fun _ => hr⟩
    · exact ⟨0, fun e => absurd e c⟩
  exact ⟨fun up x => Classical.choose (h (up, x)), fun up x => Classical.choose_spec (h (up, x))⟩
theorem Rt.mono9 {up : Bool} {X Y r t : Int} (h : Rt up X r) (k : Rt up Y t) (hXY : X ≤ Y) : r ≤ t := by
  rcases Int.lt_or_le t r with c | c
  · exfalso
    cases up
    · obtain ⟨h1, h2, h3, h4⟩ := rt_f.1 h; obtain ⟨k1, k2, k3, k4⟩ := rt_f.1 k; have a := k4 (by omega); have b := vr_sq (r := t + 1) (t := r) (by omega) (by omega)
      omega
    · obtain ⟨h1, h2, h3, h4⟩ := rt_t.1 h; obtain ⟨k1, k2, k3, k4⟩ := rt_t.1 k; have a := k3 (by omega); have b := vr_sq (r := t) (t := r - 1) (by omega) (by omega)
      omega
  · exact c
theorem infp_top : infp 19342822337206103650074625 = true := by decide
section
variable {r : Bool → Int → Int}
theorem RF.zero (hr : RF r) (up : Bool) : r up 0 = 0 := ((ro_it (by decide) (.inl rfl)).1 (hr up 0 (by decide))).1
theorem RF.top (hr : RF r) (up : Bool) : r up 19342822337206103650074625 = 19342822337206103650074625 := ((ro_it (by decide) (.inr infp_top)).1 (hr up _ (by decide))).1
theorem RF.fin (hr : RF r) (up : Bool) {x : Int} (h0 : 0 < x) (h1 : x < 19342822337206103650074625) : Rt up (vr x * 2 ^ KK) (r up x) :=
  ((ro_fin (by omega) (by rw [infp_fin (by omega) h1]; simp; omega)).1 (hr up x (by omega))).1
theorem RF.in (hr : RF r) (up : Bool) {x : Int} (h0 : 0 ≤ x) (h1 : x ≤ 19342822337206103650074625) : 0 ≤ r up x ∧ r up x ≤ 19342822337206103650074625 := by
  by_cases c : x = 0
  · subst c; rw [hr.zero]
    decide
  · by_cases d : x = 19342822337206103650074625
    · subst d; rw [hr.top]
      decide
    · have := hr.fin up (x := x) (by omega) (by omega)
      cases up
      · have := rt_f.1 this
        omega
      · have := rt_t.1 this
        omega
theorem RF.mono (hr : RF r) (up : Bool) {x y : Int} (h0 : 0 ≤ x) (h : x ≤ y) (h1 : y ≤ 19342822337206103650074625) : r up x ≤ r up y := by
  have X := hr.in up h0 (by omega)
  have Y := hr.in up (show 0 ≤ y by omega) h1
  by_cases c : x = 0
  · subst c; rw [hr.zero]
    omega
  · by_cases d : y = 19342822337206103650074625
    · subst d; rw [hr.top]
      omega
    · exact (hr.fin up (by omega) (by omega)).mono9 (hr.fin up (by omega) (by omega)) (Int.mul_le_mul_of_nonneg_right (vr_le h) (Int.le_of_lt (p2pos KK)))
end
/-- How far from nought: the ends. -/
theorem abs_eq {a b : Int} (h : SpOk (some (a, b))) : absI (some (a, b)) = some (max 0 (max a (-b)), max b (-a)) ∧ SpOk (some (max 0 (max a (-b)), max b (-a))) := by
  obtain ⟨h1, h2, h3, h4, h5⟩ := h
  constructor
  · show (if _ then _ else _) = _
    by_cases c : 0 ≤ a
    · rw [if_pos c, show max 0 (max a (-b)) = a by omega, show max b (-a) = b by omega]
    · rw [if_neg c]
      by_cases d : b ≤ 0
      · rw [if_pos d, negI_some ⟨h1, h2, h3, h4, h5⟩, show max 0 (max a (-b)) = -b by omega, show max b (-a) = -a by omega]
      · rw [if_neg d, mkI_some (by omega) (by omega) (by omega), show max 0 (max a (-b)) = 0 by omega]
  · exact ⟨by omega, by omega, by omega, by omega, by omega⟩
theorem abs_wit {x z : Sp} (hx : SpOk x) (hz : SpOk z) (h : witI x z = true) : witI (absI x) (absI z) = true := by
  rcases x with _ | ⟨a, b⟩
  · rfl
  obtain ⟨c, d, rfl, h1, h2⟩ := wit_some h; rw [(abs_eq hx).1, (abs_eq hz).1]; exact wit_iff.2 ⟨by omega, by omega⟩
theorem sqr_eq {a b : Int} (h : SpOk (some (a, b))) : sqrI (some (a, b)) = mkI (mulp false (max 0 (max a (-b))) (max 0 (max a (-b)))) (mulp true (max b (-a)) (max b (-a))) := by
  unfold sqrI
  rw [(abs_eq h).1]
theorem mulp_sq {x y : Int} (up : Bool) (h0 : 0 ≤ x) (h : x ≤ y) (h1 : y ≤ 19342822337206103650074625) : mulp up x x ≤ mulp up y y := by
  have a := mulp_up (x := x) (y := y) (z := x) up (by omega) (by omega) (by omega) h1 h0 (by omega) h; have b := mulp_up (x := x) (y := y) (z := y) up (by omega) (by omega) (by omega) h1 (by omega) h1 h; rw [mulp_comm (x := y) (y := x)] at a
  omega
theorem sqr_wit {x z : Sp} (hx : SpOk x) (hz : SpOk z) (h : witI x z = true) : witI (sqrI x) (sqrI z) = true := by
  rcases x with _ | ⟨a, b⟩
  · rfl
  obtain ⟨c, d, rfl, h1, h2⟩ := wit_some h; rw [sqr_eq hx, sqr_eq hz]; obtain ⟨x1, x2, x3, x4, x5⟩ := hx; obtain ⟨z1, z2, z3, z4, z5⟩ := hz; exact wit_mk (mulp_sq false (by omega) (by omega) (by omega)) (mulp_sq true (by omega) (by omega) (by omega))
theorem mulp_negs (up : Bool) (x : Int) : mulp up (-x) (-x) = mulp up x x := by
  have h := mulp_neg (x := x) (y := -x) (!up); rw [Bool.not_not] at h; rw [h, mulp_comm, mulp_neg, Int.neg_neg]
/-- A square is within the product with itself. -/
theorem sqr_mul {x : Sp} (hx : SpOk x) : witI (sqrI x) (mulI x x) = true := by
  rcases x with _ | ⟨a, b⟩
  · rfl
  rw [sqr_eq hx]
  have key : ∀ (up : Bool) (l : Int), (a ≤ l ∧ l ≤ b) ∨ (a ≤ -l ∧ -l ≤ b) → min (min (mulp up a a) (mulp up a b)) (min (mulp up b a) (mulp up b b)) ≤ mulp up l l ∧ mulp up l l ≤ max (max (mulp up a a) (mulp up a b)) (max (mulp up b a) (mulp up b b)) := by
    intro up l h
    rcases h with ⟨h1, h2⟩ | ⟨h1, h2⟩
    · exact mul_in up hx hx h1 h2 h1 h2
    · rw [← mulp_negs up l]; exact mul_in up hx hx h1 h2 h1 h2
  have hab := hx.2.1; have k1 := (key false (max 0 (max a (-b))) (by omega)).1; have k2 := (key true (max b (-a)) (by omega)).2
  show witI (mkI _ _) (cor mulp a b a b) = true
  unfold cor
  exact wit_mk k1 k2
section
variable {r : Bool → Int → Int}
theorem meet_root {a b : Int} (h : SpOk (some (a, b))) : (b < 0 ∧ meetI (some (a, b)) (some (0, 19342822337206103650074625)) = none) ∨ (0 ≤ b ∧ meetI (some (a, b)) (some (0, 19342822337206103650074625)) = some (max a 0, b)) := by
  obtain ⟨h1, h2, h3, h4, h5⟩ := h
  by_cases c : b < 0
  · exact .inl ⟨c, mkI_none (by omega)⟩
  · refine .inr ⟨by omega, ?_⟩
    show mkI _ _ = _
    rw [show min b 19342822337206103650074625 = b by omega]
    exact mkI_some (by omega) (by omega) (by omega)
theorem root_no {a b : Int} (h : SpOk (some (a, b))) (c : b < 0) : rootI r (some (a, b)) = none := by
  rcases meet_root h with ⟨_, e⟩ | ⟨d, _⟩
  · unfold rootI
    rw [e]
  · omega
theorem root_eq {a b : Int} (h : SpOk (some (a, b))) (c : 0 ≤ b) : rootI r (some (a, b)) = mkI (r false (max a 0)) (r true b) := by
  rcases meet_root h with ⟨d, _⟩ | ⟨_, e⟩
  · omega
  · unfold rootI
    rw [e]
theorem root_wit (hr : RF r) {x z : Sp} (hx : SpOk x) (hz : SpOk z) (h : witI x z = true) : witI (rootI r x) (rootI r z) = true := by
  rcases x with _ | ⟨a, b⟩
  · rfl
  obtain ⟨c, d, rfl, h1, h2⟩ := wit_some h
  by_cases e : b < 0
  · rw [root_no hx e]
    rfl
  · rw [root_eq hx (by omega), root_eq hz (by omega)]; obtain ⟨x1, x2, x3, x4, x5⟩ := hx; obtain ⟨z1, z2, z3, z4, z5⟩ := hz; exact wit_mk (hr.mono false (by omega) (by omega) (by omega)) (hr.mono true (by omega) (by omega) (by omega))
/-- A product's worth and that of the factors. -/
theorem mulp_worth {x : Int} (h0 : 0 < x) (h1 : x < 19342822337206103650074625) : (0 ≤ mulp false x x ∧ mulp false x x < 19342822337206103650074625 ∧ vr (mulp false x x) * 2 ^ KK ≤ vr x * vr x) ∧ (0 < mulp true x x ∧ (mulp true x x < 19342822337206103650074625 → vr x * vr x ≤ vr (mulp true x x) * 2 ^ KK)) := by
  have hi := infp_fin (x := x) (by omega) h1
  have hn : ¬ (x = 0 ∨ x = 0) := by omega
  have hm : ¬ (infp x = true ∨ infp x = true) := by rw [hi]; simp
  obtain ⟨nf, v⟩ := pro_spec (x := x) (y := x) (by omega) h1 (by omega) h1; obtain ⟨⟨d1, d2, d3, d4⟩, u1, u2, u3, u4⟩ := rnd_spec nf; have a := mulp_nn (x := x) (z := x) false h0 h0 (by omega) (by omega); rw [mulp_fin true hn hm]; rw [mulp_fin false hn hm] at a ⊢
  have hv : 0 < vr x * vr x := Int.mul_pos (vr_pos h0) (vr_pos h0)
  refine ⟨⟨a, by omega, ?_⟩, ?_, fun c => ?_⟩
  · rw [← v]; exact Int.mul_le_mul_of_nonneg_right (d3 (by omega)) (Int.le_of_lt (p2pos KK))
  · rcases Int.lt_or_le 0 (rnd true (ml (ep x) (ep x)).1 (ml (ep x) (ep x)).2) with q | q
    · exact q
    · exfalso
      have c := u3 (by omega); rw [vr_neg] at c; have e := vr_le q
      rw [show vr 0 = 0 from rfl] at e
      have f : vl (ml (ep x) (ep x)) ≤ 0 := by omega
      have g := Int.mul_nonneg (show 0 ≤ -vl (ml (ep x) (ep x)) by omega) (Int.le_of_lt (p2pos KK))
      rw [Int.neg_mul] at g
      omega
  · rw [← v]; have e := u3 (by omega); rw [vr_neg] at e; exact Int.mul_le_mul_of_nonneg_right (by omega) (Int.le_of_lt (p2pos KK))
theorem sq_of {a b : Int} (ha : 0 ≤ a) (hb : 0 ≤ b) (h : vr a * vr a ≤ vr b * vr b) : a ≤ b := by
  rcases Int.lt_or_le b a with c | c
  · have := sq_lt (vr_nn hb) (vr_lt c)
    omega
  · exact c
/-- How far from nought is within the root of the square. -/
theorem abs_root (hr : RF r) {x : Sp} (hx : SpOk x) : witI (absI x) (rootI r (sqrI x)) = true := by
  rcases x with _ | ⟨a, b⟩
  · rfl
  have he := abs_eq hx; rw [he.1, sqr_eq hx]; obtain ⟨y1, y2, y3, y4, y5⟩ := he.2
  have l0 : 0 ≤ max 0 (max a (-b)) := by omega
  generalize max 0 (max a (-b)) = l at *; generalize max b (-a) = h at *
  have S : (0 ≤ mulp false l l ∧ mulp false l l < 19342822337206103650074625 ∧ r false (mulp false l l) ≤ l) := by
    by_cases c : l = 0
    · subst c; rw [mulp_zero false (.inl rfl), hr.zero]
      decide
    · obtain ⟨⟨p1, p2, p3⟩, _⟩ := mulp_worth (x := l) (by omega) y4; refine ⟨p1, p2, ?_⟩
      by_cases z : mulp false l l = 0
      · rw [z, hr.zero]
        omega
      · have := rt_f.1 (hr.fin false (x := mulp false l l) (by omega) p2)
        exact sq_of this.1 (by omega) (by omega)
  have T : (0 ≤ mulp true h h ∧ h ≤ r true (mulp true h h)) := by
    by_cases c : h = 0
    · subst c; rw [mulp_zero true (.inl rfl), hr.zero]
      decide
    · by_cases d : h = 19342822337206103650074625
      · subst d
        have e : mulp true 19342822337206103650074625 19342822337206103650074625 = 19342822337206103650074625 := by decide
        rw [e, hr.top]
        decide
      · obtain ⟨_, p1, p2⟩ := mulp_worth (x := h) (by omega) (by omega); refine ⟨by omega, ?_⟩
        by_cases e : mulp true h h = 19342822337206103650074625
        · rw [e, hr.top]
          omega
        · have bd := mulp_bd (x := h) (y := h) true; obtain ⟨q1, q2, q3, q4⟩ := rt_t.1 (hr.fin true (x := mulp true h h) p1 (by omega))
          by_cases f : r true (mulp true h h) = 19342822337206103650074625
          · omega
          · have := q3 (by omega)
            have := p2 (by omega)
            exact sq_of (by omega) (by omega) (by omega)
  have le : mulp false l l ≤ mulp true h h := by
    have a := mulp_sq false l0 y2 y3
    have b : mulp false h h ≤ mulp true h h := by
      by_cases c : h = 0
      · subst c; rw [mulp_zero true (.inl rfl), mulp_zero false (.inl rfl)]
        decide
      · by_cases d : h = 19342822337206103650074625
        · subst d
          decide
        · have hi := infp_fin (x := h) (by omega) (by omega)
          have hm : ¬ (infp h = true ∨ infp h = true) := by rw [hi]; simp
          rw [mulp_fin true (by omega) hm, mulp_fin false (by omega) hm]; obtain ⟨nf, v⟩ := pro_spec (x := h) (y := h) (by omega) (by omega) (by omega) (by omega); exact dn_le_up (rnd_spec nf).1 (rnd_spec nf).2
    omega
  have bd := mulp_bd (x := h) (y := h) true
  have em := mkI_some le S.2.1 (show -19342822337206103650074625 < mulp true h h by omega)
  have so : SpOk (some (mulp false l l, mulp true h h)) := ⟨by omega, le, bd.2, S.2.1, by omega⟩
  rw [em, root_eq so T.1, show max (mulp false l l) 0 = mulp false l l by omega, mkI_some (by omega) (by omega) (by omega)]
  exact wit_iff.2 ⟨S.2.2, T.2⟩
end
end Go.Proofs.YteejbcimmmcnlaaGreatDoor

/-
  What the document's Abs and Sqr of intervals do.
-/
namespace Go.Proofs.YteejbcimmmcnlaaGreatDoor
open Go.RowKit
set_option linter.unusedVariables false
set_option linter.unusedSimpArgs false
set_option maxRecDepth 100000

def sqrM (x : Sp) : Sp := match x with
  | none => none
  | some (a, b) => mkI (mulp false a a) (mulp true b b)
theorem sqr_abs (x : Sp) : sqrI x = sqrM (absI x) := by
  unfold sqrI sqrM
  rfl
end Go.Proofs.YteejbcimmmcnlaaGreatDoor

/-
  What the document's Root of intervals does.
-/
namespace Go.Proofs.YteejbcimmmcnlaaGreatDoor
open Go.RowKit
set_option linter.unusedVariables false
set_option linter.unusedSimpArgs false
set_option maxRecDepth 100000

def rootM (r : Bool → Int → Int) (x : Sp) : Sp := match x with
  | none => none
  | some (a, b) => mkI (r false a) (r true b)
theorem root_meet (r : Bool → Int → Int) (x : Sp) : rootI r x = rootM r (meetI x (some (0, 19342822337206103650074625))) := by
  unfold rootI rootM
  rfl
theorem meet_nn {x : Sp} {a b : Int} (h : meetI x (some (0, 19342822337206103650074625)) = some (a, b)) : 0 ≤ a ∧ a ≤ b := by
  rcases x with _ | ⟨c, d⟩
  · cases h
  · have h2 : mkI (max c 0) (min d 19342822337206103650074625) = some (a, b) := h
    unfold mkI at h2
    split at h2
    · cases h2
      omega
    · cases h2
end Go.Proofs.YteejbcimmmcnlaaGreatDoor

/-
  Quotients and roots by their highest bits, and whether something is left behind these. Plain arithmetic; no Go text.
-/
namespace Go.Proofs.YteejbcimmmcnlaaGreatDoor
open Go.RowKit
set_option linter.unusedVariables false

theorem stk_iff {q d d' : Nat} (h : d = 0 ↔ d' = 0) : stk q d = stk q d' := by
  unfold stk
  by_cases c : d = 0
  · rw [if_pos c, if_pos (h.1 c)]
  · rw [if_neg c, if_neg (fun e => c (h.2 e))]
theorem stk_two (q d : Nat) : stk q d ≤ 2 * q + 1 := by
  unfold stk
  split <;> omega
theorem le_of_blen {a k : Nat} (h0 : 0 < a) (h : k < blen a) : 2 ^ k ≤ a := by
  have h1 := blen_le (n := a) (by omega); exact Nat.le_trans (Nat.pow_le_pow_right (by decide) (by omega)) h1
/-- The quotient's bits, the number moved up by k. -/
theorem part_up {α β k : Nat} {e : Int} (hα : 0 < α) (hβ : 0 < β) (hk : (blen β : Int) - (blen α : Int) + 64 = (k : Int)) (ha : blen α ≤ 112000) (hb : blen β ≤ 112000) (e1 : -2200000 ≤ e) (e2 : e ≤ 2200000) (σ up : Bool) :
    Sid up (sgi σ ((α : Int) * 2 ^ (e + KK).toNat)) (β : Int) (rnd up (mk (sgi σ ((stk (α * 2 ^ k / β) (α * 2 ^ k % β) : Nat) : Int)) (e - k - 1)).1 (mk (sgi σ ((stk (α * 2 ^ k / β) (α * 2 ^ k % β) : Nat) : Int)) (e - k - 1)).2) := by
  obtain ⟨κ, hκ⟩ : ∃ κ : Nat, κ = 500000 := ⟨_, rfl⟩
  have la : 0 < blen α := by
    rcases Nat.eq_zero_or_pos (blen α) with c | c
    · have := blen_lt α
      rw [c] at this
      omega
    · exact c
  have hq : 9223372036854775808 ≤ α * 2 ^ k / β := by
    rw [Nat.le_div_iff_mul_le hβ]; have l1 := blen_lt β
    have l2 : 2 ^ 63 * β ≤ 2 ^ 63 * 2 ^ blen β := Nat.mul_le_mul_left _ (Nat.le_of_lt l1)
    have l3 := le_of_blen (k := blen α - 1) hα (by omega)
    have l4 : 2 ^ (blen α - 1) * 2 ^ k ≤ α * 2 ^ k := Nat.mul_le_mul_right _ l3
    rw [← Nat.pow_add] at l2 l4
    rw [show blen α - 1 + k = 63 + blen β by omega] at l4
    omega
  have hs : stk (α * 2 ^ k / β) (α * 2 ^ k % β) < 2 ^ κ := by
    have q1 : α * 2 ^ k / β ≤ α * 2 ^ k := Nat.div_le_self _ _
    have q2 : α * 2 ^ k < 2 ^ blen α * 2 ^ k := Nat.mul_lt_mul_of_pos_right (blen_lt α) (Nat.pow_pos (by decide))
    rw [← Nat.pow_add] at q2; have q3 := stk_two (α * 2 ^ k / β) (α * 2 ^ k % β)
    have q4 : 2 ^ (blen α + k + 1) ≤ 2 ^ κ := Nat.pow_le_pow_right (by decide) (by omega)
    rw [Nat.pow_succ] at q4
    omega
  rw [rnd_sgi]
  exact sid_sgi (quo_side (up != σ) hβ (fun _ => hq) hκ hs (by omega) (by omega))
theorem left_iff {α β k : Nat} : α % (β * 2 ^ k) = 0 ↔ α / 2 ^ k * 2 ^ k = α ∧ α / 2 ^ k % β = 0 := by
  have hp : 0 < 2 ^ k := Nat.pow_pos (by decide)
  constructor
  · intro h
    obtain ⟨t, ht⟩ := Nat.dvd_of_mod_eq_zero h
    have e : α / 2 ^ k = β * t := by
      rw [ht, Nat.mul_right_comm, Nat.mul_div_cancel _ hp]
    rw [e]; refine ⟨?_, Nat.mul_mod_right _ _⟩; rw [ht, Nat.mul_right_comm]
  · rintro ⟨a, b⟩; obtain ⟨t, ht⟩ := Nat.dvd_of_mod_eq_zero b; rw [← a, ht, Nat.mul_right_comm]; exact Nat.mul_mod_right _ _
/-- The quotient's bits, of the number's highest ones. -/
theorem part_dn {α β k d : Nat} {e : Int} (hα : 0 < α) (hβ : 0 < β) (hk : (blen β : Int) - (blen α : Int) + 64 = -(k : Int)) (ha : blen α ≤ 112000) (e1 : -2200000 ≤ e) (e2 : e ≤ 2200000) (hd : d = 0 ↔ (α / 2 ^ k * 2 ^ k = α ∧ α / 2 ^ k % β = 0)) (σ up : Bool) :
    Sid up (sgi σ ((α : Int) * 2 ^ (e + KK).toNat)) (β : Int) (rnd up (mk (sgi σ ((stk (α / 2 ^ k / β) d : Nat) : Int)) (e + k - 1)).1 (mk (sgi σ ((stk (α / 2 ^ k / β) d : Nat) : Int)) (e + k - 1)).2) := by
  have hKK := KK_eq; obtain ⟨κ, hκ⟩ : ∃ κ : Nat, κ = 500000 := ⟨_, rfl⟩
  have hp : 0 < 2 ^ k := Nat.pow_pos (by decide)
  have hD : 0 < β * 2 ^ k := Nat.mul_pos hβ hp
  have es : stk (α / 2 ^ k / β) d = stk (α / (β * 2 ^ k)) (α % (β * 2 ^ k)) := by
    rw [Nat.div_div_eq_div_mul, Nat.mul_comm (2 ^ k) β]; exact stk_iff (hd.trans left_iff.symm)
  rw [es]
  have hq : 9223372036854775808 ≤ α / (β * 2 ^ k) := by
    rw [Nat.le_div_iff_mul_le hD]; have l1 := blen_lt β
    have l2 : 2 ^ 63 * (β * 2 ^ k) ≤ 2 ^ 63 * (2 ^ blen β * 2 ^ k) := Nat.mul_le_mul_left _ (Nat.mul_le_mul_right _ (Nat.le_of_lt l1))
    have l3 := le_of_blen (k := blen α - 1) hα (by omega); rw [← Nat.pow_add, ← Nat.pow_add] at l2
    rw [show blen α - 1 = 63 + (blen β + k) by omega] at l3
    omega
  have hs : stk (α / (β * 2 ^ k)) (α % (β * 2 ^ k)) < 2 ^ κ := by
    have q1 : α / (β * 2 ^ k) ≤ α := Nat.div_le_self _ _
    have q2 := blen_lt α; have q3 := stk_two (α / (β * 2 ^ k)) (α % (β * 2 ^ k))
    have q4 : 2 ^ (blen α + 1) ≤ 2 ^ κ := Nat.pow_le_pow_right (by decide) (by omega)
    rw [Nat.pow_succ] at q4
    omega
  have h := quo_side (α := α) (β := β * 2 ^ k) (e := e + k) (n := 0) (up != σ) hD (fun _ => by rw [Nat.pow_zero, Nat.mul_one]; exact hq) hκ (by rw [Nat.pow_zero, Nat.mul_one]; exact hs) (by omega) (by omega)
  rw [Nat.pow_zero, Nat.mul_one, show e + (k : Int) - ((0 : Nat) : Int) - 1 = e + k - 1 by omega] at h
  rw [rnd_sgi]; refine sid_sgi (h.cross (by omega) (by omega) ?_)
  have e3 : (e + (k : Int) + (KK : Int)).toNat = (e + (KK : Int)).toNat + k := by omega
  rw [e3, Int.pow_add]
  push_cast
  generalize (2 : Int) ^ (e + (KK : Int)).toNat = U; generalize (2 : Int) ^ k = V; rw [Int.mul_assoc, Int.mul_assoc, Int.mul_assoc, Int.mul_comm V (β : Int)]
/-- A word's root by its bits. -/
theorem part_root {N n S : Nat} {e f : Int} (h0 : 9223372036854775808 ≤ N) (h1 : N < 18446744073709551616) (hn : n = 64 ∨ n = 65) (hf : 2 * f = e - n) (hS : rt (N * 2 ^ n) = S) (e1 : -2200000 ≤ e) (e2 : e ≤ 2200000) (up : Bool) :
    Rt up ((N : Int) * 2 ^ (e + 2 * KK).toNat) (rnd up (mk ((stk S (N * 2 ^ n - S * S) : Nat) : Int) (f - 1)).1 (mk ((stk S (N * 2 ^ n - S * S) : Nat) : Int) (f - 1)).2) := by
  obtain ⟨κ, hκ⟩ : ∃ κ : Nat, κ = 500000 := ⟨_, rfl⟩; have hsp := rt_spec (N * 2 ^ n); rw [hS] at hsp
  have lo_ : 2 ^ 126 ≤ N * 2 ^ n := by
    have : 2 ^ 63 * 2 ^ 64 ≤ N * 2 ^ n := Nat.mul_le_mul h0 (Nat.pow_le_pow_right (by decide) (by omega))
    omega
  have hi_ : N * 2 ^ n < 2 ^ 129 := by
    have : N * 2 ^ n < 2 ^ 64 * 2 ^ n := Nat.mul_lt_mul_of_pos_right h1 (Nat.pow_pos (by decide))
    rw [← Nat.pow_add] at this; exact Nat.lt_of_lt_of_le this (Nat.pow_le_pow_right (by decide) (by omega))
  have hb : 9223372036854775808 ≤ S := by
    rcases Nat.lt_or_ge S 9223372036854775808 with c | c
    · exfalso
      have h2 : (S + 1) * (S + 1) ≤ 2 ^ 63 * 2 ^ 63 := Nat.mul_le_mul (by omega) (by omega)
      omega
    · exact c
  have hSX : S ≤ S * S := Nat.le_mul_of_pos_right S (by omega)
  have hst : stk S (N * 2 ^ n - S * S) < 2 ^ κ := by
    have q3 := stk_two S (N * 2 ^ n - S * S)
    have q4 : 2 ^ 131 ≤ 2 ^ κ := Nat.pow_le_pow_right (by decide) (by omega)
    omega
  exact root_side (N := N) (e := e) up (by omega) hsp.2 hb hf hκ hst (by omega) (by omega) (by omega) (by omega)
end Go.Proofs.YteejbcimmmcnlaaGreatDoor
