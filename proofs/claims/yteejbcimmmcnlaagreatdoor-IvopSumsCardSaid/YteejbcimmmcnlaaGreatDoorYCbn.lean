/-
  Contracts and words that the statement's proof rests on, several texts in one: Md, Fu, Fl.
-/
import Derived.Below
import Derived.BigQuiet
import Derived.Carry
import Derived.Deep.DeepCutAuto
import Derived.Deep.Draws
import Derived.Deep.MidRow
import Derived.Deep.QuietTactic
import Derived.Deep.RegionHeld3
import Derived.Deep.RegionWith
import Derived.IntWalk
import Derived.Laws.Bits64b
import Derived.Laws.CopyOwn
import Derived.Laws.Externs
import Derived.Laws.MakeOwn
import Derived.Laws.OwnMore
import Derived.Laws.Rows
import Derived.Lib.BitFns
import Derived.Lib.Hide
import Derived.Lib.Mul64
import Derived.Lib.TrailingZeros
import Derived.Maps.AppendAt
import Derived.StillTailTactics
import Derived.Test.YteejbcimmmcnlaaGreatDoorRows
import Derived.WalkKit
import Derived.WalkLawsBesides
import Derived.WalkSpells
import Derived.Test.YteejbcimmmcnlaaGreatDoorYCbi
import Derived.Test.YteejbcimmmcnlaaGreatDoorYCbk
import Derived.Test.YteejbcimmmcnlaaGreatDoorYCbl
import Derived.Test.YteejbcimmmcnlaaGreatDoorYCbm
/-
  What quot.Div and Root do (split from Ma).
-/
namespace Go.Proofs.YteejbcimmmcnlaaGreatDoor
open Go.RowKit
set_option linter.unusedVariables false
set_option linter.unusedSimpArgs false
set_option maxRecDepth 100000

theorem blen_word {α : Nat} (h0 : 9223372036854775808 ≤ α) (h1 : α < 18446744073709551616) : blen α = 64 := blen_uniq (k := 63) (by omega) h0 h1
/-- What a quotient's bits are rounded to. -/
theorem div_pre {up s t : Bool} {M1 E1 M2 E2 x y r : Int} {α β : Nat} (q1 : Fq 1 s M1 E1 x) (q2 : Fq 1 t M2 E2 y) (ha : (α : Int) = M1) (hb : (β : Int) = M2) (hr : Qt up x y r) (hβ : 0 < β) :
    ∃ P : Bool → Bool → Int → Prop, (∀ σ up r', Sid up (sgi σ ((α : Int) * 2 ^ (E1 - E2 + (KK : Int)).toNat)) (β : Int) r' → P σ up r') ∧ (∀ r', P (s != t) up r' → r' = r) := by
  refine ⟨_, fun _ _ _ h => h, fun r' h => ?_⟩
  have e0 : E1 - E2 + ((0 : Nat) : Int) - ((0 : Nat) : Int) + (KK : Int) = E1 - E2 + (KK : Int) := by omega
  exact (div_side (v := 0) (w := 0) q1 q2 (by rw [← ha]; exact (Int.mul_one _).symm) (by rw [← hb]; exact (Int.mul_one _).symm) hβ (by decide) (by decide) (by rw [e0]; exact h)).uniq hr
set_option maxHeartbeats 2000000 in
theorem kDiv {w : World} {D D' M M' E E' : Int} {s s' : Bool} {up : Bool} {x y r : Int} (hT : Tab w) (hM : M < 18446744073709551616) (hM' : M' < 18446744073709551616) (hx : rk D s M E = x) (hy : rk D' s' M' E' = y) (hr : Qt up x y r) : Calls Tryz.prog 59 #[.agg #[.int .i64 D, .bool s, .int .u64 M, .int .i64 E], .agg #[.int .i64 D', .bool s', .int .u64 M', .int .i64 E'], .bool up] w (PN w r) := by
  obtain ⟨K1, s1, M1, E1, q1⟩ := fq_tk7 (D := D) (s := s) (M := M) (E := E) hM; obtain ⟨K2, s2, M2, E2, q2⟩ := fq_tk7 (D := D') (s := s') (M := M') (E := E') hM'; rw [hx] at q1; rw [hy] at q2; have HX := Lib.hid hx; have HY := Lib.hid hy; clear hx hy
  go_enter Tryz.func59, Tryz.ntmps59
  go_upto_region 1 with (fail)
  generalize hW1 : ((w.alloc _).alloc _).alloc _ = w1 at *; obtain ⟨X3, X4, XR, HB⟩ := Bo.en3 hW1; replace hT := hT.below HB.out; clear hW1
  refine Jo.region_joint (T := [0, 1, 2, 3]) (ds := [some 7, some 8, some 9, some 10, none, none]) (ls := [[], [0], [], [2], [], []]) (k := 6) (L := [(some 7, 0), (some 8, 1), (some 9, 2), (some 10, 3)]) (fuel := 2) (J := fun wj => Below (World.heap w1).size w1 wj)
    (F := [Jo.q4 D s M E, Jo.q4 K1 s1 M1 E1, Jo.q4 D' s' M' E', Jo.q4 K2 s2 M2 E2, Jo.Fact.any, Jo.Fact.any])
    (by kernel_rfl) (by kernel_rfl) (by decide) rfl rfl (fun _ _ h b => bt h b) ((br _ _).drew) ?_ (fun vs w2 hJ hd => ?_)
  · refine Jo.jm rfl ?_ ?_
    · rintro wj hJ K hK; simp only [Jo.z] at hK ⊢; obtain ⟨xX30, xX31, xX32, xX33⟩ := (X3.below hJ).u4; go_simp; exact hK.out _ _ rfl (br _ _)
    refine Jo.jm rfl ?_ ?_
    · rintro wj hJ _ rfl K hK; simp only [Jo.z] at hK ⊢; go_simp; refine (qTaken hM q1 HX.out).mono ?_; rintro ee wk ⟨rfl, B⟩; exact hK.out _ _ rfl B
    refine Jo.jm rfl ?_ ?_
    · rintro wj hJ K hK; simp only [Jo.z] at hK ⊢; obtain ⟨xX40, xX41, xX42, xX43⟩ := (X4.below hJ).u4; go_simp; exact hK.out _ _ rfl (br _ _)
    refine Jo.jm rfl ?_ ?_
    · rintro wj hJ _ rfl K hK; simp only [Jo.z] at hK ⊢; go_simp; refine (qTaken hM' q2 HY.out).mono ?_; rintro ee wk ⟨rfl, B⟩; exact hK.out _ _ rfl B
    exact Jo.Steps.nil
  simp only [Jo.putl, Jo.zd, Jo.ze, Act.put, Jo.za, Jo.zb, Jo.zc]
  rw [show vs 0 = _ from hd 0 (by decide), show vs 1 = _ from hd 1 (by decide), show vs 2 = _ from hd 2 (by decide), show vs 3 = _ from hd 3 (by decide)]
  clear hd; replace X3 := X3.below hJ; replace X4 := X4.below hJ; replace XR := XR.below hJ; replace hT := hT.below hJ; replace HB := Lib.hid (bt HB.out hJ); obtain ⟨xX30, xX31, xX32, xX33⟩ := X3.u4; have zX30 := X3.frozen
  refine Jo.jnext (i := 4) (o := ⟨none, _, _, _, _, _⟩) (by kernel_rfl) rfl (fun K hK => ?_)
  go_simp; refine hK.out _ _ ?_; clear hK K xX30 zX30 xX31 xX32 xX33; generalize hS : (((w2.setCell _ _).setCell _ _).setCell _ _).setCell _ _ = w3 at *; have SX := StN.of4 X3 hS; replace X4 := X4.stn SX (by omega); replace XR := XR.stn SX (by omega); replace hT := hT.stn SX (by simp [no8]); replace HB := Lib.hid (SX.below HB.out (by omega)); replace X3 := SX.box; clear SX hS; obtain ⟨xX40, xX41, xX42, xX43⟩ := X4.u4
  have zX40 := X4.frozen
  refine Jo.jnext (i := 5) (o := ⟨none, _, _, _, _, _⟩) (by kernel_rfl) rfl (fun K hK => ?_)
  go_simp; refine hK.out _ _ ?_; clear hK K xX40 zX40 xX41 xX42 xX43; generalize hS : (((w3.setCell _ _).setCell _ _).setCell _ _).setCell _ _ = w4 at *; have SX := StN.of4 X4 hS; replace X3 := X3.stn SX (by omega); replace XR := XR.stn SX (by omega); replace hT := hT.stn SX (by simp [no8]); replace HB := Lib.hid (SX.below HB.out (by omega)); replace X4 := SX.box; clear SX hS; refine Jo.jdone (by kernel_rfl) ?_
  clear HX HY hM hM'; have i1 := fq_inf q1; have i2 := fq_inf q2; have z1 := q1.zero_iff; have z2 := q2.zero_iff
  have kk1 : K1 = 2 ∨ K1 = 0 ∨ K1 = 1 := by rcases q1.cases with ⟨h, _⟩ | ⟨h, _⟩ | ⟨h, _⟩ <;> omega
  have kk2 : K2 = 2 ∨ K2 = 0 ∨ K2 = 1 := by rcases q2.cases with ⟨h, _⟩ | ⟨h, _⟩ | ⟨h, _⟩ <;> omega
  rcases kk1 with rfl | rfl | rfl
  · rcases kk2 with rfl | rfl | rfl
    · have hy0 : y ≠ 0 := fun c => absurd (z2.2 c) (by decide)
      have hr2 : r = 0 := (qt_zero hy0 (.inr i2)).1 hr
      subst hr2; clear i1 i2 z1 z2 q1 q2 hr hy0 hT; obtain ⟨xXR0, xXR1, xXR2, xXR3⟩ := XR.u4; have zXR0 := XR.frozen; obtain ⟨xX30, xX31, xX32, xX33⟩ := X3.u4; obtain ⟨xX40, xX41, xX42, xX43⟩ := X4.u4; go_wp2; clear xXR0 zXR0 xXR1 xXR2 xXR3 xX30 xX31 xX32 xX33 xX40 xX41 xX42 xX43; have SX := StN.mk4 XR (.int .i64 0) (.bool false) (.int .u64 0) (.int .i64 0); exact bodyPost_ret (by simp [results, Tryz.results59, go_sem, SX.box.cell]) rfl ⟨_, _, _, _, rfl, Fq.nought, (SX.below HB.out (by omega))⟩
    · have hr2 : sgi (!up) TP = r := by
        rw [z2.1 rfl] at hr; exact (qt_none'.1 hr).symm
      have HRR := Lib.hid hr2; clear i1 i2 z1 z2 q1 q2 hr hr2 hT; obtain ⟨xX30, xX31, xX32, xX33⟩ := X3.u4; obtain ⟨xX40, xX41, xX42, xX43⟩ := X4.u4
      go_wp2_with fail
      refine (qAway HRR.out).mono ?_; rintro ee w6 ⟨K3, s3, M3, E3, rfl, q3, B⟩; clear xX30 xX31 xX32 xX33 xX40 xX41 xX42 xX43; replace X3 := X3.below B; replace X4 := X4.below B; replace XR := XR.below B; replace HB := Lib.hid (bt HB.out B); clear B; obtain ⟨xXR0, xXR1, xXR2, xXR3⟩ := XR.u4; have zXR0 := XR.frozen; go_wp2; clear xXR0 zXR0 xXR1 xXR2 xXR3; have SX := StN.mk4 XR (.int .i64 K3) (.bool s3) (.int .u64 M3) (.int .i64 E3)
      exact bodyPost_ret (by simp [results, Tryz.results59, go_sem, SX.box.cell]) rfl ⟨_, _, _, _, rfl, q3, (SX.below HB.out (by omega))⟩
    · have hy0 : y ≠ 0 := fun c => absurd (z2.2 c) (by decide)
      have hn : ¬ (x = 0 ∨ infp y = true) := by
        rw [i2]; rintro (c | c)
        · exact absurd (z1.2 c) (by decide)
        · exact absurd c (by decide)
      have sx : decide (x < 0) = s1 := by
        rcases q1.three with ⟨a, _⟩ | ⟨_, rfl, b⟩ | ⟨_, rfl, b⟩
        · exact absurd a (by decide)
        · exact decide_eq_false (by omega)
        · exact decide_eq_true b
      have sy : decide (y < 0) = s2 := by
        rcases q2.three with ⟨a, _⟩ | ⟨_, rfl, b⟩ | ⟨_, rfl, b⟩
        · exact absurd a (by decide)
        · exact decide_eq_false (by omega)
        · exact decide_eq_true b
      have hr2 : sgi (s1 != s2) TP = r := by
        have := (qt_inf hy0 hn i1).1 hr
        rw [sx, sy] at this; exact this.symm
      have HRR := Lib.hid hr2; clear i1 i2 z1 z2 q1 q2 hr hr2 sx sy hn hy0 hT; obtain ⟨xX30, xX31, xX32, xX33⟩ := X3.u4; obtain ⟨xX40, xX41, xX42, xX43⟩ := X4.u4
      go_wp2_with fail
      refine (nInf (s := s1 != s2) HRR.out).mono ?_; rintro ee w6 ⟨K3, s3, M3, E3, rfl, q3, B⟩; clear xX30 xX31 xX32 xX33 xX40 xX41 xX42 xX43; replace X3 := X3.below B; replace X4 := X4.below B; replace XR := XR.below B; replace HB := Lib.hid (bt HB.out B); clear B; obtain ⟨xXR0, xXR1, xXR2, xXR3⟩ := XR.u4; have zXR0 := XR.frozen; go_wp2; clear xXR0 zXR0 xXR1 xXR2 xXR3; have SX := StN.mk4 XR (.int .i64 K3) (.bool s3) (.int .u64 M3) (.int .i64 E3)
      exact bodyPost_ret (by simp [results, Tryz.results59, go_sem, SX.box.cell]) rfl ⟨_, _, _, _, rfl, q3, (SX.below HB.out (by omega))⟩
  · rcases kk2 with rfl | rfl | rfl
    · have hy0 : y ≠ 0 := fun c => absurd (z2.2 c) (by decide)
      have hr2 : r = 0 := (qt_zero hy0 (.inl (z1.1 rfl))).1 hr
      subst hr2; clear i1 i2 z1 z2 q1 q2 hr hy0 hT; obtain ⟨xXR0, xXR1, xXR2, xXR3⟩ := XR.u4; have zXR0 := XR.frozen; obtain ⟨xX30, xX31, xX32, xX33⟩ := X3.u4; obtain ⟨xX40, xX41, xX42, xX43⟩ := X4.u4; go_wp2; clear xXR0 zXR0 xXR1 xXR2 xXR3 xX30 xX31 xX32 xX33 xX40 xX41 xX42 xX43; have SX := StN.mk4 XR (.int .i64 0) (.bool false) (.int .u64 0) (.int .i64 0); exact bodyPost_ret (by simp [results, Tryz.results59, go_sem, SX.box.cell]) rfl ⟨_, _, _, _, rfl, Fq.nought, (SX.below HB.out (by omega))⟩
    · have hr2 : sgi (!up) TP = r := by
        rw [z2.1 rfl] at hr; exact (qt_none'.1 hr).symm
      have HRR := Lib.hid hr2; clear i1 i2 z1 z2 q1 q2 hr hr2 hT; obtain ⟨xX30, xX31, xX32, xX33⟩ := X3.u4; obtain ⟨xX40, xX41, xX42, xX43⟩ := X4.u4
      go_wp2_with fail
      refine (qAway HRR.out).mono ?_; rintro ee w6 ⟨K3, s3, M3, E3, rfl, q3, B⟩; clear xX30 xX31 xX32 xX33 xX40 xX41 xX42 xX43; replace X3 := X3.below B; replace X4 := X4.below B; replace XR := XR.below B; replace HB := Lib.hid (bt HB.out B); clear B; obtain ⟨xXR0, xXR1, xXR2, xXR3⟩ := XR.u4; have zXR0 := XR.frozen; go_wp2; clear xXR0 zXR0 xXR1 xXR2 xXR3; have SX := StN.mk4 XR (.int .i64 K3) (.bool s3) (.int .u64 M3) (.int .i64 E3)
      exact bodyPost_ret (by simp [results, Tryz.results59, go_sem, SX.box.cell]) rfl ⟨_, _, _, _, rfl, q3, (SX.below HB.out (by omega))⟩
    · have hy0 : y ≠ 0 := fun c => absurd (z2.2 c) (by decide)
      have hr2 : r = 0 := (qt_zero hy0 (.inl (z1.1 rfl))).1 hr
      subst hr2; clear i1 i2 z1 z2 q1 q2 hr hy0 hT; obtain ⟨xXR0, xXR1, xXR2, xXR3⟩ := XR.u4; have zXR0 := XR.frozen; obtain ⟨xX30, xX31, xX32, xX33⟩ := X3.u4; obtain ⟨xX40, xX41, xX42, xX43⟩ := X4.u4; go_wp2; clear xXR0 zXR0 xXR1 xXR2 xXR3 xX30 xX31 xX32 xX33 xX40 xX41 xX42 xX43; have SX := StN.mk4 XR (.int .i64 0) (.bool false) (.int .u64 0) (.int .i64 0); exact bodyPost_ret (by simp [results, Tryz.results59, go_sem, SX.box.cell]) rfl ⟨_, _, _, _, rfl, Fq.nought, (SX.below HB.out (by omega))⟩
  · rcases kk2 with rfl | rfl | rfl
    · have hy0 : y ≠ 0 := fun c => absurd (z2.2 c) (by decide)
      have hr2 : r = 0 := (qt_zero hy0 (.inr i2)).1 hr
      subst hr2; clear i1 i2 z1 z2 q1 q2 hr hy0 hT; obtain ⟨xXR0, xXR1, xXR2, xXR3⟩ := XR.u4; have zXR0 := XR.frozen; obtain ⟨xX30, xX31, xX32, xX33⟩ := X3.u4; obtain ⟨xX40, xX41, xX42, xX43⟩ := X4.u4; go_wp2; clear xXR0 zXR0 xXR1 xXR2 xXR3 xX30 xX31 xX32 xX33 xX40 xX41 xX42 xX43; have SX := StN.mk4 XR (.int .i64 0) (.bool false) (.int .u64 0) (.int .i64 0); exact bodyPost_ret (by simp [results, Tryz.results59, go_sem, SX.box.cell]) rfl ⟨_, _, _, _, rfl, Fq.nought, (SX.below HB.out (by omega))⟩
    · have hr2 : sgi (!up) TP = r := by
        rw [z2.1 rfl] at hr; exact (qt_none'.1 hr).symm
      have HRR := Lib.hid hr2; clear i1 i2 z1 z2 q1 q2 hr hr2 hT; obtain ⟨xX30, xX31, xX32, xX33⟩ := X3.u4; obtain ⟨xX40, xX41, xX42, xX43⟩ := X4.u4
      go_wp2_with fail
      refine (qAway HRR.out).mono ?_; rintro ee w6 ⟨K3, s3, M3, E3, rfl, q3, B⟩; clear xX30 xX31 xX32 xX33 xX40 xX41 xX42 xX43; replace X3 := X3.below B; replace X4 := X4.below B; replace XR := XR.below B; replace HB := Lib.hid (bt HB.out B); clear B; obtain ⟨xXR0, xXR1, xXR2, xXR3⟩ := XR.u4; have zXR0 := XR.frozen; go_wp2; clear xXR0 zXR0 xXR1 xXR2 xXR3; have SX := StN.mk4 XR (.int .i64 K3) (.bool s3) (.int .u64 M3) (.int .i64 E3)
      exact bodyPost_ret (by simp [results, Tryz.results59, go_sem, SX.box.cell]) rfl ⟨_, _, _, _, rfl, q3, (SX.below HB.out (by omega))⟩
    · have hy0 : y ≠ 0 := fun c => absurd (z2.2 c) (by decide)
      obtain ⟨a1, a2, a3, a4, _⟩ := fq_vr q1; obtain ⟨b1, b2, b3, b4, _⟩ := fq_vr q2; obtain ⟨α, hα⟩ : ∃ α : Nat, (α : Int) = M1 := ⟨M1.toNat, by omega⟩
      obtain ⟨β, hβ⟩ : ∃ β : Nat, (β : Int) = M2 := ⟨M2.toNat, by omega⟩
      have α1 : 9223372036854775808 ≤ α := by omega
      have α2 : α < 18446744073709551616 := by omega
      have β1 : 9223372036854775808 ≤ β := by omega
      have β2 : β < 18446744073709551616 := by omega
      obtain ⟨P, hP, hPr⟩ := div_pre q1 q2 hα hβ hr (by omega); obtain ⟨e, he⟩ : ∃ e, E1 - E2 = e := ⟨_, rfl⟩; rw [he] at hP
      have eb1 : -2200000 ≤ e := by omega
      have eb2 : e ≤ 2200000 := by omega
      have eb3 : e - ((blen β : Int) - (blen α : Int) + 64) ≤ 2097152 := by
        rw [blen_word α1 α2, blen_word β1 β2]
        omega
      have HPP := Lib.hid hP; have HPR := Lib.hid hPr; have HA := Lib.hid hα; have HBE := Lib.hid hβ
      have HW : Hid (IntKind.i64.wrap (E1 - E2) = e) := Lib.hid (by rw [he]; exact IntWalk.i64_in _ (by omega))
      have HW2 : Hid (wrap64 (E1 - E2) = e) := Lib.hid (by rw [he]; exact IntWalk.wrap64_in _ (by omega))
      have α0 : 0 < α := by omega
      have β0 : 0 < β := by omega
      clear i1 i2 z1 z2 hr hy0 a1 a2 a3 a4 b1 b2 b3 b4 hP hPr he hα hβ α1 β1 q1 q2; obtain ⟨xX30, xX31, xX32, xX33⟩ := X3.u4; obtain ⟨xX40, xX41, xX42, xX43⟩ := X4.u4
      go_upto_region 8 with (fail)
      clear xX30 xX31 xX32 xX33 xX40 xX41 xX42 xX43; refine Jo.rk [0, 1, 2, 3, 4, 5, 6, 7, 8, 9, 10, 11, 12, 13, 14, 15, 16, 17, 18] [some 37, some 38, some 39, some 40, some 41, some 42, some 43, some 44, some 45, some 46, some 47, some 48, some 49, some 50, some 51, some 52, some 53, some 54, some 55, none] [[], [0], [1], [], [3], [4], [], [6], [], [8], [7, 9], [2, 5, 10], [], [12], [], [14], [13, 15], [], [11, 16, 17], []] 20 1 [Jo.qp w.heap.size 2, Jo.Fact.eq (.int .u64 M1), Jo.Fact.rd α 2, Jo.qp (w.heap.size + 1) 2, Jo.Fact.eq (.int .u64 M2), Jo.Fact.rd β 2, Jo.qp w.heap.size 3, Jo.qi E1, Jo.qp (w.heap.size + 1) 3, Jo.qi E2, Jo.qi e, Jo.Fact.pk P, Jo.qp w.heap.size 1, Jo.qb s1, Jo.qp (w.heap.size + 1) 1, Jo.qb s2, Jo.Fact.eq (.bool (s1 != s2)), Jo.qb up, Jo.Fact.num r, Jo.Fact.any] (by kernel_rfl) (by kernel_rfl) (by decide) rfl ?_ ?_
      · refine Jo.jm rfl ?_ ?_
        · rintro wj hJ K hK; simp only [Jo.z] at hK ⊢; go_simp; exact hK.out _ _ rfl (br _ _)
        refine Jo.jm rfl ?_ ?_
        · rintro wj hJ _ rfl K hK; simp only [Jo.z] at hK ⊢; have xX32 := (X3.below hJ).a 2 (.int .u64 M1) rfl; go_simp; exact hK.out _ _ rfl (br _ _)
        refine Jo.jm rfl ?_ ?_
        · rintro wj hJ _ rfl K hK; simp only [Jo.z] at hK ⊢; go_simp; refine (qLimbs HA.out α2).mono ?_; rintro ee wk ⟨A2, rfl, p2, B⟩; exact hK.out _ _ ⟨A2, 2, 2, rfl, p2, Nat.le_refl _⟩ B
        refine Jo.jm rfl ?_ ?_
        · rintro wj hJ K hK; simp only [Jo.z] at hK ⊢; go_simp; exact hK.out _ _ rfl (br _ _)
        refine Jo.jm rfl ?_ ?_
        · rintro wj hJ _ rfl K hK; simp only [Jo.z] at hK ⊢; have xX42 := (X4.below hJ).a 2 (.int .u64 M2) rfl; go_simp; exact hK.out _ _ rfl (br _ _)
        refine Jo.jm rfl ?_ ?_
        · rintro wj hJ _ rfl K hK; simp only [Jo.z] at hK ⊢; go_simp; refine (qLimbs HBE.out β2).mono ?_; rintro ee wk ⟨A5, rfl, p5, B⟩; exact hK.out _ _ ⟨A5, 2, 2, rfl, p5, Nat.le_refl _⟩ B
        refine Jo.jm rfl ?_ ?_
        · rintro wj hJ K hK; simp only [Jo.z] at hK ⊢; go_simp; exact hK.out _ _ rfl (br _ _)
        refine Jo.jm rfl ?_ ?_
        · rintro wj hJ _ rfl K hK; simp only [Jo.z] at hK ⊢; have xX33 := (X3.below hJ).a 3 (.int .i64 E1) rfl; go_simp; exact hK.out _ _ rfl (br _ _)
        refine Jo.jm rfl ?_ ?_
        · rintro wj hJ K hK; simp only [Jo.z] at hK ⊢; go_simp; exact hK.out _ _ rfl (br _ _)
        refine Jo.jm rfl ?_ ?_
        · rintro wj hJ _ rfl K hK; simp only [Jo.z] at hK ⊢; have xX43 := (X4.below hJ).a 3 (.int .i64 E2) rfl; go_simp; exact hK.out _ _ rfl (br _ _)
        refine Jo.jm rfl ?_ ?_
        · rintro wj hJ _ rfl _ rfl K hK; simp only [Jo.z] at hK ⊢; have hw := HW.out; have hw2 := HW2.out; go_simp
          exact hK.out _ _ (by first | rfl | (show Value.int _ _ = Value.int _ _; first | rw [hw] | rw [hw2])) (br _ _)
        refine Jo.jm rfl ?_ ?_
        · rintro wj hJ _ ⟨A2, n2, c2, rfl, p2, k2⟩ _ ⟨A5, n5, c5, rfl, p5, k5⟩ _ rfl K hK; simp only [Jo.z] at hK ⊢; go_simp; refine (qDivided p2 p5 (by omega) (by omega) α0 β0 eb1 eb2 eb3 HPP.out).mono ?_; rintro ee wk ⟨A7, n7, c7, t7, x7, rfl, p7, B⟩; exact hK.out _ _ ⟨A7, n7, c7, t7, x7, rfl, p7⟩ B
        refine Jo.jm rfl ?_ ?_
        · rintro wj hJ K hK; simp only [Jo.z] at hK ⊢; go_simp; exact hK.out _ _ rfl (br _ _)
        refine Jo.jm rfl ?_ ?_
        · rintro wj hJ _ rfl K hK; simp only [Jo.z] at hK ⊢; have xX31 := (X3.below hJ).a 1 (.bool s1) rfl; go_simp; exact hK.out _ _ rfl (br _ _)
        refine Jo.jm rfl ?_ ?_
        · rintro wj hJ K hK; simp only [Jo.z] at hK ⊢; go_simp; exact hK.out _ _ rfl (br _ _)
        refine Jo.jm rfl ?_ ?_
        · rintro wj hJ _ rfl K hK; simp only [Jo.z] at hK ⊢; have xX41 := (X4.below hJ).a 1 (.bool s2) rfl; go_simp; exact hK.out _ _ rfl (br _ _)
        refine Jo.jm rfl ?_ ?_
        · rintro wj hJ _ rfl _ rfl K hK; simp only [Jo.z] at hK ⊢; go_simp; exact hK.out _ _ rfl (br _ _)
        refine Jo.jm rfl ?_ ?_
        · rintro wj hJ K hK; simp only [Jo.z] at hK ⊢; go_simp; exact hK.out _ _ rfl (br _ _)
        refine Jo.jm rfl ?_ ?_
        · rintro wj hJ _ ⟨A7, n7, c7, t7, x7, rfl, p7⟩ _ rfl _ rfl K hK; simp only [Jo.z] at hK ⊢; go_simp; refine (qRound (hT.below hJ) p7 HPR.out).mono ?_; rintro ee wk ⟨K9, s9, M9, E9, rfl, q9, B⟩; exact hK.out _ _ ⟨K9, s9, M9, E9, rfl, q9⟩ B
        exact Jo.Steps.nil
      rintro w8 hJ _ _ _ rfl _ ⟨_, _, _, rfl, _⟩ _ _ _ rfl _ ⟨_, _, _, rfl, _⟩ _ _ _ rfl _ _ _ rfl _ rfl _ ⟨_, _, _, _, _, rfl, _⟩ _ _ _ rfl _ _ _ rfl _ rfl _ rfl _ ⟨K9, s9, M9, E9, rfl, q9⟩ -; simp only [Jo.z]; replace X3 := X3.below hJ; replace X4 := X4.below hJ; replace XR := XR.below hJ; replace hT := hT.below hJ; replace HB := Lib.hid (bt HB.out hJ); obtain ⟨xXR0, xXR1, xXR2, xXR3⟩ := XR.u4; have zXR0 := XR.frozen
      refine Jo.jnext (i := 19) (o := ⟨none, _, _, _, _, _⟩) (by kernel_rfl) rfl (fun K hK => ?_)
      go_simp; refine hK.out _ _ ?_; clear hK K xXR0 zXR0 xXR1 xXR2 xXR3; have SX := StN.mk4 XR (.int .i64 K9) (.bool s9) (.int .u64 M9) (.int .i64 E9); refine Jo.jdone (by kernel_rfl) ?_; go_wp2; exact bodyPost_ret (by simp [results, Tryz.results59, go_sem, SX.box.cell]) rfl ⟨_, _, _, _, rfl, q9, (SX.below HB.out (by omega))⟩
end Go.Proofs.YteejbcimmmcnlaaGreatDoor

/-
  What ivop.Abs, Sqr and Root do.
-/
namespace Go.Proofs.YteejbcimmmcnlaaGreatDoor
open Go.RowKit
set_option linter.unusedVariables false
set_option linter.unusedSimpArgs false
set_option maxRecDepth 100000

set_option maxHeartbeats 4000000 in
theorem fkAbs {w : World} {e : Bool} {D M E D' M' E' : Int} {s s' : Bool} {x z : Sp} (hM : M < 18446744073709551616) (hM' : M' < 18446744073709551616) (hx : rkI e D s M E D' s' M' E' = x) (hr : absI x = z) : Calls Tryz.prog 26 #[.agg #[.bool e, .int .i64 D, .bool s, .int .u64 M, .int .i64 E, .int .i64 D', .bool s', .int .u64 M', .int .i64 E']] w (PV w z) := by
  obtain ⟨p, hp⟩ : ∃ p, gone [x] = p := ⟨_, rfl⟩; have HP := Lib.hid hp; have HX := Lib.hid hx; clear hx hp
  go_enter Tryz.func26, Tryz.ntmps26
  go_upto_region 1 with (fail)
  generalize hW1 : (w.alloc _).alloc _ = w1 at *; obtain ⟨X1, XR, HB⟩ := Bo.en2 hW1; clear hW1; obtain ⟨xX10, xX11, xX12, xX13, xX14, xX15, xX16, xX17, xX18⟩ := X1.u9
  go_wp2_with fail
  refine (fkEmpty (Il8.lit1 rfl ⟨hM, hM', HX.out⟩) HP.out).mono ?_; rintro ee w2 ⟨rfl, B⟩; replace B := bt (bel1 _ (.cells #[.bool e, .int .i64 D, .bool s, .int .u64 M, .int .i64 E, .int .i64 D', .bool s', .int .u64 M', .int .i64 E'] 26)) B; clear xX10 xX11 xX12 xX13 xX14 xX15 xX16 xX17 xX18; replace X1 := X1.below B; replace XR := XR.below B; replace HB := Lib.hid (bt HB.out B); clear B
  rcases x with _ | ⟨xa, xb⟩
  · obtain rfl : true = p := HP.out
    obtain rfl : none = z := hr
    clear HP
    go_wp2_with fail
    refine (kvNoneE).mono ?_; rintro ee w3 ⟨rfl, B⟩; replace X1 := X1.below B; replace XR := XR.below B; replace HB := Lib.hid (bt HB.out B); clear B; obtain ⟨xXR0, xXR1, xXR2, xXR3, xXR4, xXR5, xXR6, xXR7, xXR8⟩ := XR.u9; have zXR0 := XR.frozen; go_wp2; clear xXR0 zXR0 xXR1 xXR2 xXR3 xXR4 xXR5 xXR6 xXR7 xXR8; have SX := StN.mk9 XR (.bool true) (.int .i64 0) (.bool false) (.int .u64 0) (.int .i64 0) (.int .i64 0) (.bool false) (.int .u64 0) (.int .i64 0)
    exact bodyPost_ret (by simp [results, Tryz.results26, go_sem, SX.box.cell]) rfl ⟨_, _, _, _, _, _, _, _, _, rfl, Ci.none, (SX.below HB.out (by omega))⟩
  · obtain ⟨rfl, a1, b1, o1, o1l, o1h⟩ := ci_some hM hM' HX.out
    obtain rfl : false = p := HP.out
    clear HP HX
    have hr2 : (if 0 ≤ xa then some (xa, xb) else if xb ≤ 0 then negI (some (xa, xb)) else mkI 0 (max xb (-xa))) = z := hr
    obtain ⟨σ, hσ⟩ : ∃ σ, cmpI xa 0 = σ := ⟨_, rfl⟩; have ht := cmp_geE hσ
    have HS : Hid (cmpI (rk D s M E) 0 = σ) := Lib.hid (by rw [a1.rk]; exact hσ)
    clear hσ hr; obtain ⟨xX10, xX11, xX12, xX13, xX14, xX15, xX16, xX17, xX18⟩ := X1.u9
    go_wp2_with fail
    refine (nSign a1.top HS.out).mono ?_; rintro ee w4 ⟨rfl, B⟩; clear xX10 xX11 xX12 xX13 xX14 xX15 xX16 xX17 xX18; replace X1 := X1.below B; replace XR := XR.below B; replace HB := Lib.hid (bt HB.out B); clear B; clear HS
    by_cases h0 : 0 ≤ xa
    · rw [decide_eq_true h0] at ht; rw [if_pos h0] at hr2
      obtain rfl : some (xa, xb) = z := hr2
      clear h0; obtain ⟨xXR0, xXR1, xXR2, xXR3, xXR4, xXR5, xXR6, xXR7, xXR8⟩ := XR.u9; have zXR0 := XR.frozen; obtain ⟨xX10, xX11, xX12, xX13, xX14, xX15, xX16, xX17, xX18⟩ := X1.u9; go_wp2; clear xXR0 zXR0 xXR1 xXR2 xXR3 xXR4 xXR5 xXR6 xXR7 xXR8 xX10 xX11 xX12 xX13 xX14 xX15 xX16 xX17 xX18; have SX := StN.mk9 XR (.bool false) (.int .i64 D) (.bool s) (.int .u64 M) (.int .i64 E) (.int .i64 D') (.bool s') (.int .u64 M') (.int .i64 E')
      exact bodyPost_ret (v := .agg #[.bool false, .int .i64 D, .bool s, .int .u64 M, .int .i64 E, .int .i64 D', .bool s', .int .u64 M', .int .i64 E']) (by simp [results, Tryz.results26, go_sem, SX.box.cell]) rfl ⟨_, _, _, _, _, _, _, _, _, rfl, ⟨rfl, a1, b1, o1, o1l, o1h⟩, (SX.below HB.out (by omega))⟩
    · rw [decide_eq_false h0] at ht; rw [if_neg h0] at hr2; obtain ⟨τ, hτ⟩ : ∃ τ, cmpI xb 0 = τ := ⟨_, rfl⟩; have ht2 := cmp_le hτ
      have HS2 : Hid (cmpI (rk D' s' M' E') 0 = τ) := Lib.hid (by rw [b1.rk]; exact hτ)
      clear hτ h0; obtain ⟨xX10, xX11, xX12, xX13, xX14, xX15, xX16, xX17, xX18⟩ := X1.u9
      go_wp2_with fail
      refine (nSign b1.top HS2.out).mono ?_; rintro ee w5 ⟨rfl, B⟩; clear xX10 xX11 xX12 xX13 xX14 xX15 xX16 xX17 xX18; replace X1 := X1.below B; replace XR := XR.below B; replace HB := Lib.hid (bt HB.out B); clear B; clear HS2
      by_cases h1 : xb ≤ 0
      · rw [decide_eq_true h1] at ht2; rw [if_pos h1] at hr2; have HN := Lib.hid hr2
        have hci : Ci false D s M E D' s' M' E' (some (xa, xb)) := ⟨rfl, a1, b1, o1, o1l, o1h⟩
        clear hr2 h1 o1 o1l o1h; obtain ⟨xX10, xX11, xX12, xX13, xX14, xX15, xX16, xX17, xX18⟩ := X1.u9
        go_wp2_with fail
        refine (fkNeg a1.top b1.top hci.rk HN.out).mono ?_; rintro ee w6 ⟨e2, K2, s2, M2, E2, K2b, s2b, M2b, E2b, rfl, v2, B⟩; clear xX10 xX11 xX12 xX13 xX14 xX15 xX16 xX17 xX18; replace X1 := X1.below B; replace XR := XR.below B; replace HB := Lib.hid (bt HB.out B); clear B; clear hci HN; obtain ⟨xXR0, xXR1, xXR2, xXR3, xXR4, xXR5, xXR6, xXR7, xXR8⟩ := XR.u9; have zXR0 := XR.frozen; go_wp2; clear xXR0 zXR0 xXR1 xXR2 xXR3 xXR4 xXR5 xXR6 xXR7 xXR8
        have SX := StN.mk9 XR (.bool e2) (.int .i64 K2) (.bool s2) (.int .u64 M2) (.int .i64 E2) (.int .i64 K2b) (.bool s2b) (.int .u64 M2b) (.int .i64 E2b); exact bodyPost_ret (by simp [results, Tryz.results26, go_sem, SX.box.cell]) rfl ⟨_, _, _, _, _, _, _, _, _, rfl, v2, (SX.below HB.out (by omega))⟩
      · rw [decide_eq_false h1] at ht2; rw [if_neg h1] at hr2; obtain ⟨m, hm⟩ : ∃ m, -xa = m := ⟨_, rfl⟩
        have hu : mxp [xb, m] = max xb m := mxp_two b1.bd.1
        obtain ⟨u, hu2⟩ : ∃ u, max xb m = u := ⟨_, rfl⟩; rw [hu2] at hu
        have hr3 : mkI 0 u = z := by rw [← hu2, ← hm]; exact hr2
        have H0 : Hid (sgi (decide ((0 : Int) < 0)) (lo (0 : Int).natAbs 0) = 0) := Lib.hid rfl
        have HNG : Hid (-rk D s M E = m) := Lib.hid (by rw [a1.rk]; exact hm)
        have HU := Lib.hid hu; have HR := Lib.hid hr3; clear hm hu hu2 hr2 hr3 h1 o1 o1l o1h; obtain ⟨xX10, xX11, xX12, xX13, xX14, xX15, xX16, xX17, xX18⟩ := X1.u9
        go_upto_region 7 with (fail)
        clear xX10 xX11 xX12 xX13 xX14 xX15 xX16 xX17 xX18; refine Jo.rk [0, 1, 2, 3, 4, 5, 6, 7, 8] [some 21, some 22, some 23, some 24, some 25, some 26, some 27, some 28, some 29, none] [[], [], [1], [], [3], [4], [2, 5], [6], [0, 7], []] 10 1 [Jo.Fact.num 0, Jo.qp w.heap.size 5, Jo.q4 D' s' M' E', Jo.qp w.heap.size 1, Jo.q4 D s M E, Jo.Fact.num m, Jo.Fact.nl 2 [xb, m], Jo.Fact.num u, Jo.Fact.iv z, Jo.Fact.any] (by kernel_rfl) (by kernel_rfl) (by decide) rfl ?_ ?_
        · refine Jo.jm rfl ?_ ?_
          · rintro wj hJ K hK; simp only [Jo.z] at hK ⊢; go_simp; refine (nOf _ (by decide) (by decide) H0.out).mono ?_; rintro ee wk ⟨K5, s5, M5, E5, rfl, q5, B⟩; exact hK.out _ _ ⟨K5, s5, M5, E5, rfl, q5⟩ B
          refine Jo.jm rfl ?_ ?_
          · rintro wj hJ K hK; simp only [Jo.z] at hK ⊢; go_simp; exact hK.out _ _ rfl (br _ _)
          refine Jo.jm rfl ?_ ?_
          · rintro wj hJ _ rfl K hK; simp only [Jo.z] at hK ⊢; obtain ⟨xX15, xX16, xX17, xX18⟩ := (X1.below hJ).v9; go_simp; exact hK.out _ _ rfl (br _ _)
          refine Jo.jm rfl ?_ ?_
          · rintro wj hJ K hK; simp only [Jo.z] at hK ⊢; go_simp; exact hK.out _ _ rfl (br _ _)
          refine Jo.jm rfl ?_ ?_
          · rintro wj hJ _ rfl K hK; simp only [Jo.z] at hK ⊢; obtain ⟨xX11, xX12, xX13, xX14⟩ := (X1.below hJ).w9; go_simp; exact hK.out _ _ rfl (br _ _)
          refine Jo.jm rfl ?_ ?_
          · rintro wj hJ _ rfl K hK; simp only [Jo.z] at hK ⊢; go_simp; refine (nNeg a1.top HNG.out).mono ?_; rintro ee wk ⟨K2, s2, M2, E2, rfl, q2, B⟩; exact hK.out _ _ ⟨K2, s2, M2, E2, rfl, q2⟩ B
          refine Jo.jm rfl ?_ ?_
          · rintro wj hJ _ rfl _ ⟨K2, s2, M2, E2, rfl, q2⟩ K hK; simp only [Jo.z] at hK ⊢; go_simp; exact hK.out _ _ ⟨_, 2, rfl, Nl.lit2 rfl b1.top q2.top b1.rk q2.rk⟩ (bel1 _ _)
          refine Jo.jm rfl ?_ ?_
          · rintro wj hJ _ ⟨A6, c6, rfl, h6⟩ K hK; simp only [Jo.z] at hK ⊢; go_simp; refine (nMost h6 HU.out).mono ?_; rintro ee wk ⟨K3, s3, M3, E3, rfl, q3, B⟩; exact hK.out _ _ ⟨K3, s3, M3, E3, rfl, q3⟩ B
          refine Jo.jm rfl ?_ ?_
          · rintro wj hJ _ ⟨K5, s5, M5, E5, rfl, q5⟩ _ ⟨K3, s3, M3, E3, rfl, q3⟩ K hK; simp only [Jo.z] at hK ⊢; go_simp; refine (kvMake q5.top q3.top q5.rk q3.rk HR.out).mono ?_; rintro ee wk ⟨e4, K4, s4, M4, E4, K4b, s4b, M4b, E4b, rfl, v4, B⟩; exact hK.out _ _ ⟨e4, K4, s4, M4, E4, K4b, s4b, M4b, E4b, rfl, v4⟩ B
          exact Jo.Steps.nil
        rintro w8 hJ _ ⟨K5, s5, M5, E5, rfl, q5⟩ _ _ _ rfl _ _ _ rfl _ ⟨K2, s2, M2, E2, rfl, q2⟩ _ ⟨A6, c6, rfl, _⟩ _ ⟨K3, s3, M3, E3, rfl, q3⟩ _ ⟨e4, K4, s4, M4, E4, K4b, s4b, M4b, E4b, rfl, v4⟩ -; simp only [Jo.z]; replace X1 := X1.below hJ; replace XR := XR.below hJ; replace HB := Lib.hid (bt HB.out hJ); obtain ⟨xXR0, xXR1, xXR2, xXR3, xXR4, xXR5, xXR6, xXR7, xXR8⟩ := XR.u9; have zXR0 := XR.frozen
        refine Jo.jnext (i := 9) (o := ⟨none, _, _, _, _, _⟩) (by kernel_rfl) rfl (fun K hK => ?_)
        go_simp; refine hK.out _ _ ?_; clear hK K xXR0 zXR0 xXR1 xXR2 xXR3 xXR4 xXR5 xXR6 xXR7 xXR8; have SX := StN.mk9 XR (.bool e4) (.int .i64 K4) (.bool s4) (.int .u64 M4) (.int .i64 E4) (.int .i64 K4b) (.bool s4b) (.int .u64 M4b) (.int .i64 E4b); refine Jo.jdone (by kernel_rfl) ?_; go_wp2; exact bodyPost_ret (by simp [results, Tryz.results26, go_sem, SX.box.cell]) rfl ⟨_, _, _, _, _, _, _, _, _, rfl, v4, (SX.below HB.out (by omega))⟩
set_option maxHeartbeats 4000000 in
theorem fkSqr {w : World} {e : Bool} {D M E D' M' E' : Int} {s s' : Bool} {x z : Sp} (hM : M < 18446744073709551616) (hM' : M' < 18446744073709551616) (hx : rkI e D s M E D' s' M' E' = x) (hr : sqrI x = z) : Calls Tryz.prog 22 #[.agg #[.bool e, .int .i64 D, .bool s, .int .u64 M, .int .i64 E, .int .i64 D', .bool s', .int .u64 M', .int .i64 E']] w (PV w z) := by
  rw [sqr_abs] at hr; obtain ⟨m, hm⟩ : ∃ m, absI x = m := ⟨_, rfl⟩; rw [hm] at hr; have HX := Lib.hid hx; have HA := Lib.hid hm; clear hx hm
  go_enter Tryz.func22, Tryz.ntmps22
  go_upto_region 1 with (fail)
  generalize hW1 : (w.alloc _).alloc _ = w1 at *; obtain ⟨X1, XR, HB⟩ := Bo.en2 hW1; clear hW1; obtain ⟨xX10, xX11, xX12, xX13, xX14, xX15, xX16, xX17, xX18⟩ := X1.u9
  go_wp2_with fail
  refine (fkAbs hM hM' HX.out HA.out).mono ?_; rintro ee w2 ⟨e1, K1, s1, M1, E1, K1b, s1b, M1b, E1b, rfl, v1, B⟩; clear xX10 xX11 xX12 xX13 xX14 xX15 xX16 xX17 xX18; replace X1 := X1.below B; replace XR := XR.below B; replace HB := Lib.hid (bt HB.out B); clear B
  go_upto_region 2 with (fail)
  have lX3 := Nat.le_refl (World.heap w2).size; have nX3X1 := X1.lt; have nX3XR := XR.lt; generalize hWn : w2.alloc _ = w3 at *; obtain ⟨X3, BW⟩ := Bo.nw hWn; clear hWn; replace X1 := X1.below BW; replace XR := XR.below BW; replace HB := Lib.hid (bt HB.out BW); clear BW; clear lX3 HX HA hM hM'
  rcases m with _ | ⟨ma, mb⟩
  · obtain ⟨rfl, y1, y1b⟩ := v1
    obtain rfl : none = z := hr
    obtain ⟨_, rfl, rfl, rfl, rfl, rfl, rfl, rfl, rfl⟩ := (show Ci true K1 s1 M1 E1 K1b s1b M1b E1b none from ⟨rfl, y1, y1b⟩).uniq Ci.none
    clear y1 y1b; refine Jo.rk [0, 1, 2] [some 6, some 7, some 8] [[], [], [0, 1]] 3 0 [Jo.q9 true 0 false 0 0 0 false 0 0, Jo.q9 true 0 false 0 0 0 false 0 0, Jo.qb true] (by kernel_rfl) (by kernel_rfl) (by decide) rfl ?_ ?_
    · refine Jo.jm rfl ?_ ?_
      · rintro wj hJ K hK; simp only [Jo.z] at hK ⊢; obtain ⟨xX30, xX31, xX32, xX33, xX34, xX35, xX36, xX37, xX38⟩ := (X3.below hJ).u9; go_simp; exact hK.out _ _ rfl (br _ _)
      refine Jo.jm rfl ?_ ?_
      · rintro wj hJ K hK; simp only [Jo.z] at hK ⊢; go_simp; refine (kvNoneE).mono ?_; rintro ee wk ⟨rfl, B⟩; exact hK.out _ _ rfl B
      refine Jo.jm rfl ?_ ?_
      · rintro wj hJ _ rfl _ rfl K hK; simp only [Jo.z] at hK ⊢; go_simp
        repeat' split
        all_goals exact hK.out _ _ (congrArg Value.bool (by first | rfl | (exfalso; simp_all) | simp_all)) (br _ _)
      exact Jo.Steps.nil
    rintro w4 hJ _ rfl _ rfl _ rfl -; simp only [Jo.z]; replace XR := XR.below hJ; replace X3 := X3.below hJ; replace HB := Lib.hid (bt HB.out hJ); refine Jo.jdone (by kernel_rfl) ?_; obtain ⟨xXR0, xXR1, xXR2, xXR3, xXR4, xXR5, xXR6, xXR7, xXR8⟩ := XR.u9; have zXR0 := XR.frozen; obtain ⟨xX30, xX31, xX32, xX33, xX34, xX35, xX36, xX37, xX38⟩ := X3.u9; go_wp2; clear xXR0 zXR0 xXR1 xXR2 xXR3 xXR4 xXR5 xXR6 xXR7 xXR8 xX30 xX31 xX32 xX33 xX34 xX35 xX36 xX37 xX38
    have SX := StN.mk9 XR (.bool true) (.int .i64 0) (.bool false) (.int .u64 0) (.int .i64 0) (.int .i64 0) (.bool false) (.int .u64 0) (.int .i64 0); exact bodyPost_ret (by simp [results, Tryz.results22, go_sem, SX.box.cell]) rfl ⟨_, _, _, _, _, _, _, _, _, rfl, Ci.none, (SX.below HB.out (by omega))⟩
  · obtain ⟨rfl, a1, b1, o1, o1l, o1h⟩ := v1; obtain ⟨u, hu⟩ : ∃ u, mulp false ma ma = u := ⟨_, rfl⟩; obtain ⟨l, hl⟩ : ∃ l, mulp true mb mb = l := ⟨_, rfl⟩
    have hr2 : mkI u l = z := by rw [← hu, ← hl]; exact hr
    have HU := Lib.hid hu; have HL := Lib.hid hl; have HR := Lib.hid hr2; clear hu hl hr hr2 o1 o1l o1h
    refine Jo.region_joint (T := [0, 1, 2]) (ds := [some 6, some 7, some 8]) (ls := [[], [], [0, 1]]) (k := 3) (L := [(some 6, 0), (some 7, 1), (some 8, 2)]) (fuel := 0) (J := fun wj => Below (World.heap w3).size w3 wj)
      (F := [Jo.q9 false K1 s1 M1 E1 K1b s1b M1b E1b, Jo.q9 true 0 false 0 0 0 false 0 0, Jo.qb false])
      (by kernel_rfl) (by kernel_rfl) (by decide) rfl rfl (fun _ _ h b => bt h b) ((br _ _).drew) ?_ (fun vs w4 hJ hd => ?_)
    · refine Jo.jm rfl ?_ ?_
      · rintro wj hJ K hK; simp only [Jo.z] at hK ⊢; obtain ⟨xX30, xX31, xX32, xX33, xX34, xX35, xX36, xX37, xX38⟩ := (X3.below hJ).u9; go_simp; exact hK.out _ _ rfl (br _ _)
      refine Jo.jm rfl ?_ ?_
      · rintro wj hJ K hK; simp only [Jo.z] at hK ⊢; go_simp; refine (kvNoneE).mono ?_; rintro ee wk ⟨rfl, B⟩; exact hK.out _ _ rfl B
      refine Jo.jm rfl ?_ ?_
      · rintro wj hJ _ rfl _ rfl K hK; simp only [Jo.z] at hK ⊢; go_simp
        repeat' split
        all_goals exact hK.out _ _ (congrArg Value.bool (by first | rfl | (exfalso; simp_all))) (br _ _)
      exact Jo.Steps.nil
    simp only [Jo.putl, Jo.zd, Jo.ze, Act.put, Jo.za, Jo.zb, Jo.zc]
    rw [show vs 0 = _ from hd 0 (by decide), show vs 1 = _ from hd 1 (by decide), show vs 2 = _ from hd 2 (by decide)]
    clear hd; replace XR := XR.below hJ; replace X3 := X3.below hJ; replace HB := Lib.hid (bt HB.out hJ); refine Jo.jdone (by kernel_rfl) ?_
    go_upto_region 4 with (fail)
    refine Jo.rk [0, 1, 2, 3, 4, 5, 6, 7, 8, 9, 10] [some 10, some 11, some 12, some 13, some 14, some 15, some 16, some 17, some 18, some 19, some 20, none] [[], [0], [], [2], [1, 3], [], [5], [], [7], [6, 8], [4, 9], []] 12 1 [Jo.qp w2.heap.size 1, Jo.q4 K1 s1 M1 E1, Jo.qp w2.heap.size 1, Jo.q4 K1 s1 M1 E1, Jo.Fact.num u, Jo.qp w2.heap.size 5, Jo.q4 K1b s1b M1b E1b, Jo.qp w2.heap.size 5, Jo.q4 K1b s1b M1b E1b, Jo.Fact.num l, Jo.Fact.iv z, Jo.Fact.any] (by kernel_rfl) (by kernel_rfl) (by decide) rfl ?_ ?_
    · refine Jo.jm rfl ?_ ?_
      · rintro wj hJ K hK; simp only [Jo.z] at hK ⊢; go_simp; exact hK.out _ _ rfl (br _ _)
      refine Jo.jm rfl ?_ ?_
      · rintro wj hJ _ rfl K hK; simp only [Jo.z] at hK ⊢; obtain ⟨xX31, xX32, xX33, xX34⟩ := (X3.below hJ).w9; go_simp; exact hK.out _ _ rfl (br _ _)
      refine Jo.jm rfl ?_ ?_
      · rintro wj hJ K hK; simp only [Jo.z] at hK ⊢; go_simp; exact hK.out _ _ rfl (br _ _)
      refine Jo.jm rfl ?_ ?_
      · rintro wj hJ _ rfl K hK; simp only [Jo.z] at hK ⊢; obtain ⟨xX31, xX32, xX33, xX34⟩ := (X3.below hJ).w9; go_simp; exact hK.out _ _ rfl (br _ _)
      refine Jo.jm rfl ?_ ?_
      · rintro wj hJ _ rfl _ rfl K hK; simp only [Jo.z] at hK ⊢; go_simp; refine (aMul a1.top a1.top a1.rk a1.rk HU.out).mono ?_; rintro ee wk ⟨K2, s2, M2, E2, rfl, q2, B⟩; exact hK.out _ _ ⟨K2, s2, M2, E2, rfl, q2⟩ B
      refine Jo.jm rfl ?_ ?_
      · rintro wj hJ K hK; simp only [Jo.z] at hK ⊢; go_simp; exact hK.out _ _ rfl (br _ _)
      refine Jo.jm rfl ?_ ?_
      · rintro wj hJ _ rfl K hK; simp only [Jo.z] at hK ⊢; obtain ⟨xX35, xX36, xX37, xX38⟩ := (X3.below hJ).v9; go_simp; exact hK.out _ _ rfl (br _ _)
      refine Jo.jm rfl ?_ ?_
      · rintro wj hJ K hK; simp only [Jo.z] at hK ⊢; go_simp; exact hK.out _ _ rfl (br _ _)
      refine Jo.jm rfl ?_ ?_
      · rintro wj hJ _ rfl K hK; simp only [Jo.z] at hK ⊢; obtain ⟨xX35, xX36, xX37, xX38⟩ := (X3.below hJ).v9; go_simp; exact hK.out _ _ rfl (br _ _)
      refine Jo.jm rfl ?_ ?_
      · rintro wj hJ _ rfl _ rfl K hK; simp only [Jo.z] at hK ⊢; go_simp; refine (aMul b1.top b1.top b1.rk b1.rk HL.out).mono ?_; rintro ee wk ⟨K3, s3, M3, E3, rfl, q3, B⟩; exact hK.out _ _ ⟨K3, s3, M3, E3, rfl, q3⟩ B
      refine Jo.jm rfl ?_ ?_
      · rintro wj hJ _ ⟨K2, s2, M2, E2, rfl, q2⟩ _ ⟨K3, s3, M3, E3, rfl, q3⟩ K hK; simp only [Jo.z] at hK ⊢; go_simp; refine (kvMake q2.top q3.top q2.rk q3.rk HR.out).mono ?_; rintro ee wk ⟨e4, K4, s4, M4, E4, K4b, s4b, M4b, E4b, rfl, v4, B⟩; exact hK.out _ _ ⟨e4, K4, s4, M4, E4, K4b, s4b, M4b, E4b, rfl, v4⟩ B
      exact Jo.Steps.nil
    rintro w8 hJ _ _ _ rfl _ _ _ rfl _ ⟨K2, s2, M2, E2, rfl, q2⟩ _ _ _ rfl _ _ _ rfl _ ⟨K3, s3, M3, E3, rfl, q3⟩ _ ⟨e4, K4, s4, M4, E4, K4b, s4b, M4b, E4b, rfl, v4⟩ -; simp only [Jo.z]; replace XR := XR.below hJ; replace X3 := X3.below hJ; replace HB := Lib.hid (bt HB.out hJ); obtain ⟨xXR0, xXR1, xXR2, xXR3, xXR4, xXR5, xXR6, xXR7, xXR8⟩ := XR.u9; have zXR0 := XR.frozen
    refine Jo.jnext (i := 11) (o := ⟨none, _, _, _, _, _⟩) (by kernel_rfl) rfl (fun K hK => ?_)
    go_simp; refine hK.out _ _ ?_; clear hK K xXR0 zXR0 xXR1 xXR2 xXR3 xXR4 xXR5 xXR6 xXR7 xXR8; have SX := StN.mk9 XR (.bool e4) (.int .i64 K4) (.bool s4) (.int .u64 M4) (.int .i64 E4) (.int .i64 K4b) (.bool s4b) (.int .u64 M4b) (.int .i64 E4b); refine Jo.jdone (by kernel_rfl) ?_; go_wp2; exact bodyPost_ret (by simp [results, Tryz.results22, go_sem, SX.box.cell]) rfl ⟨_, _, _, _, _, _, _, _, _, rfl, v4, (SX.below HB.out (by omega))⟩
end Go.Proofs.YteejbcimmmcnlaaGreatDoor

/-
  What the document's quotient of intervals is.
-/
namespace Go.Proofs.YteejbcimmmcnlaaGreatDoor
open Go.RowKit
set_option linter.unusedVariables false
set_option linter.unusedSimpArgs false
set_option maxRecDepth 100000

theorem ci_zero : Ci false 0 false 0 0 0 false 0 0 (some (0, 0)) := ⟨rfl, Fq.nought, Fq.nought, by decide, by decide, by decide⟩
theorem sgn_pos {x : Int} (h : 0 < x) : cmpI x 0 = 1 := by rcases cmpI_tri x 0 with ⟨a, b⟩ | ⟨a, b⟩ | ⟨a, b⟩ <;> omega
theorem sgn_neg {x : Int} (h : x < 0) : cmpI x 0 = -1 := by rcases cmpI_tri x 0 with ⟨a, b⟩ | ⟨a, b⟩ | ⟨a, b⟩ <;> omega
theorem sgn_nil : cmpI 0 0 = 0 := by decide
end Go.Proofs.YteejbcimmmcnlaaGreatDoor
