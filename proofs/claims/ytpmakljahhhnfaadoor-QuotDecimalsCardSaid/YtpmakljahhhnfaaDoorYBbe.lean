/-
  Contracts and words that the statement's proof rests on, several texts in one: If, Ma, Ij.
-/
import Derived.Below
import Derived.BigCall
import Derived.BigGuard
import Derived.BigQuiet
import Derived.Carry
import Derived.Deep.DeepCutAuto
import Derived.Deep.Draws
import Derived.Deep.MidRow
import Derived.Deep.QuietTactic
import Derived.Deep.RegionHeld3
import Derived.Deep.RegionWith
import Derived.IntWalk
import Derived.Laws.AppendOwn
import Derived.Laws.Bits64b
import Derived.Laws.CopyOwn
import Derived.Laws.Externs
import Derived.Laws.MakeOwn
import Derived.Laws.OwnMore
import Derived.Laws.RangeAny
import Derived.Laws.Rows
import Derived.Lib.AppendIntMem
import Derived.Lib.Atoi
import Derived.Lib.AtoiErrMem
import Derived.Lib.BitFns
import Derived.Lib.FrozenHead2
import Derived.Lib.Hide
import Derived.Lib.ItoaMem
import Derived.Lib.ItoaNum
import Derived.Lib.Mul64
import Derived.Lib.OthersKept
import Derived.Lib.Repeat
import Derived.Lib.Strings
import Derived.Lib.TrailingZeros
import Derived.Lib.TrimByte
import Derived.Lib.UnsafeStr
import Derived.Maps.AppendAt
import Derived.RegionTactic
import Derived.StillTailTactics
import Derived.Test.YtpmakljahhhnfaaDoorRows
import Derived.WalkKit
import Derived.WalkLawsBesides
import Derived.WalkMore
import Derived.WalkSpells
import Derived.Test.YtpmakljahhhnfaaDoorYBac
import Derived.Test.YtpmakljahhhnfaaDoorYBaf
import Derived.Test.YtpmakljahhhnfaaDoorYBag
import Derived.Test.YtpmakljahhhnfaaDoorYBah
import Derived.Test.YtpmakljahhhnfaaDoorYBaj
import Derived.Test.YtpmakljahhhnfaaDoorYBam
import Derived.Test.YtpmakljahhhnfaaDoorYBar
import Derived.Test.YtpmakljahhhnfaaDoorYBat
import Derived.Test.YtpmakljahhhnfaaDoorYBau
import Derived.Test.YtpmakljahhhnfaaDoorYBav
import Derived.Test.YtpmakljahhhnfaaDoorYBba
import Derived.Test.YtpmakljahhhnfaaDoorYBbb
import Derived.Test.YtpmakljahhhnfaaDoorYBbc
/-
  What the document's From of layer 7 does.
-/
namespace Go.Proofs.YtpmakljahhhnfaaDoor
open Go.RowKit
set_option linter.unusedVariables false
set_option linter.unusedSimpArgs false
set_option maxRecDepth 100000

/-- The place of a decimal number. -/
def Fm (up : Bool) (may : Bool) (z t r : Int) : Prop := if may = false then r = 0 else if 0 ≤ t then Rq up (z * ((10 ^ t.toNat : Nat) : Int)) 1 r else Rq up z ((10 ^ (-t).toNat : Nat) : Int) r
theorem fm_no {up : Bool} {z t r : Int} : Fm up false z t r ↔ r = 0 := by
  unfold Fm
  rw [if_pos rfl]
theorem fm_up {up : Bool} {z t r : Int} (h : 0 ≤ t) : Fm up true z t r ↔ Rq up (z * ((10 ^ t.toNat : Nat) : Int)) 1 r := by
  unfold Fm
  rw [if_neg (by decide), if_pos h]
theorem fm_dn {up : Bool} {z t r : Int} (h : ¬ 0 ≤ t) : Fm up true z t r ↔ Rq up z ((10 ^ (-t).toNat : Nat) : Int) r := by
  unfold Fm
  rw [if_neg (by decide), if_neg h]
theorem fm_ex (up may : Bool) (z t : Int) : ∃ r, Fm up may z t r := by
  cases may
  · exact ⟨0, fm_no.2 rfl⟩
  · by_cases c : 0 ≤ t
    · obtain ⟨r, h⟩ := rq_ex up (z * ((10 ^ t.toNat : Nat) : Int)) 1
      exact ⟨r, (fm_up c).2 h⟩
    · obtain ⟨r, h⟩ := rq_ex up z ((10 ^ (-t).toNat : Nat) : Int)
      exact ⟨r, (fm_dn c).2 h⟩
theorem fm_tens {s : Bool} {n a : Nat} {t : Int} (h : mayC s n a t = true) : -400 ≤ t ∧ t ≤ 400 := by
  unfold mayC at h
  by_cases h0 : n = 0
  · rw [if_pos h0] at h
    simp at h
    omega
  · rw [if_neg h0] at h
    simp at h
    omega
end Go.Proofs.YtpmakljahhhnfaaDoor

/-
  What quot.Div, Root, Ratio and From do.
-/
namespace Go.Proofs.YtpmakljahhhnfaaDoor
open Go.RowKit
set_option linter.unusedVariables false
set_option linter.unusedSimpArgs false
set_option maxRecDepth 100000

theorem blen_word {α : Nat} (h0 : 9223372036854775808 ≤ α) (h1 : α < 18446744073709551616) : blen α = 64 := blen_uniq (k := 63) (by omega) h0 h1
/-- What a quotient's bits are rounded to. -/
theorem div_pre {up s t : Bool} {M1 E1 M2 E2 x y r : Int} {α β : Nat} (q1 : Fq 1 s M1 E1 x) (q2 : Fq 1 t M2 E2 y) (ha : (α : Int) = M1) (hb : (β : Int) = M2) (hr : Qt up x y r) (hβ : 0 < β) :
    ∃ P : Bool → Bool → Int → Prop, (∀ σ up r', Sid up (sgi σ ((α : Int) * 2 ^ (E1 - E2 + (KK : Int)).toNat)) (β : Int) r' → P σ up r') ∧ (∀ r', P (s != t) up r' → r' = r) := by
  refine ⟨_, fun _ _ _ h => h, fun r' h => ?_⟩
  have e0 : E1 - E2 + ((0 : Nat) : Int) - ((0 : Nat) : Int) + (KK : Int) = E1 - E2 + (KK : Int) := by omega
  exact (div_side (v := 0) (w := 0) q1 q2 (by rw [← ha]; exact (Int.mul_one _).symm) (by rw [← hb]; exact (Int.mul_one _).symm) hβ (by decide) (by decide) (by rw [e0]; exact h)).uniq hr
theorem root_pre {up : Bool} {M1 E1 x r : Int} {α : Nat} (q1 : Fq 1 false M1 E1 x) (ha : (α : Int) = M1) (hr : Rt up (vr x * 2 ^ KK) r) :
    ∃ P : Bool → Bool → Int → Prop, (∀ up r', Rt up ((α : Int) * 2 ^ (E1 + 2 * (KK : Int)).toNat) r' → P false up r') ∧ (∀ up r', P true up r') ∧ (∀ r', P false up r' → r' = r) := by
  refine ⟨fun σ up r' => σ = false → Rt up ((α : Int) * 2 ^ (E1 + 2 * (KK : Int)).toNat) r', fun _ _ h _ => h, fun _ _ h => absurd h (by decide), fun r' h => ?_⟩
  have e0 : E1 + ((0 : Nat) : Int) + 2 * (KK : Int) = E1 + 2 * (KK : Int) := by omega
  exact (root_fin (v := 0) q1 (by rw [← ha]; exact (Int.mul_one _).symm) (by decide) (by rw [e0]; exact h rfl)).uniq hr
set_option maxHeartbeats 2000000 in
theorem kDiv {w : World} {D D' M M' E E' : Int} {s s' : Bool} {up : Bool} {x y r : Int} (hT : Tab w) (hM : M < 18446744073709551616) (hM' : M' < 18446744073709551616) (hx : rk D s M E = x) (hy : rk D' s' M' E' = y) (hr : Qt up x y r) : Calls Tryd.prog 11 #[.agg #[.int .i64 D, .bool s, .int .u64 M, .int .i64 E], .agg #[.int .i64 D', .bool s', .int .u64 M', .int .i64 E'], .bool up] w (PN w r) := by
  obtain ⟨K1, s1, M1, E1, q1⟩ := fq_tk7 (D := D) (s := s) (M := M) (E := E) hM
  obtain ⟨K2, s2, M2, E2, q2⟩ := fq_tk7 (D := D') (s := s') (M := M') (E := E') hM'
  rw [hx] at q1
  rw [hy] at q2
  have HX := Lib.hid hx
  have HY := Lib.hid hy
  clear hx hy
  go_enter Tryd.func11, Tryd.ntmps11
  go_upto_region 1 with (fail)
  have X3 := (Bo.newAt w (g := w.heap.size) (by simp) #[.int .i64 D, .bool s, .int .u64 M, .int .i64 E] 24).below (bel2 _ (.cells #[.int .i64 D', .bool s', .int .u64 M', .int .i64 E'] 24) (.cells #[.int .i64 0, .bool false, .int .u64 0, .int .i64 0] 24))
  have X4 := (Bo.newAt (w.alloc (.cells #[.int .i64 D, .bool s, .int .u64 M, .int .i64 E] 24)) (g := w.heap.size + 1) (by simp) #[.int .i64 D', .bool s', .int .u64 M', .int .i64 E'] 24).below (bel1 _ (.cells #[.int .i64 0, .bool false, .int .u64 0, .int .i64 0] 24))
  have XR := (Bo.newAt ((w.alloc (.cells #[.int .i64 D, .bool s, .int .u64 M, .int .i64 E] 24)).alloc (.cells #[.int .i64 D', .bool s', .int .u64 M', .int .i64 E'] 24)) (g := w.heap.size + 1 + 1) (by simp) #[.int .i64 0, .bool false, .int .u64 0, .int .i64 0] 24)
  have HB := Lib.hid (bel3 w (.cells #[.int .i64 D, .bool s, .int .u64 M, .int .i64 E] 24) (.cells #[.int .i64 D', .bool s', .int .u64 M', .int .i64 E'] 24) (.cells #[.int .i64 0, .bool false, .int .u64 0, .int .i64 0] 24))
  replace hT := hT.below HB.out
  generalize hW1 : (((w.alloc (.cells #[.int .i64 D, .bool s, .int .u64 M, .int .i64 E] 24)).alloc (.cells #[.int .i64 D', .bool s', .int .u64 M', .int .i64 E'] 24)).alloc (.cells #[.int .i64 0, .bool false, .int .u64 0, .int .i64 0] 24)) = w1 at *
  clear hW1
  refine Jo.region_joint (T := [0, 1, 2, 3]) (ds := [some 7, some 8, some 9, some 10, none, none]) (ls := [[], [0], [], [2], [], []]) (k := 6) (L := [(some 7, 0), (some 8, 1), (some 9, 2), (some 10, 3)]) (fuel := 2) (J := fun wj => Below (World.heap w1).size w1 wj)
    (F := [Jo.Fact.eq (.agg #[.int .i64 D, .bool s, .int .u64 M, .int .i64 E]), Jo.Fact.eq (.agg #[.int .i64 K1, .bool s1, .int .u64 M1, .int .i64 E1]), Jo.Fact.eq (.agg #[.int .i64 D', .bool s', .int .u64 M', .int .i64 E']), Jo.Fact.eq (.agg #[.int .i64 K2, .bool s2, .int .u64 M2, .int .i64 E2]), Jo.Fact.any, Jo.Fact.any])
    (by kernel_rfl) (by kernel_rfl) (by decide) rfl rfl (fun _ _ h b => bt h b) ((Below.refl _ _).drew) ?_ (fun vs w2 hJ hd => ?_)
  · refine Jo.jd 0 (some 7) [] (Jo.Fact.eq (.agg #[.int .i64 D, .bool s, .int .u64 M, .int .i64 E])) rfl rfl rfl rfl (fun vs wj hJ hd K hK => ?_) ?_
    · simp only [Jo.putl, Jo.ze, Act.put, Jo.za, Jo.zb, Jo.zc] at hK ⊢
      clear hd
      have xX30 := (X3.below hJ).a 0 (.int .i64 D) rfl
      have xX31 := (X3.below hJ).a 1 (.bool s) rfl
      have xX32 := (X3.below hJ).a 2 (.int .u64 M) rfl
      have xX33 := (X3.below hJ).a 3 (.int .i64 E) rfl
      go_simp
      exact hK.out _ _ rfl (Below.refl _ _)
    refine Jo.jd 1 (some 8) [(some 7, 0)] (Jo.Fact.eq (.agg #[.int .i64 K1, .bool s1, .int .u64 M1, .int .i64 E1])) rfl rfl rfl rfl (fun vs wj hJ hd K hK => ?_) ?_
    · simp only [Jo.putl, Jo.zd, Jo.ze, Act.put, Jo.za, Jo.zb, Jo.zc] at hK ⊢
      rw [show vs 0 = _ from hd 0 (by decide)] at hK ⊢
      clear hd
      go_simp
      refine (qTaken hM q1 HX.out).mono ?_
      rintro ee wk ⟨rfl, B⟩
      exact hK.out _ _ rfl B
    refine Jo.jd 2 (some 9) [] (Jo.Fact.eq (.agg #[.int .i64 D', .bool s', .int .u64 M', .int .i64 E'])) rfl rfl rfl rfl (fun vs wj hJ hd K hK => ?_) ?_
    · simp only [Jo.putl, Jo.ze, Act.put, Jo.za, Jo.zb, Jo.zc] at hK ⊢
      clear hd
      have xX40 := (X4.below hJ).a 0 (.int .i64 D') rfl
      have xX41 := (X4.below hJ).a 1 (.bool s') rfl
      have xX42 := (X4.below hJ).a 2 (.int .u64 M') rfl
      have xX43 := (X4.below hJ).a 3 (.int .i64 E') rfl
      go_simp
      exact hK.out _ _ rfl (Below.refl _ _)
    refine Jo.jd 3 (some 10) [(some 9, 2)] (Jo.Fact.eq (.agg #[.int .i64 K2, .bool s2, .int .u64 M2, .int .i64 E2])) rfl rfl rfl rfl (fun vs wj hJ hd K hK => ?_) ?_
    · simp only [Jo.putl, Jo.zd, Jo.ze, Act.put, Jo.za, Jo.zb, Jo.zc] at hK ⊢
      rw [show vs 2 = _ from hd 2 (by decide)] at hK ⊢
      clear hd
      go_simp
      refine (qTaken hM' q2 HY.out).mono ?_
      rintro ee wk ⟨rfl, B⟩
      exact hK.out _ _ rfl B
    exact Jo.Steps.nil
  simp only [Jo.putl, Jo.zd, Jo.ze, Act.put, Jo.za, Jo.zb, Jo.zc]
  rw [show vs 0 = _ from hd 0 (by decide), show vs 1 = _ from hd 1 (by decide), show vs 2 = _ from hd 2 (by decide), show vs 3 = _ from hd 3 (by decide)]
  clear hd
  replace X3 := X3.below hJ
  replace X4 := X4.below hJ
  replace XR := XR.below hJ
  replace hT := hT.below hJ
  replace HB := Lib.hid (bt HB.out hJ)
  have xX30 := X3.a 0 (.int .i64 D) rfl
  have zX30 := X3.frozen 0
  have xX31 := X3.a 1 (.bool s) rfl
  have zX31 := X3.frozen 1
  have xX32 := X3.a 2 (.int .u64 M) rfl
  have zX32 := X3.frozen 2
  have xX33 := X3.a 3 (.int .i64 E) rfl
  have zX33 := X3.frozen 3
  refine Jo.jnext (i := 4) (o := ⟨none, _, _, _, _, _⟩) (by kernel_rfl) rfl (fun K hK => ?_)
  go_simp
  refine hK.out _ _ ?_
  clear hK K xX30 zX30 xX31 zX31 xX32 zX32 xX33 zX33
  have SX := StN.mk4 X3 (.int .i64 K1) (.bool s1) (.int .u64 M1) (.int .i64 E1)
  replace X4 := X4.stn SX (by omega)
  replace XR := XR.stn SX (by omega)
  replace hT := hT.stn SX (by simp [no8])
  replace HB := Lib.hid (SX.below HB.out (by omega))
  replace X3 := SX.box
  clear SX
  generalize (World.setCell (World.setCell (World.setCell (World.setCell w2 ⟨w.heap.size, 0, none⟩ (.int .i64 K1)) ⟨w.heap.size, 1, none⟩ (.bool s1)) ⟨w.heap.size, 2, none⟩ (.int .u64 M1)) ⟨w.heap.size, 3, none⟩ (.int .i64 E1)) = w3 at *
  have xX40 := X4.a 0 (.int .i64 D') rfl
  have zX40 := X4.frozen 0
  have xX41 := X4.a 1 (.bool s') rfl
  have zX41 := X4.frozen 1
  have xX42 := X4.a 2 (.int .u64 M') rfl
  have zX42 := X4.frozen 2
  have xX43 := X4.a 3 (.int .i64 E') rfl
  have zX43 := X4.frozen 3
  refine Jo.jnext (i := 5) (o := ⟨none, _, _, _, _, _⟩) (by kernel_rfl) rfl (fun K hK => ?_)
  go_simp
  refine hK.out _ _ ?_
  clear hK K xX40 zX40 xX41 zX41 xX42 zX42 xX43 zX43
  have SX := StN.mk4 X4 (.int .i64 K2) (.bool s2) (.int .u64 M2) (.int .i64 E2)
  replace X3 := X3.stn SX (by omega)
  replace XR := XR.stn SX (by omega)
  replace hT := hT.stn SX (by simp [no8])
  replace HB := Lib.hid (SX.below HB.out (by omega))
  replace X4 := SX.box
  clear SX
  generalize (World.setCell (World.setCell (World.setCell (World.setCell w3 ⟨w.heap.size + 1, 0, none⟩ (.int .i64 K2)) ⟨w.heap.size + 1, 1, none⟩ (.bool s2)) ⟨w.heap.size + 1, 2, none⟩ (.int .u64 M2)) ⟨w.heap.size + 1, 3, none⟩ (.int .i64 E2)) = w4 at *
  refine Jo.jdone (by kernel_rfl) ?_
  clear HX HY hM hM'
  have i1 := fq_inf q1
  have i2 := fq_inf q2
  have z1 := q1.zero_iff
  have z2 := q2.zero_iff
  have kk1 : K1 = 2 ∨ K1 = 0 ∨ K1 = 1 := by rcases q1.cases with ⟨h, _⟩ | ⟨h, _⟩ | ⟨h, _⟩ <;> omega
  have kk2 : K2 = 2 ∨ K2 = 0 ∨ K2 = 1 := by rcases q2.cases with ⟨h, _⟩ | ⟨h, _⟩ | ⟨h, _⟩ <;> omega
  rcases kk1 with rfl | rfl | rfl
  · rcases kk2 with rfl | rfl | rfl
    · have hy0 : y ≠ 0 := fun c => absurd (z2.2 c) (by decide)
      have hr2 : r = 0 := (qt_zero hy0 (.inr i2)).1 hr
      subst hr2
      clear i1 i2 z1 z2 q1 q2 hr hy0 hT
      have xXR0 := XR.a 0 (.int .i64 0) rfl
      have zXR0 := XR.frozen 0
      have xXR1 := XR.a 1 (.bool false) rfl
      have zXR1 := XR.frozen 1
      have xXR2 := XR.a 2 (.int .u64 0) rfl
      have zXR2 := XR.frozen 2
      have xXR3 := XR.a 3 (.int .i64 0) rfl
      have zXR3 := XR.frozen 3
      have xX30 := X3.a 0 (.int .i64 2) rfl
      have xX31 := X3.a 1 (.bool s1) rfl
      have xX32 := X3.a 2 (.int .u64 M1) rfl
      have xX33 := X3.a 3 (.int .i64 E1) rfl
      have xX40 := X4.a 0 (.int .i64 2) rfl
      have xX41 := X4.a 1 (.bool s2) rfl
      have xX42 := X4.a 2 (.int .u64 M2) rfl
      have xX43 := X4.a 3 (.int .i64 E2) rfl
      go_wp2
      clear xXR0 zXR0 xXR1 zXR1 xXR2 zXR2 xXR3 zXR3 xX30 xX31 xX32 xX33 xX40 xX41 xX42 xX43
      have SX := StN.mk4 XR (.int .i64 0) (.bool false) (.int .u64 0) (.int .i64 0)
      replace X3 := X3.stn SX (by omega)
      replace X4 := X4.stn SX (by omega)
      replace HB := Lib.hid (SX.below HB.out (by omega))
      replace XR := SX.box
      clear SX
      generalize (World.setCell (World.setCell (World.setCell (World.setCell w4 ⟨w.heap.size + 1 + 1, 0, none⟩ (.int .i64 0)) ⟨w.heap.size + 1 + 1, 1, none⟩ (.bool false)) ⟨w.heap.size + 1 + 1, 2, none⟩ (.int .u64 0)) ⟨w.heap.size + 1 + 1, 3, none⟩ (.int .i64 0)) = w6 at *
      have r0 := XR.cell 0
      have r1 := XR.cell 1
      have r2 := XR.cell 2
      have r3 := XR.cell 3
      exact bodyPost_ret (v := .agg #[.int .i64 0, .bool false, .int .u64 0, .int .i64 0]) (by simp [results, Tryd.results11, go_sem, r0, r1, r2, r3]) rfl ⟨_, _, _, _, rfl, Fq.nought, HB.out⟩
    · have hr2 : sgi (!up) TP = r := by
        rw [z2.1 rfl] at hr
        exact (qt_none'.1 hr).symm
      have HRR := Lib.hid hr2
      clear i1 i2 z1 z2 q1 q2 hr hr2 hT
      have xX30 := X3.a 0 (.int .i64 2) rfl
      have xX31 := X3.a 1 (.bool s1) rfl
      have xX32 := X3.a 2 (.int .u64 M1) rfl
      have xX33 := X3.a 3 (.int .i64 E1) rfl
      have xX40 := X4.a 0 (.int .i64 0) rfl
      have xX41 := X4.a 1 (.bool s2) rfl
      have xX42 := X4.a 2 (.int .u64 M2) rfl
      have xX43 := X4.a 3 (.int .i64 E2) rfl
      go_wp2_with fail
      refine (qAway HRR.out).mono ?_
      rintro ee w6 ⟨K3, s3, M3, E3, rfl, q3, B⟩
      clear xX30 xX31 xX32 xX33 xX40 xX41 xX42 xX43
      replace X3 := X3.below B
      replace X4 := X4.below B
      replace XR := XR.below B
      replace HB := Lib.hid (bt HB.out B)
      clear B
      have xXR0 := XR.a 0 (.int .i64 0) rfl
      have zXR0 := XR.frozen 0
      have xXR1 := XR.a 1 (.bool false) rfl
      have zXR1 := XR.frozen 1
      have xXR2 := XR.a 2 (.int .u64 0) rfl
      have zXR2 := XR.frozen 2
      have xXR3 := XR.a 3 (.int .i64 0) rfl
      have zXR3 := XR.frozen 3
      go_wp2
      clear xXR0 zXR0 xXR1 zXR1 xXR2 zXR2 xXR3 zXR3
      have SX := StN.mk4 XR (.int .i64 K3) (.bool s3) (.int .u64 M3) (.int .i64 E3)
      replace X3 := X3.stn SX (by omega)
      replace X4 := X4.stn SX (by omega)
      replace HB := Lib.hid (SX.below HB.out (by omega))
      replace XR := SX.box
      clear SX
      generalize (World.setCell (World.setCell (World.setCell (World.setCell w6 ⟨w.heap.size + 1 + 1, 0, none⟩ (.int .i64 K3)) ⟨w.heap.size + 1 + 1, 1, none⟩ (.bool s3)) ⟨w.heap.size + 1 + 1, 2, none⟩ (.int .u64 M3)) ⟨w.heap.size + 1 + 1, 3, none⟩ (.int .i64 E3)) = w7 at *
      have r0 := XR.cell 0
      have r1 := XR.cell 1
      have r2 := XR.cell 2
      have r3 := XR.cell 3
      exact bodyPost_ret (v := .agg #[.int .i64 K3, .bool s3, .int .u64 M3, .int .i64 E3]) (by simp [results, Tryd.results11, go_sem, r0, r1, r2, r3]) rfl ⟨_, _, _, _, rfl, q3, HB.out⟩
    · have hy0 : y ≠ 0 := fun c => absurd (z2.2 c) (by decide)
      have hn : ¬ (x = 0 ∨ infp y = true) := by
        rw [i2]
        rintro (c | c)
        · exact absurd (z1.2 c) (by decide)
        · exact absurd c (by decide)
      have sx : decide (x < 0) = s1 := by
        rcases q1.three with ⟨a, _⟩ | ⟨_, rfl, b⟩ | ⟨_, rfl, b⟩
        · exact absurd a (by decide)
        · exact decide_eq_false (by omega)
        · exact decide_eq_true b
      have sy : decide (y < 0) = s2 := by
        rcases q2.three with ⟨a, _⟩ | ⟨_, rfl, b⟩ | ⟨_, rfl, b⟩
        · exact absurd a (by decide)
        · exact decide_eq_false (by omega)
        · exact decide_eq_true b
      have hr2 : sgi (s1 != s2) TP = r := by
        have := (qt_inf hy0 hn i1).1 hr
        rw [sx, sy] at this
        exact this.symm
      have HRR := Lib.hid hr2
      clear i1 i2 z1 z2 q1 q2 hr hr2 sx sy hn hy0 hT
      have xX30 := X3.a 0 (.int .i64 2) rfl
      have xX31 := X3.a 1 (.bool s1) rfl
      have xX32 := X3.a 2 (.int .u64 M1) rfl
      have xX33 := X3.a 3 (.int .i64 E1) rfl
      have xX40 := X4.a 0 (.int .i64 1) rfl
      have xX41 := X4.a 1 (.bool s2) rfl
      have xX42 := X4.a 2 (.int .u64 M2) rfl
      have xX43 := X4.a 3 (.int .i64 E2) rfl
      go_wp2_with fail
      refine (nInf (s := s1 != s2) HRR.out).mono ?_
      rintro ee w6 ⟨K3, s3, M3, E3, rfl, q3, B⟩
      clear xX30 xX31 xX32 xX33 xX40 xX41 xX42 xX43
      replace X3 := X3.below B
      replace X4 := X4.below B
      replace XR := XR.below B
      replace HB := Lib.hid (bt HB.out B)
      clear B
      have xXR0 := XR.a 0 (.int .i64 0) rfl
      have zXR0 := XR.frozen 0
      have xXR1 := XR.a 1 (.bool false) rfl
      have zXR1 := XR.frozen 1
      have xXR2 := XR.a 2 (.int .u64 0) rfl
      have zXR2 := XR.frozen 2
      have xXR3 := XR.a 3 (.int .i64 0) rfl
      have zXR3 := XR.frozen 3
      go_wp2
      clear xXR0 zXR0 xXR1 zXR1 xXR2 zXR2 xXR3 zXR3
      have SX := StN.mk4 XR (.int .i64 K3) (.bool s3) (.int .u64 M3) (.int .i64 E3)
      replace X3 := X3.stn SX (by omega)
      replace X4 := X4.stn SX (by omega)
      replace HB := Lib.hid (SX.below HB.out (by omega))
      replace XR := SX.box
      clear SX
      generalize (World.setCell (World.setCell (World.setCell (World.setCell w6 ⟨w.heap.size + 1 + 1, 0, none⟩ (.int .i64 K3)) ⟨w.heap.size + 1 + 1, 1, none⟩ (.bool s3)) ⟨w.heap.size + 1 + 1, 2, none⟩ (.int .u64 M3)) ⟨w.heap.size + 1 + 1, 3, none⟩ (.int .i64 E3)) = w7 at *
      have r0 := XR.cell 0
      have r1 := XR.cell 1
      have r2 := XR.cell 2
      have r3 := XR.cell 3
      exact bodyPost_ret (v := .agg #[.int .i64 K3, .bool s3, .int .u64 M3, .int .i64 E3]) (by simp [results, Tryd.results11, go_sem, r0, r1, r2, r3]) rfl ⟨_, _, _, _, rfl, q3, HB.out⟩
  · rcases kk2 with rfl | rfl | rfl
    · have hy0 : y ≠ 0 := fun c => absurd (z2.2 c) (by decide)
      have hr2 : r = 0 := (qt_zero hy0 (.inl (z1.1 rfl))).1 hr
      subst hr2
      clear i1 i2 z1 z2 q1 q2 hr hy0 hT
      have xXR0 := XR.a 0 (.int .i64 0) rfl
      have zXR0 := XR.frozen 0
      have xXR1 := XR.a 1 (.bool false) rfl
      have zXR1 := XR.frozen 1
      have xXR2 := XR.a 2 (.int .u64 0) rfl
      have zXR2 := XR.frozen 2
      have xXR3 := XR.a 3 (.int .i64 0) rfl
      have zXR3 := XR.frozen 3
      have xX30 := X3.a 0 (.int .i64 0) rfl
      have xX31 := X3.a 1 (.bool s1) rfl
      have xX32 := X3.a 2 (.int .u64 M1) rfl
      have xX33 := X3.a 3 (.int .i64 E1) rfl
      have xX40 := X4.a 0 (.int .i64 2) rfl
      have xX41 := X4.a 1 (.bool s2) rfl
      have xX42 := X4.a 2 (.int .u64 M2) rfl
      have xX43 := X4.a 3 (.int .i64 E2) rfl
      go_wp2
      clear xXR0 zXR0 xXR1 zXR1 xXR2 zXR2 xXR3 zXR3 xX30 xX31 xX32 xX33 xX40 xX41 xX42 xX43
      have SX := StN.mk4 XR (.int .i64 0) (.bool false) (.int .u64 0) (.int .i64 0)
      replace X3 := X3.stn SX (by omega)
      replace X4 := X4.stn SX (by omega)
      replace HB := Lib.hid (SX.below HB.out (by omega))
      replace XR := SX.box
      clear SX
      generalize (World.setCell (World.setCell (World.setCell (World.setCell w4 ⟨w.heap.size + 1 + 1, 0, none⟩ (.int .i64 0)) ⟨w.heap.size + 1 + 1, 1, none⟩ (.bool false)) ⟨w.heap.size + 1 + 1, 2, none⟩ (.int .u64 0)) ⟨w.heap.size + 1 + 1, 3, none⟩ (.int .i64 0)) = w6 at *
      have r0 := XR.cell 0
      have r1 := XR.cell 1
      have r2 := XR.cell 2
      have r3 := XR.cell 3
      exact bodyPost_ret (v := .agg #[.int .i64 0, .bool false, .int .u64 0, .int .i64 0]) (by simp [results, Tryd.results11, go_sem, r0, r1, r2, r3]) rfl ⟨_, _, _, _, rfl, Fq.nought, HB.out⟩
    · have hr2 : sgi (!up) TP = r := by
        rw [z2.1 rfl] at hr
        exact (qt_none'.1 hr).symm
      have HRR := Lib.hid hr2
      clear i1 i2 z1 z2 q1 q2 hr hr2 hT
      have xX30 := X3.a 0 (.int .i64 0) rfl
      have xX31 := X3.a 1 (.bool s1) rfl
      have xX32 := X3.a 2 (.int .u64 M1) rfl
      have xX33 := X3.a 3 (.int .i64 E1) rfl
      have xX40 := X4.a 0 (.int .i64 0) rfl
      have xX41 := X4.a 1 (.bool s2) rfl
      have xX42 := X4.a 2 (.int .u64 M2) rfl
      have xX43 := X4.a 3 (.int .i64 E2) rfl
      go_wp2_with fail
      refine (qAway HRR.out).mono ?_
      rintro ee w6 ⟨K3, s3, M3, E3, rfl, q3, B⟩
      clear xX30 xX31 xX32 xX33 xX40 xX41 xX42 xX43
      replace X3 := X3.below B
      replace X4 := X4.below B
      replace XR := XR.below B
      replace HB := Lib.hid (bt HB.out B)
      clear B
      have xXR0 := XR.a 0 (.int .i64 0) rfl
      have zXR0 := XR.frozen 0
      have xXR1 := XR.a 1 (.bool false) rfl
      have zXR1 := XR.frozen 1
      have xXR2 := XR.a 2 (.int .u64 0) rfl
      have zXR2 := XR.frozen 2
      have xXR3 := XR.a 3 (.int .i64 0) rfl
      have zXR3 := XR.frozen 3
      go_wp2
      clear xXR0 zXR0 xXR1 zXR1 xXR2 zXR2 xXR3 zXR3
      have SX := StN.mk4 XR (.int .i64 K3) (.bool s3) (.int .u64 M3) (.int .i64 E3)
      replace X3 := X3.stn SX (by omega)
      replace X4 := X4.stn SX (by omega)
      replace HB := Lib.hid (SX.below HB.out (by omega))
      replace XR := SX.box
      clear SX
      generalize (World.setCell (World.setCell (World.setCell (World.setCell w6 ⟨w.heap.size + 1 + 1, 0, none⟩ (.int .i64 K3)) ⟨w.heap.size + 1 + 1, 1, none⟩ (.bool s3)) ⟨w.heap.size + 1 + 1, 2, none⟩ (.int .u64 M3)) ⟨w.heap.size + 1 + 1, 3, none⟩ (.int .i64 E3)) = w7 at *
      have r0 := XR.cell 0
      have r1 := XR.cell 1
      have r2 := XR.cell 2
      have r3 := XR.cell 3
      exact bodyPost_ret (v := .agg #[.int .i64 K3, .bool s3, .int .u64 M3, .int .i64 E3]) (by simp [results, Tryd.results11, go_sem, r0, r1, r2, r3]) rfl ⟨_, _, _, _, rfl, q3, HB.out⟩
    · have hy0 : y ≠ 0 := fun c => absurd (z2.2 c) (by decide)
      have hr2 : r = 0 := (qt_zero hy0 (.inl (z1.1 rfl))).1 hr
      subst hr2
      clear i1 i2 z1 z2 q1 q2 hr hy0 hT
      have xXR0 := XR.a 0 (.int .i64 0) rfl
      have zXR0 := XR.frozen 0
      have xXR1 := XR.a 1 (.bool false) rfl
      have zXR1 := XR.frozen 1
      have xXR2 := XR.a 2 (.int .u64 0) rfl
      have zXR2 := XR.frozen 2
      have xXR3 := XR.a 3 (.int .i64 0) rfl
      have zXR3 := XR.frozen 3
      have xX30 := X3.a 0 (.int .i64 0) rfl
      have xX31 := X3.a 1 (.bool s1) rfl
      have xX32 := X3.a 2 (.int .u64 M1) rfl
      have xX33 := X3.a 3 (.int .i64 E1) rfl
      have xX40 := X4.a 0 (.int .i64 1) rfl
      have xX41 := X4.a 1 (.bool s2) rfl
      have xX42 := X4.a 2 (.int .u64 M2) rfl
      have xX43 := X4.a 3 (.int .i64 E2) rfl
      go_wp2
      clear xXR0 zXR0 xXR1 zXR1 xXR2 zXR2 xXR3 zXR3 xX30 xX31 xX32 xX33 xX40 xX41 xX42 xX43
      have SX := StN.mk4 XR (.int .i64 0) (.bool false) (.int .u64 0) (.int .i64 0)
      replace X3 := X3.stn SX (by omega)
      replace X4 := X4.stn SX (by omega)
      replace HB := Lib.hid (SX.below HB.out (by omega))
      replace XR := SX.box
      clear SX
      generalize (World.setCell (World.setCell (World.setCell (World.setCell w4 ⟨w.heap.size + 1 + 1, 0, none⟩ (.int .i64 0)) ⟨w.heap.size + 1 + 1, 1, none⟩ (.bool false)) ⟨w.heap.size + 1 + 1, 2, none⟩ (.int .u64 0)) ⟨w.heap.size + 1 + 1, 3, none⟩ (.int .i64 0)) = w6 at *
      have r0 := XR.cell 0
      have r1 := XR.cell 1
      have r2 := XR.cell 2
      have r3 := XR.cell 3
      exact bodyPost_ret (v := .agg #[.int .i64 0, .bool false, .int .u64 0, .int .i64 0]) (by simp [results, Tryd.results11, go_sem, r0, r1, r2, r3]) rfl ⟨_, _, _, _, rfl, Fq.nought, HB.out⟩
  · rcases kk2 with rfl | rfl | rfl
    · have hy0 : y ≠ 0 := fun c => absurd (z2.2 c) (by decide)
      have hr2 : r = 0 := (qt_zero hy0 (.inr i2)).1 hr
      subst hr2
      clear i1 i2 z1 z2 q1 q2 hr hy0 hT
      have xXR0 := XR.a 0 (.int .i64 0) rfl
      have zXR0 := XR.frozen 0
      have xXR1 := XR.a 1 (.bool false) rfl
      have zXR1 := XR.frozen 1
      have xXR2 := XR.a 2 (.int .u64 0) rfl
      have zXR2 := XR.frozen 2
      have xXR3 := XR.a 3 (.int .i64 0) rfl
      have zXR3 := XR.frozen 3
      have xX30 := X3.a 0 (.int .i64 1) rfl
      have xX31 := X3.a 1 (.bool s1) rfl
      have xX32 := X3.a 2 (.int .u64 M1) rfl
      have xX33 := X3.a 3 (.int .i64 E1) rfl
      have xX40 := X4.a 0 (.int .i64 2) rfl
      have xX41 := X4.a 1 (.bool s2) rfl
      have xX42 := X4.a 2 (.int .u64 M2) rfl
      have xX43 := X4.a 3 (.int .i64 E2) rfl
      go_wp2
      clear xXR0 zXR0 xXR1 zXR1 xXR2 zXR2 xXR3 zXR3 xX30 xX31 xX32 xX33 xX40 xX41 xX42 xX43
      have SX := StN.mk4 XR (.int .i64 0) (.bool false) (.int .u64 0) (.int .i64 0)
      replace X3 := X3.stn SX (by omega)
      replace X4 := X4.stn SX (by omega)
      replace HB := Lib.hid (SX.below HB.out (by omega))
      replace XR := SX.box
      clear SX
      generalize (World.setCell (World.setCell (World.setCell (World.setCell w4 ⟨w.heap.size + 1 + 1, 0, none⟩ (.int .i64 0)) ⟨w.heap.size + 1 + 1, 1, none⟩ (.bool false)) ⟨w.heap.size + 1 + 1, 2, none⟩ (.int .u64 0)) ⟨w.heap.size + 1 + 1, 3, none⟩ (.int .i64 0)) = w6 at *
      have r0 := XR.cell 0
      have r1 := XR.cell 1
      have r2 := XR.cell 2
      have r3 := XR.cell 3
      exact bodyPost_ret (v := .agg #[.int .i64 0, .bool false, .int .u64 0, .int .i64 0]) (by simp [results, Tryd.results11, go_sem, r0, r1, r2, r3]) rfl ⟨_, _, _, _, rfl, Fq.nought, HB.out⟩
    · have hr2 : sgi (!up) TP = r := by
        rw [z2.1 rfl] at hr
        exact (qt_none'.1 hr).symm
      have HRR := Lib.hid hr2
      clear i1 i2 z1 z2 q1 q2 hr hr2 hT
      have xX30 := X3.a 0 (.int .i64 1) rfl
      have xX31 := X3.a 1 (.bool s1) rfl
      have xX32 := X3.a 2 (.int .u64 M1) rfl
      have xX33 := X3.a 3 (.int .i64 E1) rfl
      have xX40 := X4.a 0 (.int .i64 0) rfl
      have xX41 := X4.a 1 (.bool s2) rfl
      have xX42 := X4.a 2 (.int .u64 M2) rfl
      have xX43 := X4.a 3 (.int .i64 E2) rfl
      go_wp2_with fail
      refine (qAway HRR.out).mono ?_
      rintro ee w6 ⟨K3, s3, M3, E3, rfl, q3, B⟩
      clear xX30 xX31 xX32 xX33 xX40 xX41 xX42 xX43
      replace X3 := X3.below B
      replace X4 := X4.below B
      replace XR := XR.below B
      replace HB := Lib.hid (bt HB.out B)
      clear B
      have xXR0 := XR.a 0 (.int .i64 0) rfl
      have zXR0 := XR.frozen 0
      have xXR1 := XR.a 1 (.bool false) rfl
      have zXR1 := XR.frozen 1
      have xXR2 := XR.a 2 (.int .u64 0) rfl
      have zXR2 := XR.frozen 2
      have xXR3 := XR.a 3 (.int .i64 0) rfl
      have zXR3 := XR.frozen 3
      go_wp2
      clear xXR0 zXR0 xXR1 zXR1 xXR2 zXR2 xXR3 zXR3
      have SX := StN.mk4 XR (.int .i64 K3) (.bool s3) (.int .u64 M3) (.int .i64 E3)
      replace X3 := X3.stn SX (by omega)
      replace X4 := X4.stn SX (by omega)
      replace HB := Lib.hid (SX.below HB.out (by omega))
      replace XR := SX.box
      clear SX
      generalize (World.setCell (World.setCell (World.setCell (World.setCell w6 ⟨w.heap.size + 1 + 1, 0, none⟩ (.int .i64 K3)) ⟨w.heap.size + 1 + 1, 1, none⟩ (.bool s3)) ⟨w.heap.size + 1 + 1, 2, none⟩ (.int .u64 M3)) ⟨w.heap.size + 1 + 1, 3, none⟩ (.int .i64 E3)) = w7 at *
      have r0 := XR.cell 0
      have r1 := XR.cell 1
      have r2 := XR.cell 2
      have r3 := XR.cell 3
      exact bodyPost_ret (v := .agg #[.int .i64 K3, .bool s3, .int .u64 M3, .int .i64 E3]) (by simp [results, Tryd.results11, go_sem, r0, r1, r2, r3]) rfl ⟨_, _, _, _, rfl, q3, HB.out⟩
    · have hy0 : y ≠ 0 := fun c => absurd (z2.2 c) (by decide)
      obtain ⟨a1, a2, a3, a4, _⟩ := fq_vr q1
      obtain ⟨b1, b2, b3, b4, _⟩ := fq_vr q2
      obtain ⟨α, hα⟩ : ∃ α : Nat, (α : Int) = M1 := ⟨M1.toNat, by omega⟩
      obtain ⟨β, hβ⟩ : ∃ β : Nat, (β : Int) = M2 := ⟨M2.toNat, by omega⟩
      have α1 : 9223372036854775808 ≤ α := by omega
      have α2 : α < 18446744073709551616 := by omega
      have β1 : 9223372036854775808 ≤ β := by omega
      have β2 : β < 18446744073709551616 := by omega
      obtain ⟨P, hP, hPr⟩ := div_pre q1 q2 hα hβ hr (by omega)
      obtain ⟨e, he⟩ : ∃ e, E1 - E2 = e := ⟨_, rfl⟩
      rw [he] at hP
      have eb1 : -2200000 ≤ e := by omega
      have eb2 : e ≤ 2200000 := by omega
      have eb3 : e - ((blen β : Int) - (blen α : Int) + 64) ≤ 2097152 := by
        rw [blen_word α1 α2, blen_word β1 β2]
        omega
      have HPP := Lib.hid hP
      have HPR := Lib.hid hPr
      have HA := Lib.hid hα
      have HBE := Lib.hid hβ
      have HW : Hid (IntKind.i64.wrap (E1 - E2) = e) := Lib.hid (by rw [he]; exact IntWalk.i64_in _ (by omega))
      have HW2 : Hid (wrap64 (E1 - E2) = e) := Lib.hid (by rw [he]; exact IntWalk.wrap64_in _ (by omega))
      have α0 : 0 < α := by omega
      have β0 : 0 < β := by omega
      clear i1 i2 z1 z2 hr hy0 a1 a2 a3 a4 b1 b2 b3 b4 hP hPr he hα hβ α1 β1 q1 q2
      have xX30 := X3.a 0 (.int .i64 1) rfl
      have xX31 := X3.a 1 (.bool s1) rfl
      have xX32 := X3.a 2 (.int .u64 M1) rfl
      have xX33 := X3.a 3 (.int .i64 E1) rfl
      have xX40 := X4.a 0 (.int .i64 1) rfl
      have xX41 := X4.a 1 (.bool s2) rfl
      have xX42 := X4.a 2 (.int .u64 M2) rfl
      have xX43 := X4.a 3 (.int .i64 E2) rfl
      go_upto_region 8 with (fail)
      clear xX30 xX31 xX32 xX33 xX40 xX41 xX42 xX43
      refine Jo.region_joint (T := [0, 1, 2, 3, 4, 5, 6, 7, 8, 9, 10, 11, 12, 13, 14, 15, 16, 17, 18]) (ds := [some 37, some 38, some 39, some 40, some 41, some 42, some 43, some 44, some 45, some 46, some 47, some 48, some 49, some 50, some 51, some 52, some 53, some 54, some 55, none]) (ls := [[], [0], [1], [], [3], [4], [], [6], [], [8], [7, 9], [2, 5, 10], [], [12], [], [14], [13, 15], [], [11, 16, 17], []]) (k := 20) (L := [(some 37, 0), (some 38, 1), (some 39, 2), (some 40, 3), (some 41, 4), (some 42, 5), (some 43, 6), (some 44, 7), (some 45, 8), (some 46, 9), (some 47, 10), (some 48, 11), (some 49, 12), (some 50, 13), (some 51, 14), (some 52, 15), (some 53, 16), (some 54, 17), (some 55, 18)]) (fuel := 1) (J := fun wj => Below (World.heap w4).size w4 wj)
        (F := [Jo.Fact.eq (.pointer (some ⟨w.heap.size, 2, none⟩)), Jo.Fact.eq (.int .u64 M1), Jo.Fact.rd α 2, Jo.Fact.eq (.pointer (some ⟨w.heap.size + 1, 2, none⟩)), Jo.Fact.eq (.int .u64 M2), Jo.Fact.rd β 2, Jo.Fact.eq (.pointer (some ⟨w.heap.size, 3, none⟩)), Jo.Fact.eq (.int .i64 E1), Jo.Fact.eq (.pointer (some ⟨w.heap.size + 1, 3, none⟩)), Jo.Fact.eq (.int .i64 E2), Jo.Fact.eq (.int .i64 e), Jo.Fact.pk P, Jo.Fact.eq (.pointer (some ⟨w.heap.size, 1, none⟩)), Jo.Fact.eq (.bool s1), Jo.Fact.eq (.pointer (some ⟨w.heap.size + 1, 1, none⟩)), Jo.Fact.eq (.bool s2), Jo.Fact.eq (.bool (s1 != s2)), Jo.Fact.eq (.bool up), Jo.Fact.num r, Jo.Fact.any])
        (by kernel_rfl) (by kernel_rfl) (by decide) rfl rfl (fun _ _ h b => bt h b) ((Below.refl _ _).drew) ?_ (fun vs w8 hJ hd => ?_)
      · refine Jo.jd 0 (some 37) [] (Jo.Fact.eq (.pointer (some ⟨w.heap.size, 2, none⟩))) rfl rfl rfl rfl (fun vs wj hJ hd K hK => ?_) ?_
        · simp only [Jo.putl, Jo.ze, Act.put, Jo.za, Jo.zb, Jo.zc] at hK ⊢
          clear hd
          go_simp
          exact hK.out _ _ rfl (Below.refl _ _)
        refine Jo.jd 1 (some 38) [(some 37, 0)] (Jo.Fact.eq (.int .u64 M1)) rfl rfl rfl rfl (fun vs wj hJ hd K hK => ?_) ?_
        · simp only [Jo.putl, Jo.zd, Jo.ze, Act.put, Jo.za, Jo.zb, Jo.zc] at hK ⊢
          rw [show vs 0 = _ from hd 0 (by decide)] at hK ⊢
          clear hd
          have xX32 := (X3.below hJ).a 2 (.int .u64 M1) rfl
          go_simp
          exact hK.out _ _ rfl (Below.refl _ _)
        refine Jo.jd 2 (some 39) [(some 38, 1)] (Jo.Fact.rd α 2) rfl rfl rfl rfl (fun vs wj hJ hd K hK => ?_) ?_
        · simp only [Jo.putl, Jo.zd, Jo.ze, Act.put, Jo.za, Jo.zb, Jo.zc] at hK ⊢
          rw [show vs 1 = _ from hd 1 (by decide)] at hK ⊢
          clear hd
          go_simp
          refine (qLimbs HA.out α2).mono ?_
          rintro ee wk ⟨A2, rfl, p2, B⟩
          exact hK.out _ _ ⟨A2, 2, 2, rfl, p2, Nat.le_refl _⟩ B
        refine Jo.jd 3 (some 40) [] (Jo.Fact.eq (.pointer (some ⟨w.heap.size + 1, 2, none⟩))) rfl rfl rfl rfl (fun vs wj hJ hd K hK => ?_) ?_
        · simp only [Jo.putl, Jo.ze, Act.put, Jo.za, Jo.zb, Jo.zc] at hK ⊢
          clear hd
          go_simp
          exact hK.out _ _ rfl (Below.refl _ _)
        refine Jo.jd 4 (some 41) [(some 40, 3)] (Jo.Fact.eq (.int .u64 M2)) rfl rfl rfl rfl (fun vs wj hJ hd K hK => ?_) ?_
        · simp only [Jo.putl, Jo.zd, Jo.ze, Act.put, Jo.za, Jo.zb, Jo.zc] at hK ⊢
          rw [show vs 3 = _ from hd 3 (by decide)] at hK ⊢
          clear hd
          have xX42 := (X4.below hJ).a 2 (.int .u64 M2) rfl
          go_simp
          exact hK.out _ _ rfl (Below.refl _ _)
        refine Jo.jd 5 (some 42) [(some 41, 4)] (Jo.Fact.rd β 2) rfl rfl rfl rfl (fun vs wj hJ hd K hK => ?_) ?_
        · simp only [Jo.putl, Jo.zd, Jo.ze, Act.put, Jo.za, Jo.zb, Jo.zc] at hK ⊢
          rw [show vs 4 = _ from hd 4 (by decide)] at hK ⊢
          clear hd
          go_simp
          refine (qLimbs HBE.out β2).mono ?_
          rintro ee wk ⟨A5, rfl, p5, B⟩
          exact hK.out _ _ ⟨A5, 2, 2, rfl, p5, Nat.le_refl _⟩ B
        refine Jo.jd 6 (some 43) [] (Jo.Fact.eq (.pointer (some ⟨w.heap.size, 3, none⟩))) rfl rfl rfl rfl (fun vs wj hJ hd K hK => ?_) ?_
        · simp only [Jo.putl, Jo.ze, Act.put, Jo.za, Jo.zb, Jo.zc] at hK ⊢
          clear hd
          go_simp
          exact hK.out _ _ rfl (Below.refl _ _)
        refine Jo.jd 7 (some 44) [(some 43, 6)] (Jo.Fact.eq (.int .i64 E1)) rfl rfl rfl rfl (fun vs wj hJ hd K hK => ?_) ?_
        · simp only [Jo.putl, Jo.zd, Jo.ze, Act.put, Jo.za, Jo.zb, Jo.zc] at hK ⊢
          rw [show vs 6 = _ from hd 6 (by decide)] at hK ⊢
          clear hd
          have xX33 := (X3.below hJ).a 3 (.int .i64 E1) rfl
          go_simp
          exact hK.out _ _ rfl (Below.refl _ _)
        refine Jo.jd 8 (some 45) [] (Jo.Fact.eq (.pointer (some ⟨w.heap.size + 1, 3, none⟩))) rfl rfl rfl rfl (fun vs wj hJ hd K hK => ?_) ?_
        · simp only [Jo.putl, Jo.ze, Act.put, Jo.za, Jo.zb, Jo.zc] at hK ⊢
          clear hd
          go_simp
          exact hK.out _ _ rfl (Below.refl _ _)
        refine Jo.jd 9 (some 46) [(some 45, 8)] (Jo.Fact.eq (.int .i64 E2)) rfl rfl rfl rfl (fun vs wj hJ hd K hK => ?_) ?_
        · simp only [Jo.putl, Jo.zd, Jo.ze, Act.put, Jo.za, Jo.zb, Jo.zc] at hK ⊢
          rw [show vs 8 = _ from hd 8 (by decide)] at hK ⊢
          clear hd
          have xX43 := (X4.below hJ).a 3 (.int .i64 E2) rfl
          go_simp
          exact hK.out _ _ rfl (Below.refl _ _)
        refine Jo.jd 10 (some 47) [(some 44, 7), (some 46, 9)] (Jo.Fact.eq (.int .i64 e)) rfl rfl rfl rfl (fun vs wj hJ hd K hK => ?_) ?_
        · simp only [Jo.putl, Jo.zd, Jo.ze, Act.put, Jo.za, Jo.zb, Jo.zc] at hK ⊢
          rw [show vs 7 = _ from hd 7 (by decide), show vs 9 = _ from hd 9 (by decide)] at hK ⊢
          clear hd
          have hw := HW.out
          have hw2 := HW2.out
          go_simp
          exact hK.out _ _ (by first | rfl | (show Value.int _ _ = Value.int _ _; first | rw [hw] | rw [hw2])) (Below.refl _ _)
        refine Jo.jd 11 (some 48) [(some 39, 2), (some 42, 5), (some 47, 10)] (Jo.Fact.pk P) rfl rfl rfl rfl (fun vs wj hJ hd K hK => ?_) ?_
        · have d2 : (Jo.Fact.rd α 2).P (vs 2) wj := hd 2 (by decide)
          have d5 : (Jo.Fact.rd β 2).P (vs 5) wj := hd 5 (by decide)
          simp only [Jo.putl, Jo.zd, Jo.ze, Act.put, Jo.za, Jo.zb, Jo.zc] at hK ⊢
          rw [show vs 10 = _ from hd 10 (by decide)] at hK ⊢
          clear hd
          generalize vs 2 = u2 at hK d2 ⊢
          generalize vs 5 = u5 at hK d5 ⊢
          obtain ⟨A2, n2, c2, rfl, p2, k2⟩ := d2
          obtain ⟨A5, n5, c5, rfl, p5, k5⟩ := d5
          go_simp
          refine (qDivided p2 p5 (by omega) (by omega) α0 β0 eb1 eb2 eb3 HPP.out).mono ?_
          rintro ee wk ⟨A7, n7, c7, t7, x7, rfl, p7, B⟩
          exact hK.out _ _ ⟨A7, n7, c7, t7, x7, rfl, p7⟩ B
        refine Jo.jd 12 (some 49) [] (Jo.Fact.eq (.pointer (some ⟨w.heap.size, 1, none⟩))) rfl rfl rfl rfl (fun vs wj hJ hd K hK => ?_) ?_
        · simp only [Jo.putl, Jo.ze, Act.put, Jo.za, Jo.zb, Jo.zc] at hK ⊢
          clear hd
          go_simp
          exact hK.out _ _ rfl (Below.refl _ _)
        refine Jo.jd 13 (some 50) [(some 49, 12)] (Jo.Fact.eq (.bool s1)) rfl rfl rfl rfl (fun vs wj hJ hd K hK => ?_) ?_
        · simp only [Jo.putl, Jo.zd, Jo.ze, Act.put, Jo.za, Jo.zb, Jo.zc] at hK ⊢
          rw [show vs 12 = _ from hd 12 (by decide)] at hK ⊢
          clear hd
          have xX31 := (X3.below hJ).a 1 (.bool s1) rfl
          go_simp
          exact hK.out _ _ rfl (Below.refl _ _)
        refine Jo.jd 14 (some 51) [] (Jo.Fact.eq (.pointer (some ⟨w.heap.size + 1, 1, none⟩))) rfl rfl rfl rfl (fun vs wj hJ hd K hK => ?_) ?_
        · simp only [Jo.putl, Jo.ze, Act.put, Jo.za, Jo.zb, Jo.zc] at hK ⊢
          clear hd
          go_simp
          exact hK.out _ _ rfl (Below.refl _ _)
        refine Jo.jd 15 (some 52) [(some 51, 14)] (Jo.Fact.eq (.bool s2)) rfl rfl rfl rfl (fun vs wj hJ hd K hK => ?_) ?_
        · simp only [Jo.putl, Jo.zd, Jo.ze, Act.put, Jo.za, Jo.zb, Jo.zc] at hK ⊢
          rw [show vs 14 = _ from hd 14 (by decide)] at hK ⊢
          clear hd
          have xX41 := (X4.below hJ).a 1 (.bool s2) rfl
          go_simp
          exact hK.out _ _ rfl (Below.refl _ _)
        refine Jo.jd 16 (some 53) [(some 50, 13), (some 52, 15)] (Jo.Fact.eq (.bool (s1 != s2))) rfl rfl rfl rfl (fun vs wj hJ hd K hK => ?_) ?_
        · simp only [Jo.putl, Jo.zd, Jo.ze, Act.put, Jo.za, Jo.zb, Jo.zc] at hK ⊢
          rw [show vs 13 = _ from hd 13 (by decide), show vs 15 = _ from hd 15 (by decide)] at hK ⊢
          clear hd
          go_simp
          exact hK.out _ _ rfl (Below.refl _ _)
        refine Jo.jd 17 (some 54) [] (Jo.Fact.eq (.bool up)) rfl rfl rfl rfl (fun vs wj hJ hd K hK => ?_) ?_
        · simp only [Jo.putl, Jo.ze, Act.put, Jo.za, Jo.zb, Jo.zc] at hK ⊢
          clear hd
          go_simp
          exact hK.out _ _ rfl (Below.refl _ _)
        refine Jo.jd 18 (some 55) [(some 48, 11), (some 53, 16), (some 54, 17)] (Jo.Fact.num r) rfl rfl rfl rfl (fun vs wj hJ hd K hK => ?_) ?_
        · have d11 : (Jo.Fact.pk P).P (vs 11) wj := hd 11 (by decide)
          simp only [Jo.putl, Jo.zd, Jo.ze, Act.put, Jo.za, Jo.zb, Jo.zc] at hK ⊢
          rw [show vs 16 = _ from hd 16 (by decide), show vs 17 = _ from hd 17 (by decide)] at hK ⊢
          clear hd
          generalize vs 11 = u11 at hK d11 ⊢
          obtain ⟨A7, n7, c7, t7, x7, rfl, p7⟩ := d11
          go_simp
          refine (qRound (hT.below hJ) p7 HPR.out).mono ?_
          rintro ee wk ⟨K9, s9, M9, E9, rfl, q9, B⟩
          exact hK.out _ _ ⟨K9, s9, M9, E9, rfl, q9⟩ B
        exact Jo.Steps.nil
      have d2 : (Jo.Fact.rd α 2).P (vs 2) w8 := hd 2 (by decide)
      have d5 : (Jo.Fact.rd β 2).P (vs 5) w8 := hd 5 (by decide)
      have d11 : (Jo.Fact.pk P).P (vs 11) w8 := hd 11 (by decide)
      have d18 : (Jo.Fact.num r).P (vs 18) w8 := hd 18 (by decide)
      simp only [Jo.putl, Jo.zd, Jo.ze, Act.put, Jo.za, Jo.zb, Jo.zc]
      rw [show vs 1 = _ from hd 1 (by decide), show vs 4 = _ from hd 4 (by decide), show vs 7 = _ from hd 7 (by decide), show vs 9 = _ from hd 9 (by decide), show vs 10 = _ from hd 10 (by decide), show vs 13 = _ from hd 13 (by decide), show vs 15 = _ from hd 15 (by decide), show vs 16 = _ from hd 16 (by decide), show vs 17 = _ from hd 17 (by decide)]
      clear hd
      generalize vs 2 = u2 at d2 ⊢
      generalize vs 5 = u5 at d5 ⊢
      generalize vs 11 = u11 at d11 ⊢
      generalize vs 18 = u18 at d18 ⊢
      obtain ⟨_, _, _, rfl, _⟩ := d2
      obtain ⟨_, _, _, rfl, _⟩ := d5
      obtain ⟨_, _, _, _, _, rfl, _⟩ := d11
      obtain ⟨K9, s9, M9, E9, rfl, q9⟩ := d18
      replace X3 := X3.below hJ
      replace X4 := X4.below hJ
      replace XR := XR.below hJ
      replace hT := hT.below hJ
      replace HB := Lib.hid (bt HB.out hJ)
      have xXR0 := XR.a 0 (.int .i64 0) rfl
      have zXR0 := XR.frozen 0
      have xXR1 := XR.a 1 (.bool false) rfl
      have zXR1 := XR.frozen 1
      have xXR2 := XR.a 2 (.int .u64 0) rfl
      have zXR2 := XR.frozen 2
      have xXR3 := XR.a 3 (.int .i64 0) rfl
      have zXR3 := XR.frozen 3
      refine Jo.jnext (i := 19) (o := ⟨none, _, _, _, _, _⟩) (by kernel_rfl) rfl (fun K hK => ?_)
      go_simp
      refine hK.out _ _ ?_
      clear hK K xXR0 zXR0 xXR1 zXR1 xXR2 zXR2 xXR3 zXR3
      have SX := StN.mk4 XR (.int .i64 K9) (.bool s9) (.int .u64 M9) (.int .i64 E9)
      replace X3 := X3.stn SX (by omega)
      replace X4 := X4.stn SX (by omega)
      replace HB := Lib.hid (SX.below HB.out (by omega))
      replace XR := SX.box
      clear SX
      generalize (World.setCell (World.setCell (World.setCell (World.setCell w8 ⟨w.heap.size + 1 + 1, 0, none⟩ (.int .i64 K9)) ⟨w.heap.size + 1 + 1, 1, none⟩ (.bool s9)) ⟨w.heap.size + 1 + 1, 2, none⟩ (.int .u64 M9)) ⟨w.heap.size + 1 + 1, 3, none⟩ (.int .i64 E9)) = w9 at *
      refine Jo.jdone (by kernel_rfl) ?_
      go_wp2
      have r0 := XR.cell 0
      have r1 := XR.cell 1
      have r2 := XR.cell 2
      have r3 := XR.cell 3
      exact bodyPost_ret (v := .agg #[.int .i64 K9, .bool s9, .int .u64 M9, .int .i64 E9]) (by simp [results, Tryd.results11, go_sem, r0, r1, r2, r3]) rfl ⟨_, _, _, _, rfl, q9, HB.out⟩
set_option maxHeartbeats 2000000 in
theorem kRoot {w : World} {D M E : Int} {s : Bool} {up t : Bool} {x r : Int} (hT : Tab w) (hM : M < 18446744073709551616) (hx : rk D s M E = x) (hr : Ro up x r t) : Calls Tryd.prog 15 #[.agg #[.int .i64 D, .bool s, .int .u64 M, .int .i64 E], .bool up] w (PNB w r t) := by
  obtain ⟨K1, s1, M1, E1, q1⟩ := fq_tk7 (D := D) (s := s) (M := M) (E := E) hM
  rw [hx] at q1
  have HX := Lib.hid hx
  clear hx
  go_enter Tryd.func15, Tryd.ntmps15
  go_upto_region 1 with (fail)
  have X2 := (Bo.newAt w (g := w.heap.size) (by simp) #[.int .i64 D, .bool s, .int .u64 M, .int .i64 E] 24).below (bel1 _ (.cells #[.int .i64 0, .bool false, .int .u64 0, .int .i64 0] 24))
  have XR := (Bo.newAt (w.alloc (.cells #[.int .i64 D, .bool s, .int .u64 M, .int .i64 E] 24)) (g := w.heap.size + 1) (by simp) #[.int .i64 0, .bool false, .int .u64 0, .int .i64 0] 24)
  have HB := Lib.hid (bel2 w (.cells #[.int .i64 D, .bool s, .int .u64 M, .int .i64 E] 24) (.cells #[.int .i64 0, .bool false, .int .u64 0, .int .i64 0] 24))
  replace hT := hT.below HB.out
  generalize hW1 : ((w.alloc (.cells #[.int .i64 D, .bool s, .int .u64 M, .int .i64 E] 24)).alloc (.cells #[.int .i64 0, .bool false, .int .u64 0, .int .i64 0] 24)) = w1 at *
  clear hW1
  have xX20 := X2.a 0 (.int .i64 D) rfl
  have xX21 := X2.a 1 (.bool s) rfl
  have xX22 := X2.a 2 (.int .u64 M) rfl
  have xX23 := X2.a 3 (.int .i64 E) rfl
  go_wp2_with fail
  refine (qTaken hM q1 HX.out).mono ?_
  rintro ee w2 ⟨rfl, B⟩
  clear xX20 xX21 xX22 xX23
  replace X2 := X2.below B
  replace XR := XR.below B
  replace hT := hT.below B
  replace HB := Lib.hid (bt HB.out B)
  clear B
  have xX20 := X2.a 0 (.int .i64 D) rfl
  have zX20 := X2.frozen 0
  have xX21 := X2.a 1 (.bool s) rfl
  have zX21 := X2.frozen 1
  have xX22 := X2.a 2 (.int .u64 M) rfl
  have zX22 := X2.frozen 2
  have xX23 := X2.a 3 (.int .i64 E) rfl
  have zX23 := X2.frozen 3
  go_upto_region 2 with (fail)
  clear xX20 zX20 xX21 zX21 xX22 zX22 xX23 zX23
  have SX := StN.mk4 X2 (.int .i64 K1) (.bool s1) (.int .u64 M1) (.int .i64 E1)
  replace XR := XR.stn SX (by omega)
  replace hT := hT.stn SX (by simp [no8])
  replace HB := Lib.hid (SX.below HB.out (by omega))
  replace X2 := SX.box
  clear SX
  generalize (World.setCell (World.setCell (World.setCell (World.setCell w2 ⟨w.heap.size, 0, none⟩ (.int .i64 K1)) ⟨w.heap.size, 1, none⟩ (.bool s1)) ⟨w.heap.size, 2, none⟩ (.int .u64 M1)) ⟨w.heap.size, 3, none⟩ (.int .i64 E1)) = w3 at *
  clear HX hM
  have i1 := fq_inf q1
  have z1 := q1.zero_iff
  have kk1 : K1 = 2 ∨ K1 = 0 ∨ K1 = 1 := by rcases q1.cases with ⟨h, _⟩ | ⟨h, _⟩ | ⟨h, _⟩ <;> omega
  have hsx : K1 ≠ 0 → decide (x < 0) = s1 := fun h0 => by
    rcases q1.three with ⟨a, _⟩ | ⟨_, rfl, b⟩ | ⟨_, rfl, b⟩
    · exact absurd a h0
    · exact decide_eq_false (by omega)
    · exact decide_eq_true b
  rcases kk1 with rfl | rfl | rfl
  · by_cases hs : s1 = true
    · subst hs
      have hx0 : x < 0 := of_decide_eq_true (hsx (by decide))
      obtain ⟨rfl, rfl⟩ := (ro_neg hx0).1 hr
      clear hr hx0 i1 z1 hsx q1 hT
      have xXR0 := XR.a 0 (.int .i64 0) rfl
      have zXR0 := XR.frozen 0
      have xXR1 := XR.a 1 (.bool false) rfl
      have zXR1 := XR.frozen 1
      have xXR2 := XR.a 2 (.int .u64 0) rfl
      have zXR2 := XR.frozen 2
      have xXR3 := XR.a 3 (.int .i64 0) rfl
      have zXR3 := XR.frozen 3
      have xX20 := X2.a 0 (.int .i64 2) rfl
      have xX21 := X2.a 1 (.bool true) rfl
      have xX22 := X2.a 2 (.int .u64 M1) rfl
      have xX23 := X2.a 3 (.int .i64 E1) rfl
      go_wp2
      clear xXR0 zXR0 xXR1 zXR1 xXR2 zXR2 xXR3 zXR3 xX20 xX21 xX22 xX23
      have SX := StN.mk4 XR (.int .i64 0) (.bool false) (.int .u64 0) (.int .i64 0)
      replace X2 := X2.stn SX (by omega)
      replace HB := Lib.hid (SX.below HB.out (by omega))
      replace XR := SX.box
      clear SX
      generalize (World.setCell (World.setCell (World.setCell (World.setCell w3 ⟨w.heap.size + 1, 0, none⟩ (.int .i64 0)) ⟨w.heap.size + 1, 1, none⟩ (.bool false)) ⟨w.heap.size + 1, 2, none⟩ (.int .u64 0)) ⟨w.heap.size + 1, 3, none⟩ (.int .i64 0)) = w4 at *
      have r0 := XR.cell 0
      have r1 := XR.cell 1
      have r2 := XR.cell 2
      have r3 := XR.cell 3
      exact bodyPost_ret (v := .tuple #[.agg #[.int .i64 0, .bool false, .int .u64 0, .int .i64 0], .bool false]) (by simp [results, Tryd.results15, go_sem, r0, r1, r2, r3]) rfl ⟨_, _, _, _, rfl, Fq.nought, HB.out⟩
    · have hs : s1 = false := by simpa using hs
      subst hs
      have hx0 : ¬ x < 0 := of_decide_eq_false (hsx (by decide))
      have hx1 : x = 0 ∨ infp x = true := .inr i1
      obtain ⟨rfl, rfl⟩ := (ro_it hx0 hx1).1 hr
      clear hr hx0 hx1 i1 z1 hsx hT
      have xXR0 := XR.a 0 (.int .i64 0) rfl
      have zXR0 := XR.frozen 0
      have xXR1 := XR.a 1 (.bool false) rfl
      have zXR1 := XR.frozen 1
      have xXR2 := XR.a 2 (.int .u64 0) rfl
      have zXR2 := XR.frozen 2
      have xXR3 := XR.a 3 (.int .i64 0) rfl
      have zXR3 := XR.frozen 3
      have xX20 := X2.a 0 (.int .i64 2) rfl
      have xX21 := X2.a 1 (.bool false) rfl
      have xX22 := X2.a 2 (.int .u64 M1) rfl
      have xX23 := X2.a 3 (.int .i64 E1) rfl
      go_wp2
      clear xXR0 zXR0 xXR1 zXR1 xXR2 zXR2 xXR3 zXR3 xX20 xX21 xX22 xX23
      have SX := StN.mk4 XR (.int .i64 2) (.bool false) (.int .u64 M1) (.int .i64 E1)
      replace X2 := X2.stn SX (by omega)
      replace HB := Lib.hid (SX.below HB.out (by omega))
      replace XR := SX.box
      clear SX
      generalize (World.setCell (World.setCell (World.setCell (World.setCell w3 ⟨w.heap.size + 1, 0, none⟩ (.int .i64 2)) ⟨w.heap.size + 1, 1, none⟩ (.bool false)) ⟨w.heap.size + 1, 2, none⟩ (.int .u64 M1)) ⟨w.heap.size + 1, 3, none⟩ (.int .i64 E1)) = w4 at *
      have r0 := XR.cell 0
      have r1 := XR.cell 1
      have r2 := XR.cell 2
      have r3 := XR.cell 3
      exact bodyPost_ret (v := .tuple #[.agg #[.int .i64 2, .bool false, .int .u64 M1, .int .i64 E1], .bool true]) (by simp [results, Tryd.results15, go_sem, r0, r1, r2, r3]) rfl ⟨_, _, _, _, rfl, q1, HB.out⟩
  · have hs0 : s1 = false := by
      rcases q1.cases with ⟨_, c, _⟩ | ⟨c, _⟩ | ⟨c, _⟩
      · exact c
      · exact absurd c (by decide)
      · exact absurd c (by decide)
    subst hs0
    have hx0 : ¬ x < 0 := by have := z1.1 rfl; omega
    have hx1 : x = 0 ∨ infp x = true := .inl (z1.1 rfl)
    obtain ⟨rfl, rfl⟩ := (ro_it hx0 hx1).1 hr
    clear hr hx0 hx1 i1 z1 hsx hT
    have xXR0 := XR.a 0 (.int .i64 0) rfl
    have zXR0 := XR.frozen 0
    have xXR1 := XR.a 1 (.bool false) rfl
    have zXR1 := XR.frozen 1
    have xXR2 := XR.a 2 (.int .u64 0) rfl
    have zXR2 := XR.frozen 2
    have xXR3 := XR.a 3 (.int .i64 0) rfl
    have zXR3 := XR.frozen 3
    have xX20 := X2.a 0 (.int .i64 0) rfl
    have xX21 := X2.a 1 (.bool false) rfl
    have xX22 := X2.a 2 (.int .u64 M1) rfl
    have xX23 := X2.a 3 (.int .i64 E1) rfl
    go_wp2
    clear xXR0 zXR0 xXR1 zXR1 xXR2 zXR2 xXR3 zXR3 xX20 xX21 xX22 xX23
    have SX := StN.mk4 XR (.int .i64 0) (.bool false) (.int .u64 M1) (.int .i64 E1)
    replace X2 := X2.stn SX (by omega)
    replace HB := Lib.hid (SX.below HB.out (by omega))
    replace XR := SX.box
    clear SX
    generalize (World.setCell (World.setCell (World.setCell (World.setCell w3 ⟨w.heap.size + 1, 0, none⟩ (.int .i64 0)) ⟨w.heap.size + 1, 1, none⟩ (.bool false)) ⟨w.heap.size + 1, 2, none⟩ (.int .u64 M1)) ⟨w.heap.size + 1, 3, none⟩ (.int .i64 E1)) = w4 at *
    have r0 := XR.cell 0
    have r1 := XR.cell 1
    have r2 := XR.cell 2
    have r3 := XR.cell 3
    exact bodyPost_ret (v := .tuple #[.agg #[.int .i64 0, .bool false, .int .u64 M1, .int .i64 E1], .bool true]) (by simp [results, Tryd.results15, go_sem, r0, r1, r2, r3]) rfl ⟨_, _, _, _, rfl, q1, HB.out⟩
  · by_cases hs : s1 = true
    · subst hs
      have hx0 : x < 0 := of_decide_eq_true (hsx (by decide))
      obtain ⟨rfl, rfl⟩ := (ro_neg hx0).1 hr
      clear hr hx0 i1 z1 hsx q1 hT
      have xXR0 := XR.a 0 (.int .i64 0) rfl
      have zXR0 := XR.frozen 0
      have xXR1 := XR.a 1 (.bool false) rfl
      have zXR1 := XR.frozen 1
      have xXR2 := XR.a 2 (.int .u64 0) rfl
      have zXR2 := XR.frozen 2
      have xXR3 := XR.a 3 (.int .i64 0) rfl
      have zXR3 := XR.frozen 3
      have xX20 := X2.a 0 (.int .i64 1) rfl
      have xX21 := X2.a 1 (.bool true) rfl
      have xX22 := X2.a 2 (.int .u64 M1) rfl
      have xX23 := X2.a 3 (.int .i64 E1) rfl
      go_wp2
      clear xXR0 zXR0 xXR1 zXR1 xXR2 zXR2 xXR3 zXR3 xX20 xX21 xX22 xX23
      have SX := StN.mk4 XR (.int .i64 0) (.bool false) (.int .u64 0) (.int .i64 0)
      replace X2 := X2.stn SX (by omega)
      replace HB := Lib.hid (SX.below HB.out (by omega))
      replace XR := SX.box
      clear SX
      generalize (World.setCell (World.setCell (World.setCell (World.setCell w3 ⟨w.heap.size + 1, 0, none⟩ (.int .i64 0)) ⟨w.heap.size + 1, 1, none⟩ (.bool false)) ⟨w.heap.size + 1, 2, none⟩ (.int .u64 0)) ⟨w.heap.size + 1, 3, none⟩ (.int .i64 0)) = w4 at *
      have r0 := XR.cell 0
      have r1 := XR.cell 1
      have r2 := XR.cell 2
      have r3 := XR.cell 3
      exact bodyPost_ret (v := .tuple #[.agg #[.int .i64 0, .bool false, .int .u64 0, .int .i64 0], .bool false]) (by simp [results, Tryd.results15, go_sem, r0, r1, r2, r3]) rfl ⟨_, _, _, _, rfl, Fq.nought, HB.out⟩
    · have hs : s1 = false := by simpa using hs
      subst hs
      have hx0 : ¬ x < 0 := of_decide_eq_false (hsx (by decide))
      have hx1 : ¬ (x = 0 ∨ infp x = true) := by
        rw [i1]
        rintro (c | c)
        · exact absurd (z1.2 c) (by decide)
        · exact absurd c (by decide)
      obtain ⟨hr2, ht⟩ := (ro_fin hx0 hx1).1 hr
      subst ht
      obtain ⟨a1, a2, a3, a4, _⟩ := fq_vr q1
      obtain ⟨α, hα⟩ : ∃ α : Nat, (α : Int) = M1 := ⟨M1.toNat, by omega⟩
      have α1 : 9223372036854775808 ≤ α := by omega
      have α2 : α < 18446744073709551616 := by omega
      obtain ⟨P, hP, hPt, hPr⟩ := root_pre q1 hα hr2
      have eb1 : -2200000 ≤ E1 := by omega
      have eb2 : E1 ≤ 2200000 := by omega
      have HPP := Lib.hid hP
      have HPT := Lib.hid hPt
      have HPR := Lib.hid hPr
      have HA := Lib.hid hα
      clear hr hr2 hx0 hx1 i1 z1 hsx a1 a2 a3 a4 hα hP hPt hPr q1
      have xX20 := X2.a 0 (.int .i64 1) rfl
      have xX21 := X2.a 1 (.bool false) rfl
      have xX22 := X2.a 2 (.int .u64 M1) rfl
      have xX23 := X2.a 3 (.int .i64 E1) rfl
      go_upto_region 6 with (fail)
      clear xX20 xX21 xX22 xX23
      refine Jo.region_joint (T := [0, 1, 2, 3, 4, 5, 6, 7]) (ds := [some 17, some 18, some 19, some 20, some 21, some 22, some 23, some 24, none, some 5]) (ls := [[], [0], [1], [], [3], [2, 4], [], [5, 6], [], []]) (k := 10) (L := [(some 17, 0), (some 18, 1), (some 19, 2), (some 20, 3), (some 21, 4), (some 22, 5), (some 23, 6), (some 24, 7)]) (fuel := 2) (J := fun wj => Below (World.heap w3).size w3 wj)
        (F := [Jo.Fact.eq (.pointer (some ⟨w.heap.size, 2, none⟩)), Jo.Fact.eq (.int .u64 M1), Jo.Fact.rd α 2, Jo.Fact.eq (.pointer (some ⟨w.heap.size, 3, none⟩)), Jo.Fact.eq (.int .i64 E1), Jo.Fact.pk P, Jo.Fact.eq (.bool up), Jo.Fact.num r, Jo.Fact.any, Jo.Fact.any])
        (by kernel_rfl) (by kernel_rfl) (by decide) rfl rfl (fun _ _ h b => bt h b) ((Below.refl _ _).drew) ?_ (fun vs w8 hJ hd => ?_)
      · refine Jo.jd 0 (some 17) [] (Jo.Fact.eq (.pointer (some ⟨w.heap.size, 2, none⟩))) rfl rfl rfl rfl (fun vs wj hJ hd K hK => ?_) ?_
        · simp only [Jo.putl, Jo.ze, Act.put, Jo.za, Jo.zb, Jo.zc] at hK ⊢
          clear hd
          go_simp
          exact hK.out _ _ rfl (Below.refl _ _)
        refine Jo.jd 1 (some 18) [(some 17, 0)] (Jo.Fact.eq (.int .u64 M1)) rfl rfl rfl rfl (fun vs wj hJ hd K hK => ?_) ?_
        · simp only [Jo.putl, Jo.zd, Jo.ze, Act.put, Jo.za, Jo.zb, Jo.zc] at hK ⊢
          rw [show vs 0 = _ from hd 0 (by decide)] at hK ⊢
          clear hd
          have xX22 := (X2.below hJ).a 2 (.int .u64 M1) rfl
          go_simp
          exact hK.out _ _ rfl (Below.refl _ _)
        refine Jo.jd 2 (some 19) [(some 18, 1)] (Jo.Fact.rd α 2) rfl rfl rfl rfl (fun vs wj hJ hd K hK => ?_) ?_
        · simp only [Jo.putl, Jo.zd, Jo.ze, Act.put, Jo.za, Jo.zb, Jo.zc] at hK ⊢
          rw [show vs 1 = _ from hd 1 (by decide)] at hK ⊢
          clear hd
          go_simp
          refine (qLimbs HA.out α2).mono ?_
          rintro ee wk ⟨A2, rfl, p2, B⟩
          exact hK.out _ _ ⟨A2, 2, 2, rfl, p2, Nat.le_refl _⟩ B
        refine Jo.jd 3 (some 20) [] (Jo.Fact.eq (.pointer (some ⟨w.heap.size, 3, none⟩))) rfl rfl rfl rfl (fun vs wj hJ hd K hK => ?_) ?_
        · simp only [Jo.putl, Jo.ze, Act.put, Jo.za, Jo.zb, Jo.zc] at hK ⊢
          clear hd
          go_simp
          exact hK.out _ _ rfl (Below.refl _ _)
        refine Jo.jd 4 (some 21) [(some 20, 3)] (Jo.Fact.eq (.int .i64 E1)) rfl rfl rfl rfl (fun vs wj hJ hd K hK => ?_) ?_
        · simp only [Jo.putl, Jo.zd, Jo.ze, Act.put, Jo.za, Jo.zb, Jo.zc] at hK ⊢
          rw [show vs 3 = _ from hd 3 (by decide)] at hK ⊢
          clear hd
          have xX23 := (X2.below hJ).a 3 (.int .i64 E1) rfl
          go_simp
          exact hK.out _ _ rfl (Below.refl _ _)
        refine Jo.jd 5 (some 22) [(some 19, 2), (some 21, 4)] (Jo.Fact.pk P) rfl rfl rfl rfl (fun vs wj hJ hd K hK => ?_) ?_
        · have d2 : (Jo.Fact.rd α 2).P (vs 2) wj := hd 2 (by decide)
          simp only [Jo.putl, Jo.zd, Jo.ze, Act.put, Jo.za, Jo.zb, Jo.zc] at hK ⊢
          rw [show vs 4 = _ from hd 4 (by decide)] at hK ⊢
          clear hd
          generalize vs 2 = u2 at hK d2 ⊢
          obtain ⟨A2, n2, c2, rfl, p2, k2⟩ := d2
          go_simp
          refine (qRoot0 p2 (by omega) α1 α2 eb1 eb2 HPP.out HPT.out).mono ?_
          rintro ee wk ⟨A7, n7, c7, t7, x7, rfl, p7, B⟩
          exact hK.out _ _ ⟨A7, n7, c7, t7, x7, rfl, p7⟩ B
        refine Jo.jd 6 (some 23) [] (Jo.Fact.eq (.bool up)) rfl rfl rfl rfl (fun vs wj hJ hd K hK => ?_) ?_
        · simp only [Jo.putl, Jo.ze, Act.put, Jo.za, Jo.zb, Jo.zc] at hK ⊢
          clear hd
          go_simp
          exact hK.out _ _ rfl (Below.refl _ _)
        refine Jo.jd 7 (some 24) [(some 22, 5), (some 23, 6)] (Jo.Fact.num r) rfl rfl rfl rfl (fun vs wj hJ hd K hK => ?_) ?_
        · have d5 : (Jo.Fact.pk P).P (vs 5) wj := hd 5 (by decide)
          simp only [Jo.putl, Jo.zd, Jo.ze, Act.put, Jo.za, Jo.zb, Jo.zc] at hK ⊢
          rw [show vs 6 = _ from hd 6 (by decide)] at hK ⊢
          clear hd
          generalize vs 5 = u5 at hK d5 ⊢
          obtain ⟨A7, n7, c7, t7, x7, rfl, p7⟩ := d5
          go_simp
          refine (qRound (hT.below hJ) p7 HPR.out).mono ?_
          rintro ee wk ⟨K9, s9, M9, E9, rfl, q9, B⟩
          exact hK.out _ _ ⟨K9, s9, M9, E9, rfl, q9⟩ B
        exact Jo.Steps.nil
      have d2 : (Jo.Fact.rd α 2).P (vs 2) w8 := hd 2 (by decide)
      have d5 : (Jo.Fact.pk P).P (vs 5) w8 := hd 5 (by decide)
      have d7 : (Jo.Fact.num r).P (vs 7) w8 := hd 7 (by decide)
      simp only [Jo.putl, Jo.zd, Jo.ze, Act.put, Jo.za, Jo.zb, Jo.zc]
      rw [show vs 1 = _ from hd 1 (by decide), show vs 4 = _ from hd 4 (by decide), show vs 6 = _ from hd 6 (by decide)]
      clear hd
      generalize vs 2 = u2 at d2 ⊢
      generalize vs 5 = u5 at d5 ⊢
      generalize vs 7 = u7 at d7 ⊢
      obtain ⟨_, _, _, rfl, _⟩ := d2
      obtain ⟨_, _, _, _, _, rfl, _⟩ := d5
      obtain ⟨K9, s9, M9, E9, rfl, q9⟩ := d7
      replace X2 := X2.below hJ
      replace XR := XR.below hJ
      replace hT := hT.below hJ
      replace HB := Lib.hid (bt HB.out hJ)
      have xXR0 := XR.a 0 (.int .i64 0) rfl
      have zXR0 := XR.frozen 0
      have xXR1 := XR.a 1 (.bool false) rfl
      have zXR1 := XR.frozen 1
      have xXR2 := XR.a 2 (.int .u64 0) rfl
      have zXR2 := XR.frozen 2
      have xXR3 := XR.a 3 (.int .i64 0) rfl
      have zXR3 := XR.frozen 3
      refine Jo.jnext (i := 8) (o := ⟨none, _, _, _, _, _⟩) (by kernel_rfl) rfl (fun K hK => ?_)
      go_simp
      refine hK.out _ _ ?_
      clear hK K xXR0 zXR0 xXR1 zXR1 xXR2 zXR2 xXR3 zXR3
      have SX := StN.mk4 XR (.int .i64 K9) (.bool s9) (.int .u64 M9) (.int .i64 E9)
      replace X2 := X2.stn SX (by omega)
      replace HB := Lib.hid (SX.below HB.out (by omega))
      replace XR := SX.box
      clear SX
      generalize (World.setCell (World.setCell (World.setCell (World.setCell w8 ⟨w.heap.size + 1, 0, none⟩ (.int .i64 K9)) ⟨w.heap.size + 1, 1, none⟩ (.bool s9)) ⟨w.heap.size + 1, 2, none⟩ (.int .u64 M9)) ⟨w.heap.size + 1, 3, none⟩ (.int .i64 E9)) = w9 at *
      refine Jo.jnext (i := 9) (o := ⟨some 5, _, _, _, _, _⟩) (by kernel_rfl) rfl (fun K hK => ?_)
      go_simp
      refine hK.out _ _ ?_
      clear hK K
      refine Jo.jdone (by kernel_rfl) ?_
      go_wp2
      have r0 := XR.cell 0
      have r1 := XR.cell 1
      have r2 := XR.cell 2
      have r3 := XR.cell 3
      exact bodyPost_ret (v := .tuple #[.agg #[.int .i64 K9, .bool s9, .int .u64 M9, .int .i64 E9], .bool true]) (by simp [results, Tryd.results15, go_sem, r0, r1, r2, r3]) rfl ⟨_, _, _, _, rfl, q9, HB.out⟩
theorem ratio_pre {up s t : Bool} {z y r : Int} {α β : Nat} (hz : sg s α = z) (hy : sg t β = y) (hβ : 0 < β) (hr : Rq up z y r) :
    ∃ P : Bool → Bool → Int → Prop, (∀ σ up r', Sid up (sgi σ ((α : Int) * 2 ^ ((0 : Int) + (KK : Int)).toNat)) (β : Int) r' → P σ up r') ∧ (∀ r', P (s != t) up r' → r' = r) := by
  refine ⟨_, fun _ _ _ h => h, fun r' h => ?_⟩
  have := rq_of hβ h
  rw [← sg_sgi7, ← sg_sgi7, hz, hy] at this
  exact this.uniq hr
theorem rq_nought {up : Bool} {y r : Int} (hy : y ≠ 0) (h : Rq up 0 y r) : r = 0 := by
  have h1 := (rq_some hy).1 h
  have e : sgi (decide (y < 0)) 0 * 2 ^ KK = (0 : Int) := by
    have : sgi (decide (y < 0)) (0 : Int) = 0 := by cases decide (y < 0) <;> rfl
    rw [this, Int.zero_mul]
  rw [e] at h1
  exact h1.uniq (sg_pos hy) (sid_exact (r := 0) (sg_pos hy) (by decide) (by decide) (by rw [show vr 0 = 0 from rfl, Int.zero_mul]))
set_option maxHeartbeats 2000000 in
theorem kRatio0 {w : World} {A B : Option Addr} {n c m d : Nat} {s t up : Bool} {z y r : Int} (hT : Tab w) (h : Wr w s A n c z) (k : Wr w t B m d y) (hn : n ≤ 3500) (hm : m ≤ 3500) (hr : Rq up z y r) : Calls Tryd.prog 49 #[.agg #[.bool s, .slice A n c], .agg #[.bool t, .slice B m d], .bool up] w (PN w r) := by
  obtain ⟨σ, hσ⟩ : ∃ σ, cmpI y 0 = σ := ⟨_, rfl⟩
  obtain ⟨τ, hτ⟩ : ∃ τ, cmpI z 0 = τ := ⟨_, rfl⟩
  have HS := Lib.hid hσ
  have HZ := Lib.hid hτ
  go_enter Tryd.func49, Tryd.ntmps49
  go_upto_region 1 with (fail)
  have X3 := (Bo.newAt w (g := w.heap.size) (by simp) #[.bool s, .slice A n c] 28).below (bel2 _ (.cells #[.bool t, .slice B m d] 28) (.cells #[.int .i64 0, .bool false, .int .u64 0, .int .i64 0] 24))
  have X4 := (Bo.newAt (w.alloc (.cells #[.bool s, .slice A n c] 28)) (g := w.heap.size + 1) (by simp) #[.bool t, .slice B m d] 28).below (bel1 _ (.cells #[.int .i64 0, .bool false, .int .u64 0, .int .i64 0] 24))
  have XR := (Bo.newAt ((w.alloc (.cells #[.bool s, .slice A n c] 28)).alloc (.cells #[.bool t, .slice B m d] 28)) (g := w.heap.size + 1 + 1) (by simp) #[.int .i64 0, .bool false, .int .u64 0, .int .i64 0] 24)
  have HB := Lib.hid (bel3 w (.cells #[.bool s, .slice A n c] 28) (.cells #[.bool t, .slice B m d] 28) (.cells #[.int .i64 0, .bool false, .int .u64 0, .int .i64 0] 24))
  replace hT := hT.below HB.out
  replace h := h.below HB.out
  replace k := k.below HB.out
  generalize hW1 : (((w.alloc (.cells #[.bool s, .slice A n c] 28)).alloc (.cells #[.bool t, .slice B m d] 28)).alloc (.cells #[.int .i64 0, .bool false, .int .u64 0, .int .i64 0] 24)) = w1 at *
  clear hW1
  have xX40 := X4.a 0 (.bool t) rfl
  have xX41 := X4.a 1 (.slice B m d) rfl
  go_wp2_with fail
  refine (wSign k HS.out).mono ?_
  rintro ee w2 ⟨rfl, B⟩
  clear xX40 xX41
  replace X3 := X3.below B
  replace X4 := X4.below B
  replace XR := XR.below B
  replace hT := hT.below B
  replace h := h.below B
  replace k := k.below B
  replace HB := Lib.hid (bt HB.out B)
  clear B
  by_cases hy0 : y = 0
  · have hs0 : (σ == 0) = true := by rw [← hσ, cmpI_eq hy0]; rfl
    subst hy0
    have HRR := Lib.hid (rq_none.1 hr).symm
    clear h k hT hr hσ hτ HS HZ
    go_wp2_with fail
    refine (qAway HRR.out).mono ?_
    rintro ee w6 ⟨K3, s3, M3, E3, rfl, q3, B⟩
    replace X3 := X3.below B
    replace X4 := X4.below B
    replace XR := XR.below B
    replace HB := Lib.hid (bt HB.out B)
    clear B
    have xXR0 := XR.a 0 (.int .i64 0) rfl
    have zXR0 := XR.frozen 0
    have xXR1 := XR.a 1 (.bool false) rfl
    have zXR1 := XR.frozen 1
    have xXR2 := XR.a 2 (.int .u64 0) rfl
    have zXR2 := XR.frozen 2
    have xXR3 := XR.a 3 (.int .i64 0) rfl
    have zXR3 := XR.frozen 3
    go_wp2
    clear xXR0 zXR0 xXR1 zXR1 xXR2 zXR2 xXR3 zXR3
    have SX := StN.mk4 XR (.int .i64 K3) (.bool s3) (.int .u64 M3) (.int .i64 E3)
    replace X3 := X3.stn SX (by omega)
    replace X4 := X4.stn SX (by omega)
    replace HB := Lib.hid (SX.below HB.out (by omega))
    replace XR := SX.box
    clear SX
    generalize (World.setCell (World.setCell (World.setCell (World.setCell w6 ⟨w.heap.size + 1 + 1, 0, none⟩ (.int .i64 K3)) ⟨w.heap.size + 1 + 1, 1, none⟩ (.bool s3)) ⟨w.heap.size + 1 + 1, 2, none⟩ (.int .u64 M3)) ⟨w.heap.size + 1 + 1, 3, none⟩ (.int .i64 E3)) = w7 at *
    have r0 := XR.cell 0
    have r1 := XR.cell 1
    have r2 := XR.cell 2
    have r3 := XR.cell 3
    exact bodyPost_ret (v := .agg #[.int .i64 K3, .bool s3, .int .u64 M3, .int .i64 E3]) (by simp [results, Tryd.results49, go_sem, r0, r1, r2, r3]) rfl ⟨_, _, _, _, rfl, q3, HB.out⟩
  · have hs0 : (σ == 0) = false := by
      have : σ ≠ 0 := fun e => hy0 (cmpI_zero.1 (hσ.trans e))
      simpa using this
    clear hσ HS
    have xX30 := X3.a 0 (.bool s) rfl
    have xX31 := X3.a 1 (.slice A n c) rfl
    go_wp2_with fail
    refine (wSign h HZ.out).mono ?_
    rintro ee w3 ⟨rfl, B⟩
    clear xX30 xX31
    replace X3 := X3.below B
    replace X4 := X4.below B
    replace XR := XR.below B
    replace hT := hT.below B
    replace h := h.below B
    replace k := k.below B
    replace HB := Lib.hid (bt HB.out B)
    clear B
    by_cases hz0 : z = 0
    · have hs1 : (τ == 0) = true := by rw [← hτ, cmpI_eq hz0]; rfl
      subst hz0
      obtain rfl := rq_nought hy0 hr
      clear h k hT hr hτ HZ
      have xXR0 := XR.a 0 (.int .i64 0) rfl
      have zXR0 := XR.frozen 0
      have xXR1 := XR.a 1 (.bool false) rfl
      have zXR1 := XR.frozen 1
      have xXR2 := XR.a 2 (.int .u64 0) rfl
      have zXR2 := XR.frozen 2
      have xXR3 := XR.a 3 (.int .i64 0) rfl
      have zXR3 := XR.frozen 3
      have xX30 := X3.a 0 (.bool s) rfl
      have xX31 := X3.a 1 (.slice A n c) rfl
      have xX40 := X4.a 0 (.bool t) rfl
      have xX41 := X4.a 1 (.slice B m d) rfl
      go_wp2
      clear xXR0 zXR0 xXR1 zXR1 xXR2 zXR2 xXR3 zXR3 xX30 xX31 xX40 xX41
      have SX := StN.mk4 XR (.int .i64 0) (.bool false) (.int .u64 0) (.int .i64 0)
      replace X3 := X3.stn SX (by omega)
      replace X4 := X4.stn SX (by omega)
      replace HB := Lib.hid (SX.below HB.out (by omega))
      replace XR := SX.box
      clear SX
      generalize (World.setCell (World.setCell (World.setCell (World.setCell w3 ⟨w.heap.size + 1 + 1, 0, none⟩ (.int .i64 0)) ⟨w.heap.size + 1 + 1, 1, none⟩ (.bool false)) ⟨w.heap.size + 1 + 1, 2, none⟩ (.int .u64 0)) ⟨w.heap.size + 1 + 1, 3, none⟩ (.int .i64 0)) = w6 at *
      have r0 := XR.cell 0
      have r1 := XR.cell 1
      have r2 := XR.cell 2
      have r3 := XR.cell 3
      exact bodyPost_ret (v := .agg #[.int .i64 0, .bool false, .int .u64 0, .int .i64 0]) (by simp [results, Tryd.results49, go_sem, r0, r1, r2, r3]) rfl ⟨_, _, _, _, rfl, Fq.nought, HB.out⟩
    · have hs1 : (τ == 0) = false := by
        have : τ ≠ 0 := fun e => hz0 (cmpI_zero.1 (hτ.trans e))
        simpa using this
      clear hτ HZ
      obtain ⟨α, ha, hz⟩ := h
      obtain ⟨β, hb, hy⟩ := k
      have α0 : 0 < α := by
        rcases Nat.eq_zero_or_pos α with e | e
        · subst e
          exact absurd (show z = 0 by rw [← hz]; cases s <;> rfl) hz0
        · exact e
      have β0 : 0 < β := by
        rcases Nat.eq_zero_or_pos β with e | e
        · subst e
          exact absurd (show y = 0 by rw [← hy]; cases t <;> rfl) hy0
        · exact e
      obtain ⟨P, hP, hPr⟩ := ratio_pre hz hy β0 hr
      have hba := ha.blen_le
      have hbb := hb.blen_le
      have eb3 : (0 : Int) - ((blen β : Int) - (blen α : Int) + 64) ≤ 2097152 := by omega
      have HPP := Lib.hid hP
      have HPR := Lib.hid hPr
      clear hP hPr hr hz hy hz0 hy0 hba hbb
      go_upto_region 5 with (fail)
      refine Jo.region_joint (T := [0, 1, 2, 3, 4, 5, 6, 7, 8, 9, 10, 11]) (ds := [some 18, some 19, some 20, some 21, some 22, some 23, some 24, some 25, some 26, some 27, some 28, some 29, none]) (ls := [[], [0], [], [2], [1, 3], [], [5], [], [7], [6, 8], [], [4, 9, 10], []]) (k := 13) (L := [(some 18, 0), (some 19, 1), (some 20, 2), (some 21, 3), (some 22, 4), (some 23, 5), (some 24, 6), (some 25, 7), (some 26, 8), (some 27, 9), (some 28, 10), (some 29, 11)]) (fuel := 1) (J := fun wj => Below (World.heap w3).size w3 wj)
        (F := [Jo.Fact.eq (.pointer (some ⟨w.heap.size, 1, none⟩)), Jo.Fact.eq (.slice A n c), Jo.Fact.eq (.pointer (some ⟨w.heap.size + 1, 1, none⟩)), Jo.Fact.eq (.slice B m d), Jo.Fact.pk P, Jo.Fact.eq (.pointer (some ⟨w.heap.size, 0, none⟩)), Jo.Fact.eq (.bool s), Jo.Fact.eq (.pointer (some ⟨w.heap.size + 1, 0, none⟩)), Jo.Fact.eq (.bool t), Jo.Fact.eq (.bool (s != t)), Jo.Fact.eq (.bool up), Jo.Fact.num r, Jo.Fact.any])
        (by kernel_rfl) (by kernel_rfl) (by decide) rfl rfl (fun _ _ h b => bt h b) ((Below.refl _ _).drew) ?_ (fun vs w8 hJ hd => ?_)
      · refine Jo.jd 0 (some 18) [] (Jo.Fact.eq (.pointer (some ⟨w.heap.size, 1, none⟩))) rfl rfl rfl rfl (fun vs wj hJ hd K hK => ?_) ?_
        · simp only [Jo.putl, Jo.ze, Act.put, Jo.za, Jo.zb, Jo.zc] at hK ⊢
          clear hd
          go_simp
          exact hK.out _ _ rfl (Below.refl _ _)
        refine Jo.jd 1 (some 19) [(some 18, 0)] (Jo.Fact.eq (.slice A n c)) rfl rfl rfl rfl (fun vs wj hJ hd K hK => ?_) ?_
        · simp only [Jo.putl, Jo.zd, Jo.ze, Act.put, Jo.za, Jo.zb, Jo.zc] at hK ⊢
          rw [show vs 0 = _ from hd 0 (by decide)] at hK ⊢
          clear hd
          have xX31 := (X3.below hJ).a 1 (.slice A n c) rfl
          go_simp
          exact hK.out _ _ rfl (Below.refl _ _)
        refine Jo.jd 2 (some 20) [] (Jo.Fact.eq (.pointer (some ⟨w.heap.size + 1, 1, none⟩))) rfl rfl rfl rfl (fun vs wj hJ hd K hK => ?_) ?_
        · simp only [Jo.putl, Jo.ze, Act.put, Jo.za, Jo.zb, Jo.zc] at hK ⊢
          clear hd
          go_simp
          exact hK.out _ _ rfl (Below.refl _ _)
        refine Jo.jd 3 (some 21) [(some 20, 2)] (Jo.Fact.eq (.slice B m d)) rfl rfl rfl rfl (fun vs wj hJ hd K hK => ?_) ?_
        · simp only [Jo.putl, Jo.zd, Jo.ze, Act.put, Jo.za, Jo.zb, Jo.zc] at hK ⊢
          rw [show vs 2 = _ from hd 2 (by decide)] at hK ⊢
          clear hd
          have xX41 := (X4.below hJ).a 1 (.slice B m d) rfl
          go_simp
          exact hK.out _ _ rfl (Below.refl _ _)
        refine Jo.jd 4 (some 22) [(some 19, 1), (some 21, 3)] (Jo.Fact.pk P) rfl rfl rfl rfl (fun vs wj hJ hd K hK => ?_) ?_
        · simp only [Jo.putl, Jo.zd, Jo.ze, Act.put, Jo.za, Jo.zb, Jo.zc] at hK ⊢
          rw [show vs 1 = _ from hd 1 (by decide), show vs 3 = _ from hd 3 (by decide)] at hK ⊢
          clear hd
          go_simp
          refine (qDivided (ha.below hJ) (hb.below hJ) (by omega) (by omega) α0 β0 (by decide) (by decide) eb3 HPP.out).mono ?_
          rintro ee wk ⟨A7, n7, c7, t7, x7, rfl, p7, B⟩
          exact hK.out _ _ ⟨A7, n7, c7, t7, x7, rfl, p7⟩ B
        refine Jo.jd 5 (some 23) [] (Jo.Fact.eq (.pointer (some ⟨w.heap.size, 0, none⟩))) rfl rfl rfl rfl (fun vs wj hJ hd K hK => ?_) ?_
        · simp only [Jo.putl, Jo.ze, Act.put, Jo.za, Jo.zb, Jo.zc] at hK ⊢
          clear hd
          go_simp
          exact hK.out _ _ rfl (Below.refl _ _)
        refine Jo.jd 6 (some 24) [(some 23, 5)] (Jo.Fact.eq (.bool s)) rfl rfl rfl rfl (fun vs wj hJ hd K hK => ?_) ?_
        · simp only [Jo.putl, Jo.zd, Jo.ze, Act.put, Jo.za, Jo.zb, Jo.zc] at hK ⊢
          rw [show vs 5 = _ from hd 5 (by decide)] at hK ⊢
          clear hd
          have xX30 := (X3.below hJ).a 0 (.bool s) rfl
          go_simp
          exact hK.out _ _ rfl (Below.refl _ _)
        refine Jo.jd 7 (some 25) [] (Jo.Fact.eq (.pointer (some ⟨w.heap.size + 1, 0, none⟩))) rfl rfl rfl rfl (fun vs wj hJ hd K hK => ?_) ?_
        · simp only [Jo.putl, Jo.ze, Act.put, Jo.za, Jo.zb, Jo.zc] at hK ⊢
          clear hd
          go_simp
          exact hK.out _ _ rfl (Below.refl _ _)
        refine Jo.jd 8 (some 26) [(some 25, 7)] (Jo.Fact.eq (.bool t)) rfl rfl rfl rfl (fun vs wj hJ hd K hK => ?_) ?_
        · simp only [Jo.putl, Jo.zd, Jo.ze, Act.put, Jo.za, Jo.zb, Jo.zc] at hK ⊢
          rw [show vs 7 = _ from hd 7 (by decide)] at hK ⊢
          clear hd
          have xX40 := (X4.below hJ).a 0 (.bool t) rfl
          go_simp
          exact hK.out _ _ rfl (Below.refl _ _)
        refine Jo.jd 9 (some 27) [(some 24, 6), (some 26, 8)] (Jo.Fact.eq (.bool (s != t))) rfl rfl rfl rfl (fun vs wj hJ hd K hK => ?_) ?_
        · simp only [Jo.putl, Jo.zd, Jo.ze, Act.put, Jo.za, Jo.zb, Jo.zc] at hK ⊢
          rw [show vs 6 = _ from hd 6 (by decide), show vs 8 = _ from hd 8 (by decide)] at hK ⊢
          clear hd
          go_simp
          exact hK.out _ _ rfl (Below.refl _ _)
        refine Jo.jd 10 (some 28) [] (Jo.Fact.eq (.bool up)) rfl rfl rfl rfl (fun vs wj hJ hd K hK => ?_) ?_
        · simp only [Jo.putl, Jo.ze, Act.put, Jo.za, Jo.zb, Jo.zc] at hK ⊢
          clear hd
          go_simp
          exact hK.out _ _ rfl (Below.refl _ _)
        refine Jo.jd 11 (some 29) [(some 22, 4), (some 27, 9), (some 28, 10)] (Jo.Fact.num r) rfl rfl rfl rfl (fun vs wj hJ hd K hK => ?_) ?_
        · have d4 : (Jo.Fact.pk P).P (vs 4) wj := hd 4 (by decide)
          simp only [Jo.putl, Jo.zd, Jo.ze, Act.put, Jo.za, Jo.zb, Jo.zc] at hK ⊢
          rw [show vs 9 = _ from hd 9 (by decide), show vs 10 = _ from hd 10 (by decide)] at hK ⊢
          clear hd
          generalize vs 4 = u4 at hK d4 ⊢
          obtain ⟨A7, n7, c7, t7, x7, rfl, p7⟩ := d4
          go_simp
          refine (qRound (hT.below hJ) p7 HPR.out).mono ?_
          rintro ee wk ⟨K9, s9, M9, E9, rfl, q9, B⟩
          exact hK.out _ _ ⟨K9, s9, M9, E9, rfl, q9⟩ B
        exact Jo.Steps.nil
      have d4 : (Jo.Fact.pk P).P (vs 4) w8 := hd 4 (by decide)
      have d11 : (Jo.Fact.num r).P (vs 11) w8 := hd 11 (by decide)
      simp only [Jo.putl, Jo.zd, Jo.ze, Act.put, Jo.za, Jo.zb, Jo.zc]
      rw [show vs 1 = _ from hd 1 (by decide), show vs 3 = _ from hd 3 (by decide), show vs 6 = _ from hd 6 (by decide), show vs 8 = _ from hd 8 (by decide), show vs 9 = _ from hd 9 (by decide), show vs 10 = _ from hd 10 (by decide)]
      clear hd
      generalize vs 4 = u4 at d4 ⊢
      generalize vs 11 = u11 at d11 ⊢
      obtain ⟨_, _, _, _, _, rfl, _⟩ := d4
      obtain ⟨K9, s9, M9, E9, rfl, q9⟩ := d11
      replace X3 := X3.below hJ
      replace X4 := X4.below hJ
      replace XR := XR.below hJ
      replace hT := hT.below hJ
      replace ha := ha.below hJ
      replace hb := hb.below hJ
      replace HB := Lib.hid (bt HB.out hJ)
      have xXR0 := XR.a 0 (.int .i64 0) rfl
      have zXR0 := XR.frozen 0
      have xXR1 := XR.a 1 (.bool false) rfl
      have zXR1 := XR.frozen 1
      have xXR2 := XR.a 2 (.int .u64 0) rfl
      have zXR2 := XR.frozen 2
      have xXR3 := XR.a 3 (.int .i64 0) rfl
      have zXR3 := XR.frozen 3
      refine Jo.jnext (i := 12) (o := ⟨none, _, _, _, _, _⟩) (by kernel_rfl) rfl (fun K hK => ?_)
      go_simp
      refine hK.out _ _ ?_
      clear hK K xXR0 zXR0 xXR1 zXR1 xXR2 zXR2 xXR3 zXR3
      have SX := StN.mk4 XR (.int .i64 K9) (.bool s9) (.int .u64 M9) (.int .i64 E9)
      replace X3 := X3.stn SX (by omega)
      replace X4 := X4.stn SX (by omega)
      replace HB := Lib.hid (SX.below HB.out (by omega))
      replace XR := SX.box
      clear SX
      generalize (World.setCell (World.setCell (World.setCell (World.setCell w8 ⟨w.heap.size + 1 + 1, 0, none⟩ (.int .i64 K9)) ⟨w.heap.size + 1 + 1, 1, none⟩ (.bool s9)) ⟨w.heap.size + 1 + 1, 2, none⟩ (.int .u64 M9)) ⟨w.heap.size + 1 + 1, 3, none⟩ (.int .i64 E9)) = w9 at *
      refine Jo.jdone (by kernel_rfl) ?_
      go_wp2
      have r0 := XR.cell 0
      have r1 := XR.cell 1
      have r2 := XR.cell 2
      have r3 := XR.cell 3
      exact bodyPost_ret (v := .agg #[.int .i64 K9, .bool s9, .int .u64 M9, .int .i64 E9]) (by simp [results, Tryd.results49, go_sem, r0, r1, r2, r3]) rfl ⟨_, _, _, _, rfl, q9, HB.out⟩
set_option maxHeartbeats 2000000 in
theorem kfrom_no {w : World} {A : Option Addr} {n c a : Nat} {s up : Bool} {t r : Int} (hT : Tab w) (h : Rd w A n c a) (hn : n ≤ 1000) (hm : mayC s n a t = false) (hr : r = 0) : Calls Tryd.prog 17 #[.agg #[.bool s, .slice A n c, .int .i64 t], .bool up] w (PN w r) := by
  subst hr
  have HM := Lib.hid hm
  clear hm hT
  go_enter Tryd.func17, Tryd.ntmps17
  go_upto_region 1 with (fail)
  have X2 := (Bo.newAt w (g := w.heap.size) (by simp) #[.bool s, .slice A n c, .int .i64 t] 43).below (bel1 _ (.cells #[.int .i64 0, .bool false, .int .u64 0, .int .i64 0] 24))
  have XR := (Bo.newAt (w.alloc (.cells #[.bool s, .slice A n c, .int .i64 t] 43)) (g := w.heap.size + 1) (by simp) #[.int .i64 0, .bool false, .int .u64 0, .int .i64 0] 24)
  have HB := Lib.hid (bel2 w (.cells #[.bool s, .slice A n c, .int .i64 t] 43) (.cells #[.int .i64 0, .bool false, .int .u64 0, .int .i64 0] 24))
  replace h := h.below HB.out
  generalize hW1 : ((w.alloc (.cells #[.bool s, .slice A n c, .int .i64 t] 43)).alloc (.cells #[.int .i64 0, .bool false, .int .u64 0, .int .i64 0] 24)) = w1 at *
  clear hW1
  have xX20 := X2.a 0 (.bool s) rfl
  have xX21 := X2.a 1 (.slice A n c) rfl
  have xX22 := X2.a 2 (.int .i64 t) rfl
  go_wp2_with fail
  refine (vMayE h hn HM.out).mono ?_
  rintro ee w2 ⟨rfl, B⟩
  clear xX20 xX21 xX22
  replace X2 := X2.below B
  replace XR := XR.below B
  replace h := h.below B
  replace HB := Lib.hid (bt HB.out B)
  clear B
  clear h
  have xXR0 := XR.a 0 (.int .i64 0) rfl
  have zXR0 := XR.frozen 0
  have xXR1 := XR.a 1 (.bool false) rfl
  have zXR1 := XR.frozen 1
  have xXR2 := XR.a 2 (.int .u64 0) rfl
  have zXR2 := XR.frozen 2
  have xXR3 := XR.a 3 (.int .i64 0) rfl
  have zXR3 := XR.frozen 3
  go_wp2
  clear xXR0 zXR0 xXR1 zXR1 xXR2 zXR2 xXR3 zXR3
  have SX := StN.mk4 XR (.int .i64 0) (.bool false) (.int .u64 0) (.int .i64 0)
  replace X2 := X2.stn SX (by omega)
  replace HB := Lib.hid (SX.below HB.out (by omega))
  replace XR := SX.box
  clear SX
  generalize (World.setCell (World.setCell (World.setCell (World.setCell w2 ⟨w.heap.size + 1, 0, none⟩ (.int .i64 0)) ⟨w.heap.size + 1, 1, none⟩ (.bool false)) ⟨w.heap.size + 1, 2, none⟩ (.int .u64 0)) ⟨w.heap.size + 1, 3, none⟩ (.int .i64 0)) = w3 at *
  have r0 := XR.cell 0
  have r1 := XR.cell 1
  have r2 := XR.cell 2
  have r3 := XR.cell 3
  exact bodyPost_ret (v := .agg #[.int .i64 0, .bool false, .int .u64 0, .int .i64 0]) (by simp [results, Tryd.results17, go_sem, r0, r1, r2, r3]) rfl ⟨_, _, _, _, rfl, Fq.nought, HB.out⟩
set_option maxHeartbeats 2000000 in
theorem kfrom_up {w : World} {A : Option Addr} {n c a : Nat} {s up : Bool} {t r : Int} (hT : Tab w) (h : Rd w A n c a) (hn : n ≤ 1000) (hm : mayC s n a t = true) (ht : 0 ≤ t) (hr : Rq up (sg s a * ((10 ^ t.toNat : Nat) : Int)) 1 r) : Calls Tryd.prog 17 #[.agg #[.bool s, .slice A n c, .int .i64 t], .bool up] w (PN w r) := by
  have hb := fm_tens hm
  have HM := Lib.hid hm
  obtain ⟨k, hk⟩ : ∃ k : Nat, (k : Int) = t := ⟨(t).toNat, by omega⟩
  have e1 : (t).toNat = k := by omega
  rw [e1] at hr
  have k2 : k ≤ 400 := by omega
  have HK := Lib.hid hk
  have HR := Lib.hid hr
  have hlt : decide (t < 0) = false := by exact decide_eq_false (by omega)
  obtain ⟨Z, hZ⟩ : ∃ Z, sg s a * ((10 ^ k : Nat) : Int) = Z := ⟨_, rfl⟩
  have HZ : Hid (prd [sg s a, ((10 ^ k : Nat) : Int)] = Z) := Lib.hid (by rw [← hZ]; simp [prd])
  rw [hZ] at hr
  have HR := Lib.hid (show Rq up Z ((10 ^ 0 : Nat) : Int) r from hr)
  clear hZ
  clear hm hr e1 hk ht hb
  go_enter Tryd.func17, Tryd.ntmps17
  go_upto_region 1 with (fail)
  have X2 := (Bo.newAt w (g := w.heap.size) (by simp) #[.bool s, .slice A n c, .int .i64 t] 43).below (bel1 _ (.cells #[.int .i64 0, .bool false, .int .u64 0, .int .i64 0] 24))
  have XR := (Bo.newAt (w.alloc (.cells #[.bool s, .slice A n c, .int .i64 t] 43)) (g := w.heap.size + 1) (by simp) #[.int .i64 0, .bool false, .int .u64 0, .int .i64 0] 24)
  have HB := Lib.hid (bel2 w (.cells #[.bool s, .slice A n c, .int .i64 t] 43) (.cells #[.int .i64 0, .bool false, .int .u64 0, .int .i64 0] 24))
  replace hT := hT.below HB.out
  replace h := h.below HB.out
  generalize hW1 : ((w.alloc (.cells #[.bool s, .slice A n c, .int .i64 t] 43)).alloc (.cells #[.int .i64 0, .bool false, .int .u64 0, .int .i64 0] 24)) = w1 at *
  clear hW1
  have xX20 := X2.a 0 (.bool s) rfl
  have xX21 := X2.a 1 (.slice A n c) rfl
  have xX22 := X2.a 2 (.int .i64 t) rfl
  go_wp2_with fail
  refine (vMayE h hn HM.out).mono ?_
  rintro ee w2 ⟨rfl, B⟩
  clear xX20 xX21 xX22
  replace X2 := X2.below B
  replace XR := XR.below B
  replace hT := hT.below B
  replace h := h.below B
  replace HB := Lib.hid (bt HB.out B)
  clear B
  have xX20 := X2.a 0 (.bool s) rfl
  have xX21 := X2.a 1 (.slice A n c) rfl
  have xX22 := X2.a 2 (.int .i64 t) rfl
  go_upto_region 5 with (fail)
  clear xX20 xX21 xX22
  refine Jo.region_joint (T := [0, 1, 2, 3, 4, 5, 6, 7, 8, 9]) (ds := [some 20, some 21, some 22, some 23, some 24, some 25, some 26, some 27, some 28, some 29, none]) (ls := [[], [0], [], [2], [3], [1, 4], [5], [], [], [6, 7, 8], []]) (k := 11) (L := [(some 20, 0), (some 21, 1), (some 22, 2), (some 23, 3), (some 24, 4), (some 25, 5), (some 26, 6), (some 27, 7), (some 28, 8), (some 29, 9)]) (fuel := 1) (J := fun wj => Below (World.heap w2).size w2 wj)
    (F := [Jo.Fact.eq (.pointer (some ⟨w.heap.size, 0, none⟩)), Jo.Fact.eq (.agg #[.bool s, .slice A n c]), Jo.Fact.eq (.pointer (some ⟨w.heap.size, 2, none⟩)), Jo.Fact.eq (.int .i64 t), Jo.Fact.wn (((10 ^ k : Nat) : Int)) 401, Jo.Fact.wl 1000 2 [sg s a, ((10 ^ k : Nat) : Int)], Jo.Fact.wn (Z) 3000, Jo.Fact.wn (((10 ^ 0 : Nat) : Int)) 401, Jo.Fact.eq (.bool up), Jo.Fact.num r, Jo.Fact.any])
    (by kernel_rfl) (by kernel_rfl) (by decide) rfl rfl (fun _ _ h b => bt h b) ((Below.refl _ _).drew) ?_ (fun vs w8 hJ hd => ?_)
  · refine Jo.jd 0 (some 20) [] (Jo.Fact.eq (.pointer (some ⟨w.heap.size, 0, none⟩))) rfl rfl rfl rfl (fun vs wj hJ hd K hK => ?_) ?_
    · simp only [Jo.putl, Jo.ze, Act.put, Jo.za, Jo.zb, Jo.zc] at hK ⊢
      clear hd
      go_simp
      exact hK.out _ _ rfl (Below.refl _ _)
    refine Jo.jd 1 (some 21) [(some 20, 0)] (Jo.Fact.eq (.agg #[.bool s, .slice A n c])) rfl rfl rfl rfl (fun vs wj hJ hd K hK => ?_) ?_
    · simp only [Jo.putl, Jo.zd, Jo.ze, Act.put, Jo.za, Jo.zb, Jo.zc] at hK ⊢
      rw [show vs 0 = _ from hd 0 (by decide)] at hK ⊢
      clear hd
      have xX20 := (X2.below hJ).a 0 (.bool s) rfl
      have xX21 := (X2.below hJ).a 1 (.slice A n c) rfl
      have xX22 := (X2.below hJ).a 2 (.int .i64 t) rfl
      go_simp
      exact hK.out _ _ rfl (Below.refl _ _)
    refine Jo.jd 2 (some 22) [] (Jo.Fact.eq (.pointer (some ⟨w.heap.size, 2, none⟩))) rfl rfl rfl rfl (fun vs wj hJ hd K hK => ?_) ?_
    · simp only [Jo.putl, Jo.ze, Act.put, Jo.za, Jo.zb, Jo.zc] at hK ⊢
      clear hd
      go_simp
      exact hK.out _ _ rfl (Below.refl _ _)
    refine Jo.jd 3 (some 23) [(some 22, 2)] (Jo.Fact.eq (.int .i64 t)) rfl rfl rfl rfl (fun vs wj hJ hd K hK => ?_) ?_
    · simp only [Jo.putl, Jo.zd, Jo.ze, Act.put, Jo.za, Jo.zb, Jo.zc] at hK ⊢
      rw [show vs 2 = _ from hd 2 (by decide)] at hK ⊢
      clear hd
      have xX22 := (X2.below hJ).a 2 (.int .i64 t) rfl
      go_simp
      exact hK.out _ _ rfl (Below.refl _ _)
    refine Jo.jd 4 (some 24) [(some 23, 3)] (Jo.Fact.wn (((10 ^ k : Nat) : Int)) 401) rfl rfl rfl rfl (fun vs wj hJ hd K hK => ?_) ?_
    · simp only [Jo.putl, Jo.zd, Jo.ze, Act.put, Jo.za, Jo.zb, Jo.zc] at hK ⊢
      rw [show vs 3 = _ from hd 3 (by decide)] at hK ⊢
      clear hd
      go_simp
      refine (qPower HK.out (by omega)).mono ?_
      rintro ee wk ⟨s4, A4, n4, c4, rfl, p4, k4, B⟩
      exact hK.out _ _ ⟨s4, A4, n4, c4, rfl, p4, by omega⟩ B
    refine Jo.jd 5 (some 25) [(some 21, 1), (some 24, 4)] (Jo.Fact.wl 1000 2 [sg s a, ((10 ^ k : Nat) : Int)]) rfl rfl rfl rfl (fun vs wj hJ hd K hK => ?_) ?_
    · have d4 : (Jo.Fact.wn (((10 ^ k : Nat) : Int)) 401).P (vs 4) wj := hd 4 (by decide)
      simp only [Jo.putl, Jo.zd, Jo.ze, Act.put, Jo.za, Jo.zb, Jo.zc] at hK ⊢
      rw [show vs 1 = _ from hd 1 (by decide)] at hK ⊢
      clear hd
      generalize vs 4 = u4 at hK d4 ⊢
      obtain ⟨s4, A4, n4, c4, rfl, p4, k4⟩ := d4
      go_simp
      exact hK.out _ _ ⟨_, 2, rfl, Wl.lit2 rfl ((h.below hJ).wr s) p4.wr (by omega) (by omega)⟩ (bel1 _ _)
    refine Jo.jd 6 (some 26) [(some 25, 5)] (Jo.Fact.wn (Z) 3000) rfl rfl rfl rfl (fun vs wj hJ hd K hK => ?_) ?_
    · have d5 : (Jo.Fact.wl 1000 2 [sg s a, ((10 ^ k : Nat) : Int)]).P (vs 5) wj := hd 5 (by decide)
      simp only [Jo.putl, Jo.zd, Jo.ze, Act.put, Jo.za, Jo.zb, Jo.zc] at hK ⊢
      clear hd
      generalize vs 5 = u5 at hK d5 ⊢
      obtain ⟨A5, c5, rfl, p5⟩ := d5
      go_simp
      refine (wMul (K := 1000) p5 (by omega) HZ.out).mono ?_
      rintro ee wk ⟨s6, A6, n6, c6, rfl, p6, k6, B⟩
      exact hK.out _ _ ⟨s6, A6, n6, c6, rfl, p6, by omega⟩ B
    refine Jo.jd 7 (some 27) [] (Jo.Fact.wn (((10 ^ 0 : Nat) : Int)) 401) rfl rfl rfl rfl (fun vs wj hJ hd K hK => ?_) ?_
    · simp only [Jo.putl, Jo.ze, Act.put, Jo.za, Jo.zb, Jo.zc] at hK ⊢
      clear hd
      go_simp
      refine (qPower (k := 0) rfl (by decide)).mono ?_
      rintro ee wk ⟨s7, A7, n7, c7, rfl, p7, k7, B⟩
      exact hK.out _ _ ⟨s7, A7, n7, c7, rfl, p7, by omega⟩ B
    refine Jo.jd 8 (some 28) [] (Jo.Fact.eq (.bool up)) rfl rfl rfl rfl (fun vs wj hJ hd K hK => ?_) ?_
    · simp only [Jo.putl, Jo.ze, Act.put, Jo.za, Jo.zb, Jo.zc] at hK ⊢
      clear hd
      go_simp
      exact hK.out _ _ rfl (Below.refl _ _)
    refine Jo.jd 9 (some 29) [(some 26, 6), (some 27, 7), (some 28, 8)] (Jo.Fact.num r) rfl rfl rfl rfl (fun vs wj hJ hd K hK => ?_) ?_
    · have d6 : (Jo.Fact.wn (Z) 3000).P (vs 6) wj := hd 6 (by decide)
      have d7 : (Jo.Fact.wn (((10 ^ 0 : Nat) : Int)) 401).P (vs 7) wj := hd 7 (by decide)
      simp only [Jo.putl, Jo.zd, Jo.ze, Act.put, Jo.za, Jo.zb, Jo.zc] at hK ⊢
      rw [show vs 8 = _ from hd 8 (by decide)] at hK ⊢
      clear hd
      generalize vs 6 = u6 at hK d6 ⊢
      generalize vs 7 = u7 at hK d7 ⊢
      obtain ⟨s6, A6, n6, c6, rfl, p6, k6⟩ := d6
      obtain ⟨s7, A7, n7, c7, rfl, p7, k7⟩ := d7
      go_simp
      refine (kRatio0 (hT.below hJ) p6.wr p7.wr (by omega) (by omega) HR.out).mono ?_
      rintro ee wk ⟨K9, s9, M9, E9, rfl, q9, B⟩
      exact hK.out _ _ ⟨K9, s9, M9, E9, rfl, q9⟩ B
    exact Jo.Steps.nil
  have d4 : (Jo.Fact.wn (((10 ^ k : Nat) : Int)) 401).P (vs 4) w8 := hd 4 (by decide)
  have d5 : (Jo.Fact.wl 1000 2 [sg s a, ((10 ^ k : Nat) : Int)]).P (vs 5) w8 := hd 5 (by decide)
  have d6 : (Jo.Fact.wn (Z) 3000).P (vs 6) w8 := hd 6 (by decide)
  have d7 : (Jo.Fact.wn (((10 ^ 0 : Nat) : Int)) 401).P (vs 7) w8 := hd 7 (by decide)
  have d9 : (Jo.Fact.num r).P (vs 9) w8 := hd 9 (by decide)
  simp only [Jo.putl, Jo.zd, Jo.ze, Act.put, Jo.za, Jo.zb, Jo.zc]
  rw [show vs 1 = _ from hd 1 (by decide), show vs 3 = _ from hd 3 (by decide), show vs 8 = _ from hd 8 (by decide)]
  clear hd
  generalize vs 4 = u4 at d4 ⊢
  generalize vs 5 = u5 at d5 ⊢
  generalize vs 6 = u6 at d6 ⊢
  generalize vs 7 = u7 at d7 ⊢
  generalize vs 9 = u9 at d9 ⊢
  obtain ⟨_, _, _, _, rfl, _⟩ := d4
  obtain ⟨_, _, rfl, _⟩ := d5
  obtain ⟨_, _, _, _, rfl, _⟩ := d6
  obtain ⟨_, _, _, _, rfl, _⟩ := d7
  obtain ⟨K9, s9, M9, E9, rfl, q9⟩ := d9
  replace X2 := X2.below hJ
  replace XR := XR.below hJ
  replace hT := hT.below hJ
  replace h := h.below hJ
  replace HB := Lib.hid (bt HB.out hJ)
  have xXR0 := XR.a 0 (.int .i64 0) rfl
  have zXR0 := XR.frozen 0
  have xXR1 := XR.a 1 (.bool false) rfl
  have zXR1 := XR.frozen 1
  have xXR2 := XR.a 2 (.int .u64 0) rfl
  have zXR2 := XR.frozen 2
  have xXR3 := XR.a 3 (.int .i64 0) rfl
  have zXR3 := XR.frozen 3
  refine Jo.jnext (i := 10) (o := ⟨none, _, _, _, _, _⟩) (by kernel_rfl) rfl (fun K hK => ?_)
  go_simp
  refine hK.out _ _ ?_
  clear hK K xXR0 zXR0 xXR1 zXR1 xXR2 zXR2 xXR3 zXR3
  have SX := StN.mk4 XR (.int .i64 K9) (.bool s9) (.int .u64 M9) (.int .i64 E9)
  replace X2 := X2.stn SX (by omega)
  replace HB := Lib.hid (SX.below HB.out (by omega))
  replace XR := SX.box
  clear SX
  generalize (World.setCell (World.setCell (World.setCell (World.setCell w8 ⟨w.heap.size + 1, 0, none⟩ (.int .i64 K9)) ⟨w.heap.size + 1, 1, none⟩ (.bool s9)) ⟨w.heap.size + 1, 2, none⟩ (.int .u64 M9)) ⟨w.heap.size + 1, 3, none⟩ (.int .i64 E9)) = w9 at *
  refine Jo.jdone (by kernel_rfl) ?_
  go_wp2
  have r0 := XR.cell 0
  have r1 := XR.cell 1
  have r2 := XR.cell 2
  have r3 := XR.cell 3
  exact bodyPost_ret (v := .agg #[.int .i64 K9, .bool s9, .int .u64 M9, .int .i64 E9]) (by simp [results, Tryd.results17, go_sem, r0, r1, r2, r3]) rfl ⟨_, _, _, _, rfl, q9, HB.out⟩
set_option maxHeartbeats 2000000 in
theorem kfrom_dn {w : World} {A : Option Addr} {n c a : Nat} {s up : Bool} {t r : Int} (hT : Tab w) (h : Rd w A n c a) (hn : n ≤ 1000) (hm : mayC s n a t = true) (ht : ¬ 0 ≤ t) (hr : Rq up (sg s a) ((10 ^ (-t).toNat : Nat) : Int) r) : Calls Tryd.prog 17 #[.agg #[.bool s, .slice A n c, .int .i64 t], .bool up] w (PN w r) := by
  have hb := fm_tens hm
  have HM := Lib.hid hm
  obtain ⟨k, hk⟩ : ∃ k : Nat, (k : Int) = -t := ⟨(-t).toNat, by omega⟩
  have e1 : (-t).toNat = k := by omega
  rw [e1] at hr
  have k2 : k ≤ 400 := by omega
  have HK := Lib.hid hk
  have HR := Lib.hid hr
  have hlt : decide (t < 0) = true := by exact decide_eq_true (by omega)
  have HW : Hid (IntKind.i64.wrap (-t) = -t) := Lib.hid (IntWalk.i64_in _ (by omega))
  have HW2 : Hid (wrap64 (-t) = -t) := Lib.hid (IntWalk.wrap64_in _ (by omega))
  clear hm hr e1 hk ht hb
  go_enter Tryd.func17, Tryd.ntmps17
  go_upto_region 1 with (fail)
  have X2 := (Bo.newAt w (g := w.heap.size) (by simp) #[.bool s, .slice A n c, .int .i64 t] 43).below (bel1 _ (.cells #[.int .i64 0, .bool false, .int .u64 0, .int .i64 0] 24))
  have XR := (Bo.newAt (w.alloc (.cells #[.bool s, .slice A n c, .int .i64 t] 43)) (g := w.heap.size + 1) (by simp) #[.int .i64 0, .bool false, .int .u64 0, .int .i64 0] 24)
  have HB := Lib.hid (bel2 w (.cells #[.bool s, .slice A n c, .int .i64 t] 43) (.cells #[.int .i64 0, .bool false, .int .u64 0, .int .i64 0] 24))
  replace hT := hT.below HB.out
  replace h := h.below HB.out
  generalize hW1 : ((w.alloc (.cells #[.bool s, .slice A n c, .int .i64 t] 43)).alloc (.cells #[.int .i64 0, .bool false, .int .u64 0, .int .i64 0] 24)) = w1 at *
  clear hW1
  have xX20 := X2.a 0 (.bool s) rfl
  have xX21 := X2.a 1 (.slice A n c) rfl
  have xX22 := X2.a 2 (.int .i64 t) rfl
  go_wp2_with fail
  refine (vMayE h hn HM.out).mono ?_
  rintro ee w2 ⟨rfl, B⟩
  clear xX20 xX21 xX22
  replace X2 := X2.below B
  replace XR := XR.below B
  replace hT := hT.below B
  replace h := h.below B
  replace HB := Lib.hid (bt HB.out B)
  clear B
  have xX20 := X2.a 0 (.bool s) rfl
  have xX21 := X2.a 1 (.slice A n c) rfl
  have xX22 := X2.a 2 (.int .i64 t) rfl
  go_upto_region 4 with (fail)
  clear xX20 xX21 xX22
  refine Jo.region_joint (T := [0, 1, 2, 3, 4, 5, 6, 7]) (ds := [some 12, some 13, some 14, some 15, some 16, some 17, some 18, some 19, none]) (ls := [[], [0], [], [2], [3], [4], [], [1, 5, 6], []]) (k := 9) (L := [(some 12, 0), (some 13, 1), (some 14, 2), (some 15, 3), (some 16, 4), (some 17, 5), (some 18, 6), (some 19, 7)]) (fuel := 1) (J := fun wj => Below (World.heap w2).size w2 wj)
    (F := [Jo.Fact.eq (.pointer (some ⟨w.heap.size, 0, none⟩)), Jo.Fact.eq (.agg #[.bool s, .slice A n c]), Jo.Fact.eq (.pointer (some ⟨w.heap.size, 2, none⟩)), Jo.Fact.eq (.int .i64 t), Jo.Fact.eq (.int .i64 (-t)), Jo.Fact.wn (((10 ^ k : Nat) : Int)) 401, Jo.Fact.eq (.bool up), Jo.Fact.num r, Jo.Fact.any])
    (by kernel_rfl) (by kernel_rfl) (by decide) rfl rfl (fun _ _ h b => bt h b) ((Below.refl _ _).drew) ?_ (fun vs w8 hJ hd => ?_)
  · refine Jo.jd 0 (some 12) [] (Jo.Fact.eq (.pointer (some ⟨w.heap.size, 0, none⟩))) rfl rfl rfl rfl (fun vs wj hJ hd K hK => ?_) ?_
    · simp only [Jo.putl, Jo.ze, Act.put, Jo.za, Jo.zb, Jo.zc] at hK ⊢
      clear hd
      go_simp
      exact hK.out _ _ rfl (Below.refl _ _)
    refine Jo.jd 1 (some 13) [(some 12, 0)] (Jo.Fact.eq (.agg #[.bool s, .slice A n c])) rfl rfl rfl rfl (fun vs wj hJ hd K hK => ?_) ?_
    · simp only [Jo.putl, Jo.zd, Jo.ze, Act.put, Jo.za, Jo.zb, Jo.zc] at hK ⊢
      rw [show vs 0 = _ from hd 0 (by decide)] at hK ⊢
      clear hd
      have xX20 := (X2.below hJ).a 0 (.bool s) rfl
      have xX21 := (X2.below hJ).a 1 (.slice A n c) rfl
      have xX22 := (X2.below hJ).a 2 (.int .i64 t) rfl
      go_simp
      exact hK.out _ _ rfl (Below.refl _ _)
    refine Jo.jd 2 (some 14) [] (Jo.Fact.eq (.pointer (some ⟨w.heap.size, 2, none⟩))) rfl rfl rfl rfl (fun vs wj hJ hd K hK => ?_) ?_
    · simp only [Jo.putl, Jo.ze, Act.put, Jo.za, Jo.zb, Jo.zc] at hK ⊢
      clear hd
      go_simp
      exact hK.out _ _ rfl (Below.refl _ _)
    refine Jo.jd 3 (some 15) [(some 14, 2)] (Jo.Fact.eq (.int .i64 t)) rfl rfl rfl rfl (fun vs wj hJ hd K hK => ?_) ?_
    · simp only [Jo.putl, Jo.zd, Jo.ze, Act.put, Jo.za, Jo.zb, Jo.zc] at hK ⊢
      rw [show vs 2 = _ from hd 2 (by decide)] at hK ⊢
      clear hd
      have xX22 := (X2.below hJ).a 2 (.int .i64 t) rfl
      go_simp
      exact hK.out _ _ rfl (Below.refl _ _)
    refine Jo.jd 4 (some 16) [(some 15, 3)] (Jo.Fact.eq (.int .i64 (-t))) rfl rfl rfl rfl (fun vs wj hJ hd K hK => ?_) ?_
    · simp only [Jo.putl, Jo.zd, Jo.ze, Act.put, Jo.za, Jo.zb, Jo.zc] at hK ⊢
      rw [show vs 3 = _ from hd 3 (by decide)] at hK ⊢
      clear hd
      have hw := HW.out
      have hw2 := HW2.out
      go_simp
      exact hK.out _ _ (by first | rfl | (show Value.int _ _ = Value.int _ _; first | rw [hw] | rw [hw2])) (Below.refl _ _)
    refine Jo.jd 5 (some 17) [(some 16, 4)] (Jo.Fact.wn (((10 ^ k : Nat) : Int)) 401) rfl rfl rfl rfl (fun vs wj hJ hd K hK => ?_) ?_
    · simp only [Jo.putl, Jo.zd, Jo.ze, Act.put, Jo.za, Jo.zb, Jo.zc] at hK ⊢
      rw [show vs 4 = _ from hd 4 (by decide)] at hK ⊢
      clear hd
      go_simp
      refine (qPower HK.out (by omega)).mono ?_
      rintro ee wk ⟨s5, A5, n5, c5, rfl, p5, k5, B⟩
      exact hK.out _ _ ⟨s5, A5, n5, c5, rfl, p5, by omega⟩ B
    refine Jo.jd 6 (some 18) [] (Jo.Fact.eq (.bool up)) rfl rfl rfl rfl (fun vs wj hJ hd K hK => ?_) ?_
    · simp only [Jo.putl, Jo.ze, Act.put, Jo.za, Jo.zb, Jo.zc] at hK ⊢
      clear hd
      go_simp
      exact hK.out _ _ rfl (Below.refl _ _)
    refine Jo.jd 7 (some 19) [(some 13, 1), (some 17, 5), (some 18, 6)] (Jo.Fact.num r) rfl rfl rfl rfl (fun vs wj hJ hd K hK => ?_) ?_
    · have d5 : (Jo.Fact.wn (((10 ^ k : Nat) : Int)) 401).P (vs 5) wj := hd 5 (by decide)
      simp only [Jo.putl, Jo.zd, Jo.ze, Act.put, Jo.za, Jo.zb, Jo.zc] at hK ⊢
      rw [show vs 1 = _ from hd 1 (by decide), show vs 6 = _ from hd 6 (by decide)] at hK ⊢
      clear hd
      generalize vs 5 = u5 at hK d5 ⊢
      obtain ⟨s5, A5, n5, c5, rfl, p5, k5⟩ := d5
      go_simp
      refine (kRatio0 (hT.below hJ) ((h.below hJ).wr s) p5.wr (by omega) (by omega) HR.out).mono ?_
      rintro ee wk ⟨K9, s9, M9, E9, rfl, q9, B⟩
      exact hK.out _ _ ⟨K9, s9, M9, E9, rfl, q9⟩ B
    exact Jo.Steps.nil
  have d5 : (Jo.Fact.wn (((10 ^ k : Nat) : Int)) 401).P (vs 5) w8 := hd 5 (by decide)
  have d7 : (Jo.Fact.num r).P (vs 7) w8 := hd 7 (by decide)
  simp only [Jo.putl, Jo.zd, Jo.ze, Act.put, Jo.za, Jo.zb, Jo.zc]
  rw [show vs 1 = _ from hd 1 (by decide), show vs 3 = _ from hd 3 (by decide), show vs 4 = _ from hd 4 (by decide), show vs 6 = _ from hd 6 (by decide)]
  clear hd
  generalize vs 5 = u5 at d5 ⊢
  generalize vs 7 = u7 at d7 ⊢
  obtain ⟨_, _, _, _, rfl, _⟩ := d5
  obtain ⟨K9, s9, M9, E9, rfl, q9⟩ := d7
  replace X2 := X2.below hJ
  replace XR := XR.below hJ
  replace hT := hT.below hJ
  replace h := h.below hJ
  replace HB := Lib.hid (bt HB.out hJ)
  have xXR0 := XR.a 0 (.int .i64 0) rfl
  have zXR0 := XR.frozen 0
  have xXR1 := XR.a 1 (.bool false) rfl
  have zXR1 := XR.frozen 1
  have xXR2 := XR.a 2 (.int .u64 0) rfl
  have zXR2 := XR.frozen 2
  have xXR3 := XR.a 3 (.int .i64 0) rfl
  have zXR3 := XR.frozen 3
  refine Jo.jnext (i := 8) (o := ⟨none, _, _, _, _, _⟩) (by kernel_rfl) rfl (fun K hK => ?_)
  go_simp
  refine hK.out _ _ ?_
  clear hK K xXR0 zXR0 xXR1 zXR1 xXR2 zXR2 xXR3 zXR3
  have SX := StN.mk4 XR (.int .i64 K9) (.bool s9) (.int .u64 M9) (.int .i64 E9)
  replace X2 := X2.stn SX (by omega)
  replace HB := Lib.hid (SX.below HB.out (by omega))
  replace XR := SX.box
  clear SX
  generalize (World.setCell (World.setCell (World.setCell (World.setCell w8 ⟨w.heap.size + 1, 0, none⟩ (.int .i64 K9)) ⟨w.heap.size + 1, 1, none⟩ (.bool s9)) ⟨w.heap.size + 1, 2, none⟩ (.int .u64 M9)) ⟨w.heap.size + 1, 3, none⟩ (.int .i64 E9)) = w9 at *
  refine Jo.jdone (by kernel_rfl) ?_
  go_wp2
  have r0 := XR.cell 0
  have r1 := XR.cell 1
  have r2 := XR.cell 2
  have r3 := XR.cell 3
  exact bodyPost_ret (v := .agg #[.int .i64 K9, .bool s9, .int .u64 M9, .int .i64 E9]) (by simp [results, Tryd.results17, go_sem, r0, r1, r2, r3]) rfl ⟨_, _, _, _, rfl, q9, HB.out⟩
theorem kFrom {w : World} {A : Option Addr} {n c a : Nat} {s up m : Bool} {t r : Int} (hT : Tab w) (h : Rd w A n c a) (hn : n ≤ 20) (hm : mayC s n a t = m) (hr : Fm up m (sg s a) t r) : Calls Tryd.prog 17 #[.agg #[.bool s, .slice A n c, .int .i64 t], .bool up] w (PN w r) := by
  cases m
  · exact kfrom_no hT h (by omega) hm (fm_no.1 hr)
  · by_cases ht : 0 ≤ t
    · exact kfrom_up hT h (by omega) hm ht ((fm_up ht).1 hr)
    · exact kfrom_dn hT h (by omega) hm ht ((fm_dn ht).1 hr)
end Go.Proofs.YtpmakljahhhnfaaDoor

/-
  Decimal numbers in order have places in order; of the opposite the opposite place, to the other side. Plain arithmetic; no Go text.
-/
namespace Go.Proofs.YtpmakljahhhnfaaDoor
open Go.RowKit
set_option linter.unusedVariables false

theorem ten_pos (k : Nat) : (0 : Int) < ((10 ^ k : Nat) : Int) := by
  have : 0 < 10 ^ k := Nat.pow_pos (by decide)
  omega
theorem ten_add (a b : Nat) : ((10 ^ (a + b) : Nat) : Int) = ((10 ^ a : Nat) : Int) * ((10 ^ b : Nat) : Int) := by
  rw [Nat.pow_add]
  push_cast
  rfl
theorem ten_scale {x y : Int} {a b k c d : Nat} (h : x * ((10 ^ a : Nat) : Int) ≤ y * ((10 ^ b : Nat) : Int)) (hc : c = a + k) (hd : d = b + k) : x * ((10 ^ c : Nat) : Int) ≤ y * ((10 ^ d : Nat) : Int) := by
  subst hc
  subst hd
  rw [ten_add, ten_add, ← Int.mul_assoc, ← Int.mul_assoc]
  exact Int.mul_le_mul_of_nonneg_right h (Int.le_of_lt (ten_pos k))
theorem fm_mono {up : Bool} {x t y u r r' : Int} (h : x * ((10 ^ (t - min t u).toNat : Nat) : Int) ≤ y * ((10 ^ (u - min t u).toNat : Nat) : Int)) (a : Fm up true x t r) (b : Fm up true y u r') : r ≤ r' := by
  by_cases ht : 0 ≤ t
  · have a := (fm_up ht).1 a
    by_cases hu : 0 ≤ u
    · have b := (fm_up hu).1 b
      refine a.mono (by decide) (by decide) b ?_
      rw [Int.mul_one, Int.mul_one]
      exact ten_scale (k := (min t u).toNat) h (by omega) (by omega)
    · have b := (fm_dn hu).1 b
      refine a.mono (by decide) (ten_pos _) b ?_
      rw [Int.mul_one, Int.mul_assoc, ← ten_add]
      have := ten_scale (k := 0) (c := t.toNat + (-u).toNat) (d := 0) h (by omega) (by omega)
      rw [show ((10 ^ 0 : Nat) : Int) = 1 from rfl, Int.mul_one] at this
      exact this
  · have a := (fm_dn ht).1 a
    by_cases hu : 0 ≤ u
    · have b := (fm_up hu).1 b
      refine a.mono (ten_pos _) (by decide) b ?_
      rw [Int.mul_one, Int.mul_assoc, ← ten_add]
      have := ten_scale (k := 0) (c := 0) (d := u.toNat + (-t).toNat) h (by omega) (by omega)
      rw [show ((10 ^ 0 : Nat) : Int) = 1 from rfl, Int.mul_one] at this
      exact this
    · have b := (fm_dn hu).1 b
      refine a.mono (ten_pos _) (ten_pos _) b ?_
      exact ten_scale (k := (-(max t u)).toNat) h (by omega) (by omega)
theorem fm_neg {up m : Bool} {z t r : Int} (h : Fm up m z t r) : Fm (!up) m (-z) t (-r) := by
  cases m
  · rw [fm_no.1 h]
    exact fm_no.2 rfl
  · by_cases ht : 0 ≤ t
    · refine (fm_up ht).2 ?_
      rw [Int.neg_mul]
      exact ((fm_up ht).1 h).neg (by decide)
    · exact (fm_dn ht).2 (((fm_dn ht).1 h).neg (ten_pos _))
/-- Both sides of a decimal number are one, or neighbours. -/
theorem fm_two {m : Bool} {z t r r' : Int} (a : Fm false m z t r) (b : Fm true m z t r') : r' = r ∨ r' = r + 1 := by
  have two : ∀ {z y : Int}, 0 < y → Rq false z y r → Rq true z y r' → r' = r ∨ r' = r + 1 := by
    intro z y hy a b
    have a := (rq_some (by omega)).1 a
    have b := (rq_some (by omega)).1 b
    rcases sid_two (sg_pos (by omega)) a b with ⟨e, _⟩ | ⟨e, _⟩
    · exact .inl e
    · exact .inr e
  cases m
  · rw [fm_no.1 a, fm_no.1 b]
    exact .inl rfl
  · by_cases ht : 0 ≤ t
    · exact two (by decide) ((fm_up ht).1 a) ((fm_up ht).1 b)
    · exact two (ten_pos _) ((fm_dn ht).1 a) ((fm_dn ht).1 b)
end Go.Proofs.YtpmakljahhhnfaaDoor
