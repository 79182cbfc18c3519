/-
  The walk of IvopSpreads: for all arguments the call answers true, and nothing that was there has turned.
-/
import Derived.Below
import Derived.BigQuiet
import Derived.Carry
import Derived.Deep.DeepCutAuto
import Derived.Deep.Draws
import Derived.Deep.MidRow
import Derived.Deep.QuietTactic
import Derived.Deep.RegionHeld3
import Derived.Deep.RegionWith
import Derived.IntWalk
import Derived.Laws.Bits64b
import Derived.Laws.CopyOwn
import Derived.Laws.Externs
import Derived.Laws.MakeOwn
import Derived.Laws.OwnMore
import Derived.Laws.Rows
import Derived.Lib.BitFns
import Derived.Lib.Hide
import Derived.Lib.Mul64
import Derived.Lib.TrailingZeros
import Derived.Maps.AppendAt
import Derived.StillTailTactics
import Derived.Test.YteejbcimmmcnlaaGreatDoorRows
import Derived.WalkKit
import Derived.WalkLawsBesides
import Derived.WalkSpells
import Derived.Test.YteejbcimmmcnlaaGreatDoorYBag
import Derived.Test.YteejbcimmmcnlaaGreatDoorYBah
import Derived.Test.YteejbcimmmcnlaaGreatDoorYBai
import Derived.Test.YteejbcimmmcnlaaGreatDoorYBaj
import Derived.Test.YteejbcimmmcnlaaGreatDoorYBam
import Derived.Test.YteejbcimmmcnlaaGreatDoorYBaz
import Derived.Test.YteejbcimmmcnlaaGreatDoorYBbl
import Derived.Test.YteejbcimmmcnlaaGreatDoorYBbm
import Derived.Test.YteejbcimmmcnlaaGreatDoorYBbp
import Derived.Test.YteejbcimmmcnlaaGreatDoorYBbr
import Derived.Test.YteejbcimmmcnlaaGreatDoorYBbs
import Derived.Test.YteejbcimmmcnlaaGreatDoorYBbv
namespace Go.Proofs.YteejbcimmmcnlaaGreatDoor
open Go.RowKit
set_option linter.unusedVariables false
set_option linter.unusedSimpArgs false
set_option maxRecDepth 100000

theorem fin_two9 {M E r : Int} {s : Bool} (q : Fq 2 s M E r) (h : r ≠ 19342822337206103650074625) (k : -19342822337206103650074625 < r) : False := by
  rcases q.cases with ⟨e, _⟩ | ⟨e, _⟩ | ⟨_, _, _, ⟨_, e⟩ | ⟨_, e⟩⟩
  · cases e
  · cases e
  · exact h e
  · omega
/-- Six whole numbers, one behind the other: which. -/
def six (z0 z1 z2 z3 z4 z5 : Int) (k : Nat) : Int := [z0, z1, z2, z3, z4, z5].getD k 0
theorem six_bd {z0 z1 z2 z3 z4 z5 : Int} (h : ∀ k, k < 6 → -1000000 ≤ six z0 z1 z2 z3 z4 z5 k ∧ six z0 z1 z2 z3 z4 z5 k ≤ 1000000) : (-1000000 ≤ z0 ∧ z0 ≤ 1000000) ∧ (-1000000 ≤ z1 ∧ z1 ≤ 1000000) ∧ (-1000000 ≤ z2 ∧ z2 ≤ 1000000) ∧ (-1000000 ≤ z3 ∧ z3 ≤ 1000000) ∧ (-1000000 ≤ z4 ∧ z4 ≤ 1000000) ∧ (-1000000 ≤ z5 ∧ z5 ≤ 1000000) :=
  ⟨h 0 (by decide), h 1 (by decide), h 2 (by decide), h 3 (by decide), h 4 (by decide), h 5 (by decide)⟩
theorem six_at {w : World} {g : Nat} {T : TypeId} {z0 z1 z2 z3 z4 z5 : Int} (X : Bo w g #[.int .i64 z0, .int .i64 z1, .int .i64 z2, .int .i64 z3, .int .i64 z4, .int .i64 z5] T) {k : Nat} (hk : k < 6) : w.cell? ⟨g, k, none⟩ = some (.int .i64 (six z0 z1 z2 z3 z4 z5 k)) := by
  rcases (by omega : k = 0 ∨ k = 1 ∨ k = 2 ∨ k = 3 ∨ k = 4 ∨ k = 5) with rfl | rfl | rfl | rfl | rfl | rfl <;> exact X.at rfl
set_option maxHeartbeats 8000000 in
theorem ivopSpreads_main (z0 z1 z2 z3 z4 z5 : Int) (w : World) {q : Bool → Int → Int → Int} (hq : QF q) (hT : Tab w) (hT2 : Tb w) (i0 : -9223372036854775808 ≤ z0 ∧ z0 ≤ 9223372036854775807) (i1 : -9223372036854775808 ≤ z1 ∧ z1 ≤ 9223372036854775807) (i2 : -9223372036854775808 ≤ z2 ∧ z2 ≤ 9223372036854775807) (i3 : -9223372036854775808 ≤ z3 ∧ z3 ≤ 9223372036854775807) (i4 : -9223372036854775808 ≤ z4 ∧ z4 ≤ 9223372036854775807) (i5 : -9223372036854775808 ≤ z5 ∧ z5 ≤ 9223372036854775807)
    (S : (∀ k, k < 6 → -1000000 ≤ six z0 z1 z2 z3 z4 z5 k ∧ six z0 z1 z2 z3 z4 z5 k ≤ 1000000) → ∃ (px p1 py p3 pz p5 : Sp) (x y z : Sp) (sm ml xy xz q2 d xd : Sp) (a b : Int), mkI (opl z0) (opl z0) = px ∧ mkI (opl z1) (opl z1) = p1 ∧ mkI (opl z2) (opl z2) = py ∧ mkI (opl z3) (opl z3) = p3 ∧ mkI (opl z4) (opl z4) = pz ∧ mkI (opl z5) (opl z5) = p5 ∧ hullL [px, p1] = x ∧ hullL [py, p3] = y ∧ hullL [pz, p5] = z ∧
      addL [y, z] = sm ∧ mulI x sm = some (a, b) ∧ mulI x y = xy ∧ mulI x z = xz ∧ addL [xy, xz] = q2 ∧ witI (some (a, b)) q2 = true ∧ subI x y = d ∧ addL [d, y] = xd ∧ witI x xd = true ∧ a ≠ 19342822337206103650074625 ∧ -19342822337206103650074625 < a) :
    Calls Tryz.prog 9 #[.int .i64 z0, .int .i64 z1, .int .i64 z2, .int .i64 z3, .int .i64 z4, .int .i64 z5] w (PB w true) := by
  have HQ := Lib.hid hq; have HS := Lib.hid S; clear hq S
  go_enter Tryz.func9, Tryz.ntmps9
  have HB := Lib.hid (Below.refl w.heap.size w)
  go_wp2_with fail
  refine (awake9 hT HQ.out).mono ?_; rintro ee w2 ⟨rfl, B⟩; replace hT := hT.below B; replace hT2 := hT2.below B; replace HB := Lib.hid (bt HB.out B); clear B; clear hT
  go_upto_region 3 with (fail)
  have lX14 := Nat.le_refl (World.heap w2).size; generalize hWn : w2.alloc _ = w3 at *; obtain ⟨X14, BW⟩ := Bo.nw hWn; clear hWn; replace hT2 := hT2.below BW; replace HB := Lib.hid (bt HB.out BW); clear BW; clear lX14; have hB0 := HB.out; go_wp2
  go_loopw [15] (fun i wr => ∃ k : Nat, k ≤ 6 ∧ i = .int .i64 k ∧ (∀ j, j < k → -1000000 ≤ six z0 z1 z2 z3 z4 z5 j ∧ six z0 z1 z2 z3 z4 z5 j ≤ 1000000) ∧ Below w3.heap.size w3 wr) (fun i _ => 6 - (intOf i).toNat)
  case atStart => exact ⟨0, Nat.zero_le _, rfl, fun j h => absurd h (Nat.not_lt_zero _), Below.refl _ _⟩
  case round =>
    obtain ⟨k, hk, rfl, hU, hB⟩ := hrel; have HU := Lib.hid hU; have HB4 := Lib.hid hB; clear hU
    by_cases hlt : k < 6
    · have d0 := six_at (X14.below hB) hlt; clear hB
      have i1 : (k : Int) < 6 := by omega
      have i2 : (0 : Int) ≤ k := by omega
      generalize hsk : six z0 z1 z2 z3 z4 z5 k = v at *
      have HN : Hid ((-1000000 ≤ v ∧ v ≤ 1000000) → ∀ j, j < k + 1 → -1000000 ≤ six z0 z1 z2 z3 z4 z5 j ∧ six z0 z1 z2 z3 z4 z5 j ≤ 1000000) := Lib.hid (fun hv j hj => by
        by_cases e : j = k
        · rw [e, hsk]; exact hv
        · exact HU.out j (by omega))
      clear hsk
      by_cases h1 : v < -1000000
      · have e1 : decide (v < -1000000) = true := decide_eq_true h1
        go_wp2
        go_ret
        exact ⟨rfl, bt HB.out HB4.out⟩
      · have e1 : decide (v < -1000000) = false := decide_eq_false h1
        by_cases h2 : 1000000 < v
        · have e2 : decide (1000000 < v) = true := decide_eq_true h2
          go_wp2
          go_ret
          exact ⟨rfl, bt HB.out HB4.out⟩
        · have e2 : decide (1000000 < v) = false := decide_eq_false h2
          have HN2 := Lib.hid (HN.out ⟨by omega, by omega⟩); clear HN HU; go_wp2
          go_roundw
          case rel => exact ⟨k + 1, by omega, by go_num, HN2.out, HB4.out⟩
          case measure => simp [intOf]; omega
    · obtain rfl : k = 6 := by omega
      obtain ⟨px, p1, py, p3, pz, p5, x, y, z, sm, ml, xy, xz, q2, d, xd, a, b, g1, g2, g3, g4, g5, g6, g7, g8, g9, ga, gb, gc, gd, ge, gf, gg, gh, gi, gj, gk⟩ := HS.out HU.out
      have tl : decide (((6 : Nat) : Int) < (6 : Int)) = false := by simp
      clear HU HB4 HS; have G1 := Lib.hid g1; clear g1; have G2 := Lib.hid g2; clear g2; have G3 := Lib.hid g3; clear g3; have G4 := Lib.hid g4; clear g4; have G5 := Lib.hid g5; clear g5; have G6 := Lib.hid g6; clear g6; have G7 := Lib.hid g7; clear g7; have G8 := Lib.hid g8; clear g8; have G9 := Lib.hid g9; clear g9; have Ga := Lib.hid ga; clear ga; have Gb := Lib.hid gb; clear gb; have Gc := Lib.hid gc
      clear gc; have Gd := Lib.hid gd; clear gd; have Ge := Lib.hid ge; clear ge; have Gf := Lib.hid gf; clear gf; have Gg := Lib.hid gg; clear gg; have Gh := Lib.hid gh; clear gh; have Gi := Lib.hid gi; clear gi
      have GJ := Lib.hid (And.intro gj gk)
      clear gj gk hB0; replace X14 := X14.below hB; replace hT2 := hT2.below hB; replace HB := Lib.hid (bt HB.out hB); clear hB X14
      go_wp2_with fail
      refine (nOf _ i0.1 i0.2 (r := opl z0) rfl).mono ?_; rintro ee wa ⟨K20, s20, M20, E20, rfl, q20, B⟩; replace hT2 := hT2.below B; replace HB := Lib.hid (bt HB.out B); clear B
      go_wp2_with fail
      refine (kvPoint q20.top q20.rk G1.out).mono ?_; rintro ee wb ⟨e21, K21, s21, M21, E21, K21b, s21b, M21b, E21b, rfl, v21, B⟩; replace hT2 := hT2.below B; replace HB := Lib.hid (bt HB.out B); clear B
      go_wp2_with fail
      refine (nOf _ i1.1 i1.2 (r := opl z1) rfl).mono ?_; rintro ee wc ⟨K22, s22, M22, E22, rfl, q22, B⟩; replace hT2 := hT2.below B; replace HB := Lib.hid (bt HB.out B); clear B
      go_wp2_with fail
      refine (kvPoint q22.top q22.rk G2.out).mono ?_; rintro ee wd ⟨e23, K23, s23, M23, E23, K23b, s23b, M23b, E23b, rfl, v23, B⟩; replace hT2 := hT2.below B; replace HB := Lib.hid (bt HB.out B); clear B
      go_wp2_with fail
      refine (kvHull (Il8.lit2 rfl v21.rw v23.rw) G7.out).mono ?_; rintro ee we ⟨e24, K24, s24, M24, E24, K24b, s24b, M24b, E24b, rfl, v24, B⟩; replace B := bt (bel1 _ _) B; replace hT2 := hT2.below B; replace HB := Lib.hid (bt HB.out B); clear B; clear v21 v23 q20 q22
      go_upto_region 9 with (fail)
      have lX16 := Nat.le_refl (World.heap we).size; generalize hWn : we.alloc _ = wf at *; obtain ⟨X16, BW⟩ := Bo.nw hWn; clear hWn; replace hT2 := hT2.below BW; replace HB := Lib.hid (bt HB.out BW); clear BW; clear lX16
      go_wp2_with fail
      refine (nOf _ i2.1 i2.2 (r := opl z2) rfl).mono ?_; rintro ee wg ⟨K30, s30, M30, E30, rfl, q30, B⟩; replace X16 := X16.below B; replace hT2 := hT2.below B; replace HB := Lib.hid (bt HB.out B); clear B
      go_wp2_with fail
      refine (kvPoint q30.top q30.rk G3.out).mono ?_; rintro ee wh ⟨e31, K31, s31, M31, E31, K31b, s31b, M31b, E31b, rfl, v31, B⟩; replace X16 := X16.below B; replace hT2 := hT2.below B; replace HB := Lib.hid (bt HB.out B); clear B
      go_wp2_with fail
      refine (nOf _ i3.1 i3.2 (r := opl z3) rfl).mono ?_; rintro ee wi ⟨K32, s32, M32, E32, rfl, q32, B⟩; replace X16 := X16.below B; replace hT2 := hT2.below B; replace HB := Lib.hid (bt HB.out B); clear B
      go_wp2_with fail
      refine (kvPoint q32.top q32.rk G4.out).mono ?_; rintro ee wj ⟨e33, K33, s33, M33, E33, K33b, s33b, M33b, E33b, rfl, v33, B⟩; replace X16 := X16.below B; replace hT2 := hT2.below B; replace HB := Lib.hid (bt HB.out B); clear B
      go_wp2_with fail
      refine (kvHull (Il8.lit2 rfl v31.rw v33.rw) G8.out).mono ?_; rintro ee wk ⟨e34, K34, s34, M34, E34, K34b, s34b, M34b, E34b, rfl, v34, B⟩; replace B := bt (bel1 _ _) B; replace X16 := X16.below B; replace hT2 := hT2.below B; replace HB := Lib.hid (bt HB.out B); clear B; clear v31 v33 q30 q32
      go_upto_region 10 with (fail)
      have lX17 := Nat.le_refl (World.heap wk).size; have nX17X16 := X16.lt; generalize hWn : wk.alloc _ = wl at *; obtain ⟨X17, BW⟩ := Bo.nw hWn; clear hWn; replace X16 := X16.below BW; replace hT2 := hT2.below BW; replace HB := Lib.hid (bt HB.out BW); clear BW; clear lX17
      go_wp2_with fail
      refine (nOf _ i4.1 i4.2 (r := opl z4) rfl).mono ?_; rintro ee wm ⟨K40, s40, M40, E40, rfl, q40, B⟩; replace X16 := X16.below B; replace X17 := X17.below B; replace hT2 := hT2.below B; replace HB := Lib.hid (bt HB.out B); clear B
      go_wp2_with fail
      refine (kvPoint q40.top q40.rk G5.out).mono ?_; rintro ee wn ⟨e41, K41, s41, M41, E41, K41b, s41b, M41b, E41b, rfl, v41, B⟩; replace X16 := X16.below B; replace X17 := X17.below B; replace hT2 := hT2.below B; replace HB := Lib.hid (bt HB.out B); clear B
      go_wp2_with fail
      refine (nOf _ i5.1 i5.2 (r := opl z5) rfl).mono ?_; rintro ee wo ⟨K42, s42, M42, E42, rfl, q42, B⟩; replace X16 := X16.below B; replace X17 := X17.below B; replace hT2 := hT2.below B; replace HB := Lib.hid (bt HB.out B); clear B
      go_wp2_with fail
      refine (kvPoint q42.top q42.rk G6.out).mono ?_; rintro ee wp ⟨e43, K43, s43, M43, E43, K43b, s43b, M43b, E43b, rfl, v43, B⟩; replace X16 := X16.below B; replace X17 := X17.below B; replace hT2 := hT2.below B; replace HB := Lib.hid (bt HB.out B); clear B
      go_wp2_with fail
      refine (kvHull (Il8.lit2 rfl v41.rw v43.rw) G9.out).mono ?_; rintro ee wq ⟨e44, K44, s44, M44, E44, K44b, s44b, M44b, E44b, rfl, v44, B⟩; replace B := bt (bel1 _ _) B; replace X16 := X16.below B; replace X17 := X17.below B; replace hT2 := hT2.below B; replace HB := Lib.hid (bt HB.out B); clear B; clear v41 v43 q40 q42
      go_upto_region 11 with (fail)
      have lX18 := Nat.le_refl (World.heap wq).size; have nX18X16 := X16.lt; have nX18X17 := X17.lt; generalize hWn : wq.alloc _ = wr2 at *; obtain ⟨X18, BW⟩ := Bo.nw hWn; clear hWn; replace X16 := X16.below BW; replace X17 := X17.below BW; replace hT2 := hT2.below BW; replace HB := Lib.hid (bt HB.out BW); clear BW; clear lX18; have hsz := HB.out.size; have lt16 := X16.lt; have lt17 := X17.lt; have lt18 := X18.lt
      refine Jo.region_joint (T := [0, 1, 2, 3, 4, 5, 6]) (ds := [some 72, some 73, some 74, some 75, some 76, some 77, some 19, none]) (ls := [[], [], [], [1, 2], [3], [0, 4], [], []]) (k := 8) (L := [(some 72, 0), (some 73, 1), (some 74, 2), (some 75, 3), (some 76, 4), (some 77, 5), (some 19, 6)]) (fuel := 1) (J := fun wj => Below (World.heap wr2).size wr2 wj)
        (F := [Jo.q9 e24 K24 s24 M24 E24 K24b s24b M24b E24b, Jo.q9 e34 K34 s34 M34 E34 K34b s34b M34b E34b, Jo.q9 e44 K44 s44 M44 E44 K44b s44b M44b E44b, Jo.Fact.il8 2 [y, z], Jo.Fact.iv sm, Jo.Fact.iv (some (a, b)), Jo.Fact.bo wr2.heap.size #[.bool false, .int .i64 0, .bool false, .int .u64 0, .int .i64 0, .int .i64 0, .bool false, .int .u64 0, .int .i64 0] 26, Jo.Fact.any])
        (by kernel_rfl) (by kernel_rfl) (by decide) rfl rfl (fun _ _ h b => bt h b) ((br _ _).drew) ?_ (fun vs ws hJ hd => ?_)
      · refine Jo.jm rfl ?_ ?_
        · rintro wj hJ K hK; simp only [Jo.z] at hK ⊢; obtain ⟨xX160, xX161, xX162, xX163, xX164, xX165, xX166, xX167, xX168⟩ := (X16.below hJ).u9; go_simp; exact hK.out _ _ rfl (br _ _)
        refine Jo.jm rfl ?_ ?_
        · rintro wj hJ K hK; simp only [Jo.z] at hK ⊢; obtain ⟨xX170, xX171, xX172, xX173, xX174, xX175, xX176, xX177, xX178⟩ := (X17.below hJ).u9; go_simp; exact hK.out _ _ rfl (br _ _)
        refine Jo.jm rfl ?_ ?_
        · rintro wj hJ K hK; simp only [Jo.z] at hK ⊢; obtain ⟨xX180, xX181, xX182, xX183, xX184, xX185, xX186, xX187, xX188⟩ := (X18.below hJ).u9; go_simp; exact hK.out _ _ rfl (br _ _)
        refine Jo.jm rfl ?_ ?_
        · rintro wj hJ _ rfl _ rfl K hK; simp only [Jo.z] at hK ⊢; go_simp; exact hK.out _ _ ⟨_, 2, rfl, Il8.lit2 rfl v34.rw v44.rw⟩ (bel1 _ _)
        refine Jo.jm rfl ?_ ?_
        · rintro wj hJ _ ⟨A50, c50, rfl, h50⟩ K hK; simp only [Jo.z] at hK ⊢; go_simp; refine (fkAdd (hT2.below hJ) h50 Ga.out).mono ?_; rintro ee wk ⟨e51, K51, s51, M51, E51, K51b, s51b, M51b, E51b, rfl, v51, B⟩; exact hK.out _ _ ⟨e51, K51, s51, M51, E51, K51b, s51b, M51b, E51b, rfl, v51⟩ B
        refine Jo.jm rfl ?_ ?_
        · rintro wj hJ _ rfl _ ⟨e51, K51, s51, M51, E51, K51b, s51b, M51b, E51b, rfl, v51⟩ K hK; simp only [Jo.z] at hK ⊢; go_simp; refine (fkMul v24.top.1 v24.top.2 v51.top.1 v51.top.2 v24.rk v51.rk Gb.out).mono ?_; rintro ee wk ⟨e52, K52, s52, M52, E52, K52b, s52b, M52b, E52b, rfl, v52, B⟩; exact hK.out _ _ ⟨e52, K52, s52, M52, E52, K52b, s52b, M52b, E52b, rfl, v52⟩ B
        refine Jo.jm rfl ?_ ?_
        · rintro wj hJ K hK; simp only [Jo.z] at hK ⊢; go_simp; exact hK.out _ _ ⟨_, rfl, hJ.size, Bo.new _ _ _⟩ (bel1 _ _)
        exact Jo.Steps.nil
      have d3 : (Jo.Fact.il8 2 [y, z]).P (vs 3) ws := hd 3 (by decide)
      have d4 : (Jo.Fact.iv sm).P (vs 4) ws := hd 4 (by decide)
      have d5 : (Jo.Fact.iv (some (a, b))).P (vs 5) ws := hd 5 (by decide)
      have d6 : (Jo.Fact.bo wr2.heap.size #[.bool false, .int .i64 0, .bool false, .int .u64 0, .int .i64 0, .int .i64 0, .bool false, .int .u64 0, .int .i64 0] 26).P (vs 6) ws := hd 6 (by decide)
      simp only [Jo.putl, Jo.zd, Jo.ze, Act.put, Jo.za, Jo.zb, Jo.zc]
      rw [show vs 0 = _ from hd 0 (by decide), show vs 1 = _ from hd 1 (by decide), show vs 2 = _ from hd 2 (by decide)]
      clear hd; generalize vs 3 = u3 at d3 ⊢; generalize vs 4 = u4 at d4 ⊢; generalize vs 5 = u5 at d5 ⊢; generalize vs 6 = u6 at d6 ⊢; obtain ⟨_, _, rfl, _⟩ := d3; obtain ⟨e51, K51, s51, M51, E51, K51b, s51b, M51b, E51b, rfl, v51⟩ := d4; obtain ⟨e52, K52, s52, M52, E52, K52b, s52b, M52b, E52b, rfl, v52⟩ := d5; obtain ⟨g19, rfl, hg19, X19⟩ := d6; replace X16 := X16.below hJ; replace X17 := X17.below hJ
      replace X18 := X18.below hJ; replace hT2 := hT2.below hJ; replace HB := Lib.hid (bt HB.out hJ); obtain ⟨xX190, xX191, xX192, xX193, xX194, xX195, xX196, xX197, xX198⟩ := X19.u9; have zX190 := X19.frozen
      refine Jo.jnext (i := 7) (o := ⟨none, _, _, _, _, _⟩) (by kernel_rfl) rfl (fun K hK => ?_)
      go_simp; refine hK.out _ _ ?_; clear hK K xX190 zX190 xX191 xX192 xX193 xX194 xX195 xX196 xX197 xX198; generalize hS : ((((((((ws.setCell _ _).setCell _ _).setCell _ _).setCell _ _).setCell _ _).setCell _ _).setCell _ _).setCell _ _).setCell _ _ = wt at *; have SX := StN.of9 X19 hS; replace X16 := X16.stn SX (by omega); replace X17 := X17.stn SX (by omega); replace X18 := X18.stn SX (by omega)
      replace hT2 := hT2.stn SX (by simp [no8]); replace HB := Lib.hid (SX.below HB.out (by omega)); replace X19 := SX.box; clear SX hS; refine Jo.jdone (by kernel_rfl) ?_; obtain ⟨rfl, a52, b52, o52, o52l, o52h⟩ := v52
      have v52 : Ci false K52 s52 M52 E52 K52b s52b M52b E52b (some (a, b)) := ⟨rfl, a52, b52, o52, o52l, o52h⟩
      have lt19 := X19.lt; have hsz2 := HB.out.size; have lu16 := X16.lt; have lu17 := X17.lt; have lu18 := X18.lt
      go_upto_region 12 with (fail)
      refine Jo.region_joint (T := [0, 1, 2, 3, 4, 5, 6, 7, 8]) (ds := [some 78, some 79, some 80, some 81, some 82, some 83, some 84, some 85, some 20, none]) (ls := [[], [], [0, 1], [], [], [3, 4], [2, 5], [6], [], []]) (k := 10) (L := [(some 78, 0), (some 79, 1), (some 80, 2), (some 81, 3), (some 82, 4), (some 83, 5), (some 84, 6), (some 85, 7), (some 20, 8)]) (fuel := 1) (J := fun wj => Below (World.heap wt).size wt wj)
        (F := [Jo.q9 e24 K24 s24 M24 E24 K24b s24b M24b E24b, Jo.q9 e34 K34 s34 M34 E34 K34b s34b M34b E34b, Jo.Fact.iv xy, Jo.q9 e24 K24 s24 M24 E24 K24b s24b M24b E24b, Jo.q9 e44 K44 s44 M44 E44 K44b s44b M44b E44b, Jo.Fact.iv xz, Jo.Fact.il8 2 [xy, xz], Jo.Fact.iv q2, Jo.Fact.bo wt.heap.size #[.bool false, .int .i64 0, .bool false, .int .u64 0, .int .i64 0, .int .i64 0, .bool false, .int .u64 0, .int .i64 0] 26, Jo.Fact.any])
        (by kernel_rfl) (by kernel_rfl) (by decide) rfl rfl (fun _ _ h b => bt h b) ((br _ _).drew) ?_ (fun vs wu hJ hd => ?_)
      · refine Jo.jm rfl ?_ ?_
        · rintro wj hJ K hK; simp only [Jo.z] at hK ⊢; obtain ⟨xX160, xX161, xX162, xX163, xX164, xX165, xX166, xX167, xX168⟩ := (X16.below hJ).u9; go_simp; exact hK.out _ _ rfl (br _ _)
        refine Jo.jm rfl ?_ ?_
        · rintro wj hJ K hK; simp only [Jo.z] at hK ⊢; obtain ⟨xX170, xX171, xX172, xX173, xX174, xX175, xX176, xX177, xX178⟩ := (X17.below hJ).u9; go_simp; exact hK.out _ _ rfl (br _ _)
        refine Jo.jm rfl ?_ ?_
        · rintro wj hJ _ rfl _ rfl K hK; simp only [Jo.z] at hK ⊢; go_simp; refine (fkMul v24.top.1 v24.top.2 v34.top.1 v34.top.2 v24.rk v34.rk Gc.out).mono ?_; rintro ee wk ⟨e53, K53, s53, M53, E53, K53b, s53b, M53b, E53b, rfl, v53, B⟩; exact hK.out _ _ ⟨e53, K53, s53, M53, E53, K53b, s53b, M53b, E53b, rfl, v53⟩ B
        refine Jo.jm rfl ?_ ?_
        · rintro wj hJ K hK; simp only [Jo.z] at hK ⊢; obtain ⟨xX160, xX161, xX162, xX163, xX164, xX165, xX166, xX167, xX168⟩ := (X16.below hJ).u9; go_simp; exact hK.out _ _ rfl (br _ _)
        refine Jo.jm rfl ?_ ?_
        · rintro wj hJ K hK; simp only [Jo.z] at hK ⊢; obtain ⟨xX180, xX181, xX182, xX183, xX184, xX185, xX186, xX187, xX188⟩ := (X18.below hJ).u9; go_simp; exact hK.out _ _ rfl (br _ _)
        refine Jo.jm rfl ?_ ?_
        · rintro wj hJ _ rfl _ rfl K hK; simp only [Jo.z] at hK ⊢; go_simp; refine (fkMul v24.top.1 v24.top.2 v44.top.1 v44.top.2 v24.rk v44.rk Gd.out).mono ?_; rintro ee wk ⟨e54, K54, s54, M54, E54, K54b, s54b, M54b, E54b, rfl, v54, B⟩; exact hK.out _ _ ⟨e54, K54, s54, M54, E54, K54b, s54b, M54b, E54b, rfl, v54⟩ B
        refine Jo.jm rfl ?_ ?_
        · rintro wj hJ _ ⟨e53, K53, s53, M53, E53, K53b, s53b, M53b, E53b, rfl, v53⟩ _ ⟨e54, K54, s54, M54, E54, K54b, s54b, M54b, E54b, rfl, v54⟩ K hK; simp only [Jo.z] at hK ⊢; go_simp; exact hK.out _ _ ⟨_, 2, rfl, Il8.lit2 rfl v53.rw v54.rw⟩ (bel1 _ _)
        refine Jo.jm rfl ?_ ?_
        · rintro wj hJ _ ⟨A55, c55, rfl, h55⟩ K hK; simp only [Jo.z] at hK ⊢; go_simp; refine (fkAdd (hT2.below hJ) h55 Ge.out).mono ?_; rintro ee wk ⟨e56, K56, s56, M56, E56, K56b, s56b, M56b, E56b, rfl, v56, B⟩; exact hK.out _ _ ⟨e56, K56, s56, M56, E56, K56b, s56b, M56b, E56b, rfl, v56⟩ B
        refine Jo.jm rfl ?_ ?_
        · rintro wj hJ K hK; simp only [Jo.z] at hK ⊢; go_simp; exact hK.out _ _ ⟨_, rfl, hJ.size, Bo.new _ _ _⟩ (bel1 _ _)
        exact Jo.Steps.nil
      have d2 : (Jo.Fact.iv xy).P (vs 2) wu := hd 2 (by decide)
      have d5 : (Jo.Fact.iv xz).P (vs 5) wu := hd 5 (by decide)
      have d6 : (Jo.Fact.il8 2 [xy, xz]).P (vs 6) wu := hd 6 (by decide)
      have d7 : (Jo.Fact.iv q2).P (vs 7) wu := hd 7 (by decide)
      have d8 : (Jo.Fact.bo wt.heap.size #[.bool false, .int .i64 0, .bool false, .int .u64 0, .int .i64 0, .int .i64 0, .bool false, .int .u64 0, .int .i64 0] 26).P (vs 8) wu := hd 8 (by decide)
      simp only [Jo.putl, Jo.zd, Jo.ze, Act.put, Jo.za, Jo.zb, Jo.zc]
      rw [show vs 0 = _ from hd 0 (by decide), show vs 1 = _ from hd 1 (by decide), show vs 3 = _ from hd 3 (by decide), show vs 4 = _ from hd 4 (by decide)]
      clear hd; generalize vs 2 = u2 at d2 ⊢; generalize vs 5 = u5 at d5 ⊢; generalize vs 6 = u6 at d6 ⊢; generalize vs 7 = u7 at d7 ⊢; generalize vs 8 = u8 at d8 ⊢; obtain ⟨e53, K53, s53, M53, E53, K53b, s53b, M53b, E53b, rfl, v53⟩ := d2; obtain ⟨e54, K54, s54, M54, E54, K54b, s54b, M54b, E54b, rfl, v54⟩ := d5; obtain ⟨_, _, rfl, _⟩ := d6; obtain ⟨e56, K56, s56, M56, E56, K56b, s56b, M56b, E56b, rfl, v56⟩ := d7
      obtain ⟨g20, rfl, hg20, X20⟩ := d8; replace X16 := X16.below hJ; replace X17 := X17.below hJ; replace X18 := X18.below hJ; replace X19 := X19.below hJ; replace hT2 := hT2.below hJ; replace HB := Lib.hid (bt HB.out hJ); obtain ⟨xX200, xX201, xX202, xX203, xX204, xX205, xX206, xX207, xX208⟩ := X20.u9; have zX200 := X20.frozen
      refine Jo.jnext (i := 9) (o := ⟨none, _, _, _, _, _⟩) (by kernel_rfl) rfl (fun K hK => ?_)
      go_simp; refine hK.out _ _ ?_; clear hK K xX200 zX200 xX201 xX202 xX203 xX204 xX205 xX206 xX207 xX208; generalize hS : ((((((((wu.setCell _ _).setCell _ _).setCell _ _).setCell _ _).setCell _ _).setCell _ _).setCell _ _).setCell _ _).setCell _ _ = wv at *; have SX := StN.of9 X20 hS; replace X16 := X16.stn SX (by omega); replace X17 := X17.stn SX (by omega); replace X18 := X18.stn SX (by omega)
      replace X19 := X19.stn SX (by omega); replace hT2 := hT2.stn SX (by simp [no8]); replace HB := Lib.hid (SX.below HB.out (by omega)); replace X20 := SX.box; clear SX hS; refine Jo.jdone (by kernel_rfl) ?_
      go_upto_region 13 with (fail)
      refine Jo.rk [0, 1, 2, 3, 4, 5, 6, 7, 8, 9, 10, 11, 12, 13, 14, 15, 16, 17, 18, 19, 20, 21, 22, 23, 24, 25, 26, 27] [some 86, some 87, some 88, some 89, some 90, some 91, some 92, some 93, some 94, some 95, some 96, some 97, some 98, some 99, some 100, some 101, some 102, some 103, some 104, some 105, some 106, some 107, some 108, some 109, some 110, some 111, some 112, some 12] [[], [0], [1], [1], [1, 2, 3], [1, 4], [5], [6], [6], [6], [6, 8, 9], [6], [6, 10, 11], [6, 12], [6, 7, 13], [6, 14], [15], [16], [16, 17], [16, 18], [16, 19], [20], [21], [21, 22], [21, 23], [21, 24], [21, 25], [26]] 28 0 [Jo.qb true, Jo.qb true, Jo.q9 false K52 s52 M52 E52 K52b s52b M52b E52b, Jo.q9 e56 K56 s56 M56 E56 K56b s56b M56b E56b, Jo.qb true, Jo.qb true, Jo.qb true, Jo.q9 e24 K24 s24 M24 E24 K24b s24b M24b E24b, Jo.q9 e24 K24 s24 M24 E24 K24b s24b M24b E24b, Jo.q9 e34 K34 s34 M34 E34 K34b s34b M34b E34b, Jo.Fact.iv d, Jo.q9 e34 K34 s34 M34 E34 K34b s34b M34b E34b, Jo.Fact.il8 2 [d, y], Jo.Fact.iv xd, Jo.qb true, Jo.qb true, Jo.qb true, Jo.qp g19 0, Jo.qb false, Jo.qb true, Jo.qb true, Jo.qb true, Jo.qp g19 1, Jo.qp g19 1, Jo.qi K52, Jo.qb true, Jo.qb true, Jo.qb true] (by kernel_rfl) (by kernel_rfl) (by decide) rfl ?_ ?_
      · refine Jo.jm rfl ?_ ?_
        · rintro wj hJ K hK; simp only [Jo.z] at hK ⊢; go_simp; exact hK.out _ _ rfl (br _ _)
        refine Jo.jm rfl ?_ ?_
        · rintro wj hJ _ rfl K hK; simp only [Jo.z] at hK ⊢; go_simp; exact hK.out _ _ rfl (br _ _)
        refine Jo.jm rfl ?_ ?_
        · rintro wj hJ _ rfl K hK; simp only [Jo.z] at hK ⊢; obtain ⟨xX190, xX191, xX192, xX193, xX194, xX195, xX196, xX197, xX198⟩ := (X19.below hJ).u9; go_simp; exact hK.out _ _ rfl (br _ _)
        refine Jo.jm rfl ?_ ?_
        · rintro wj hJ _ rfl K hK; simp only [Jo.z] at hK ⊢; obtain ⟨xX200, xX201, xX202, xX203, xX204, xX205, xX206, xX207, xX208⟩ := (X20.below hJ).u9; go_simp; exact hK.out _ _ rfl (br _ _)
        refine Jo.jm rfl ?_ ?_
        · rintro wj hJ _ rfl _ rfl _ rfl K hK; simp only [Jo.z] at hK ⊢; go_simp; refine (kvWithin v52.top.1 v52.top.2 v56.top.1 v56.top.2 v52.rk v56.rk Gf.out).mono ?_; rintro ee wk ⟨rfl, B⟩; exact hK.out _ _ rfl B
        refine Jo.jm rfl ?_ ?_
        · rintro wj hJ _ rfl _ rfl K hK; simp only [Jo.z] at hK ⊢; go_simp; exact hK.out _ _ rfl (br _ _)
        refine Jo.jm rfl ?_ ?_
        · rintro wj hJ _ rfl K hK; simp only [Jo.z] at hK ⊢; go_simp; exact hK.out _ _ rfl (br _ _)
        refine Jo.jm rfl ?_ ?_
        · rintro wj hJ _ rfl K hK; simp only [Jo.z] at hK ⊢; obtain ⟨xX160, xX161, xX162, xX163, xX164, xX165, xX166, xX167, xX168⟩ := (X16.below hJ).u9; go_simp; exact hK.out _ _ rfl (br _ _)
        refine Jo.jm rfl ?_ ?_
        · rintro wj hJ _ rfl K hK; simp only [Jo.z] at hK ⊢; obtain ⟨xX160, xX161, xX162, xX163, xX164, xX165, xX166, xX167, xX168⟩ := (X16.below hJ).u9; go_simp; exact hK.out _ _ rfl (br _ _)
        refine Jo.jm rfl ?_ ?_
        · rintro wj hJ _ rfl K hK; simp only [Jo.z] at hK ⊢; obtain ⟨xX170, xX171, xX172, xX173, xX174, xX175, xX176, xX177, xX178⟩ := (X17.below hJ).u9; go_simp; exact hK.out _ _ rfl (br _ _)
        refine Jo.jm rfl ?_ ?_
        · rintro wj hJ _ rfl _ rfl _ rfl K hK; simp only [Jo.z] at hK ⊢; go_simp; refine (fkSub (hT2.below hJ) v24.top.1 v24.top.2 v34.top.1 v34.top.2 v24.rk v34.rk Gg.out).mono ?_; rintro ee wk ⟨e57, K57, s57, M57, E57, K57b, s57b, M57b, E57b, rfl, v57, B⟩; exact hK.out _ _ ⟨e57, K57, s57, M57, E57, K57b, s57b, M57b, E57b, rfl, v57⟩ B
        refine Jo.jm rfl ?_ ?_
        · rintro wj hJ _ rfl K hK; simp only [Jo.z] at hK ⊢; obtain ⟨xX170, xX171, xX172, xX173, xX174, xX175, xX176, xX177, xX178⟩ := (X17.below hJ).u9; go_simp; exact hK.out _ _ rfl (br _ _)
        refine Jo.jm rfl ?_ ?_
        · rintro wj hJ _ rfl _ ⟨e57, K57, s57, M57, E57, K57b, s57b, M57b, E57b, rfl, v57⟩ _ rfl K hK; simp only [Jo.z] at hK ⊢; go_simp; exact hK.out _ _ ⟨_, 2, rfl, Il8.lit2 rfl v57.rw v34.rw⟩ (bel1 _ _)
        refine Jo.jm rfl ?_ ?_
        · rintro wj hJ _ rfl _ ⟨A58, c58, rfl, h58⟩ K hK; simp only [Jo.z] at hK ⊢; go_simp; refine (fkAdd (hT2.below hJ) h58 Gh.out).mono ?_; rintro ee wk ⟨e59, K59, s59, M59, E59, K59b, s59b, M59b, E59b, rfl, v59, B⟩; exact hK.out _ _ ⟨e59, K59, s59, M59, E59, K59b, s59b, M59b, E59b, rfl, v59⟩ B
        refine Jo.jm rfl ?_ ?_
        · rintro wj hJ _ rfl _ rfl _ ⟨e59, K59, s59, M59, E59, K59b, s59b, M59b, E59b, rfl, v59⟩ K hK; simp only [Jo.z] at hK ⊢; go_simp; refine (kvWithin v24.top.1 v24.top.2 v59.top.1 v59.top.2 v24.rk v59.rk Gi.out).mono ?_; rintro ee wk ⟨rfl, B⟩; exact hK.out _ _ rfl B
        refine Jo.jm rfl ?_ ?_
        · rintro wj hJ _ rfl _ rfl K hK; simp only [Jo.z] at hK ⊢; go_simp; exact hK.out _ _ rfl (br _ _)
        refine Jo.jm rfl ?_ ?_
        · rintro wj hJ _ rfl K hK; simp only [Jo.z] at hK ⊢; go_simp; exact hK.out _ _ rfl (br _ _)
        refine Jo.jm rfl ?_ ?_
        · rintro wj hJ _ rfl K hK; simp only [Jo.z] at hK ⊢; go_simp; exact hK.out _ _ rfl (br _ _)
        refine Jo.jm rfl ?_ ?_
        · rintro wj hJ _ rfl _ rfl K hK; simp only [Jo.z] at hK ⊢; have xX190 := (X19.below hJ).a 0 (.bool false) rfl; go_simp; exact hK.out _ _ rfl (br _ _)
        refine Jo.jm rfl ?_ ?_
        · rintro wj hJ _ rfl _ rfl K hK; simp only [Jo.z] at hK ⊢; go_simp; exact hK.out _ _ rfl (br _ _)
        refine Jo.jm rfl ?_ ?_
        · rintro wj hJ _ rfl _ rfl K hK; simp only [Jo.z] at hK ⊢; go_simp; exact hK.out _ _ rfl (br _ _)
        refine Jo.jm rfl ?_ ?_
        · rintro wj hJ _ rfl K hK; simp only [Jo.z] at hK ⊢; go_simp; exact hK.out _ _ rfl (br _ _)
        refine Jo.jm rfl ?_ ?_
        · rintro wj hJ _ rfl K hK; simp only [Jo.z] at hK ⊢; go_simp; exact hK.out _ _ rfl (br _ _)
        refine Jo.jm rfl ?_ ?_
        · rintro wj hJ _ rfl _ rfl K hK; simp only [Jo.z] at hK ⊢; go_simp; exact hK.out _ _ rfl (br _ _)
        refine Jo.jm rfl ?_ ?_
        · rintro wj hJ _ rfl _ rfl K hK; simp only [Jo.z] at hK ⊢; have xX191 := (X19.below hJ).a 1 (.int .i64 K52) rfl; go_simp; exact hK.out _ _ rfl (br _ _)
        refine Jo.jm rfl ?_ ?_
        · rintro wj hJ _ rfl _ rfl K hK; simp only [Jo.z] at hK ⊢
          have hk52 : K52 ≠ 2 := fun e => by subst e; exact fin_two9 a52 GJ.out.1 GJ.out.2
          go_simp
          exact hK.out _ _ (show Value.bool _ = Value.bool _ by simp [hk52]) (br _ _)
        refine Jo.jm rfl ?_ ?_
        · rintro wj hJ _ rfl _ rfl K hK; simp only [Jo.z] at hK ⊢; go_simp; exact hK.out _ _ rfl (br _ _)
        refine Jo.jm rfl ?_ ?_
        · rintro wj hJ _ rfl K hK; simp only [Jo.z] at hK ⊢; go_simp; exact hK.out _ _ rfl (br _ _)
        exact Jo.Steps.nil
      rintro wx hJ _ rfl _ rfl _ rfl _ rfl _ rfl _ rfl _ rfl _ rfl _ rfl _ rfl _ ⟨e57, K57, s57, M57, E57, K57b, s57b, M57b, E57b, rfl, v57⟩ _ rfl _ ⟨_, _, rfl, _⟩ _ ⟨e59, K59, s59, M59, E59, K59b, s59b, M59b, E59b, rfl, v59⟩ _ rfl _ rfl _ rfl _ _ _ rfl _ rfl _ rfl _ rfl _ _ _ _ _ rfl _ rfl _ rfl _ rfl -; simp only [Jo.z]; replace X16 := X16.below hJ; replace X17 := X17.below hJ; replace X18 := X18.below hJ
      replace X19 := X19.below hJ; replace X20 := X20.below hJ; replace hT2 := hT2.below hJ; replace HB := Lib.hid (bt HB.out hJ); refine Jo.jdone (by kernel_rfl) ?_; go_wp2
      go_ret
      exact ⟨rfl, HB.out⟩

theorem ivopSpreads_walk (n0 : Int) (n1 : Int) (n2 : Int) (n3 : Int) (n4 : Int) (n5 : Int) (w : World) (hT : Tab w) (hT2 : Tb w) (w0 : (Lit.int .i64 n0).wf = true) (w1 : (Lit.int .i64 n1).wf = true) (w2 : (Lit.int .i64 n2).wf = true) (w3 : (Lit.int .i64 n3).wf = true) (w4 : (Lit.int .i64 n4).wf = true) (w5 : (Lit.int .i64 n5).wf = true) :
    Calls Tryz.prog 9 #[.int .i64 n0, .int .i64 n1, .int .i64 n2, .int .i64 n3, .int .i64 n4, .int .i64 n5] w fun e w' => e = .returned (.bool true) ∧ Below w.heap.size w w' := by
  obtain ⟨q, hq⟩ := qf_ex
  refine ivopSpreads_main n0 n1 n2 n3 n4 n5 w hq hT hT2 (wf_i64' w0) (wf_i64' w1) (wf_i64' w2) (wf_i64' w3) (wf_i64' w4) (wf_i64' w5) (fun hb => ?_)
  obtain ⟨b0, b1, b2, b3, b4, b5⟩ := six_bd hb; clear hb; have X := Zi.point (a := n0) (b := n1) (by omega) (by omega) (by omega) (by omega); have Y := Zi.point (a := n2) (b := n3) (by omega) (by omega) (by omega) (by omega); have Z := Zi.point (a := n4) (b := n5) (by omega) (by omega) (by omega) (by omega); obtain ⟨s1, s2, p, q', s3, s4, s5, s6⟩ := spreads (a := min n0 n1) (b := max n0 n1) (c := min n2 n3) (d := max n2 n3) (e := min n4 n5) (f := max n4 n5) (by omega) (by omega) (by omega) (by omega) (by omega) (by omega) (by omega) (by omega) (by omega)
  have F := opl_fin (a := p) s4 (by omega); rw [s3] at s1; exact ⟨_, _, _, _, _, _, Zi (min n0 n1) (max n0 n1), Zi (min n2 n3) (max n2 n3), Zi (min n4 n5) (max n4 n5), _, none, _, _, _, _, _, opl p, opl q', rfl, rfl, rfl, rfl, rfl, rfl, X, Y, Z, rfl, s3, rfl, rfl, rfl, s1, rfl, rfl, s2, by omega, F.1⟩
end Go.Proofs.YteejbcimmmcnlaaGreatDoor
