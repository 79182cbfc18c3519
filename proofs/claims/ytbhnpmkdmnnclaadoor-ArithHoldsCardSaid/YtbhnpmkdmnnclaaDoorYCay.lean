/-
  Contracts and words that the statement's proof rests on, several texts in one: Hj, Hk.
-/
import Derived.Below
import Derived.BigQuiet
import Derived.Carry
import Derived.Deep.DeepCutAuto
import Derived.Deep.Draws
import Derived.Deep.MidRow
import Derived.Deep.QuietTactic
import Derived.Deep.RegionHeld3
import Derived.Deep.RegionWith
import Derived.IntWalk
import Derived.Laws.Bits64b
import Derived.Laws.CopyOwn
import Derived.Laws.Externs
import Derived.Laws.MakeOwn
import Derived.Laws.OwnMore
import Derived.Laws.Rows
import Derived.Lib.BitFns
import Derived.Lib.Hide
import Derived.Lib.Mul64
import Derived.Lib.TrailingZeros
import Derived.Maps.AppendAt
import Derived.StillTailTactics
import Derived.Test.YtbhnpmkdmnnclaaDoorRows
import Derived.WalkKit
import Derived.WalkLawsBesides
import Derived.WalkSpells
import Derived.Test.YtbhnpmkdmnnclaaDoorYCat
import Derived.Test.YtbhnpmkdmnnclaaDoorYCax
/-
  What every statement of layer 6 begins with: the chapter's examples, and the test of exponents.
-/
namespace Go.Proofs.YtbhnpmkdmnnclaaDoor
open Go.RowKit
set_option linter.unusedVariables false
set_option linter.unusedSimpArgs false
set_option maxRecDepth 100000

/-- A sum with a number that is far enough away, both above nought. -/
theorem addp_next {M N E F a b : Int} (qa : Fq 1 false M E a) (qb : Fq 1 false N F b) (h : 64 ≤ E - F) : addp true a b = nx true a ∧ addp false a b = a := by
  have htp := TP_eq
  have hk := KK_eq
  obtain ⟨h1, h2, h3, h4, h5, h6, h7, va, sa⟩ := fq_vr qa
  obtain ⟨k1, k2, k3, k4, k5, k6, k7, vb, sb⟩ := fq_vr qb
  have a0 : 0 < a := by
    have := of_decide_eq_false sa
    omega
  have b0 : 0 < b := by
    have := of_decide_eq_false sb
    omega
  obtain ⟨g1, g2, g3⟩ := vr_gap h1 h2 (show -1048576 < E by omega)
  have e0 : a = M - 9223372036854775808 + 1 + (E + 1048576) * 9223372036854775808 := by
    rcases qa.cases with ⟨c, _⟩ | ⟨_, _, _, _, _, ⟨_, h5⟩ | ⟨c, _⟩⟩ | ⟨c, _⟩
    · exact absurd c (by decide)
    · exact h5
    · exact absurd c (by decide)
    · exact absurd c (by decide)
  rw [← e0] at g1 g2 g3
  rw [wsg_f] at vb
  have hb0 : 0 < vr b := vr_pos b0
  have hb1 : vr b < 2 ^ (E + KK).toNat := by
    have l1 := Int.mul_lt_mul_of_pos_right k2 (p2pos (F + KK).toNat)
    rw [← vb, show (18446744073709551616 : Int) = 2 ^ 64 by decide, ← Int.pow_add] at l1
    have l2 := p2_le (show 64 + (F + (KK : Int)).toNat ≤ (E + (KK : Int)).toNat by omega)
    omega
  obtain ⟨s1, s2⟩ := addp_spec (x := a) (y := b) true (by omega) h6 (by omega) k6
  obtain ⟨u1, u2⟩ := near_up (r := a) (X := vr a + vr b) (by omega) h6 (by omega) (by omega)
  have n1 : nx true a = a + 1 := by
    unfold nx
    rw [if_pos rfl]
    omega
  rw [n1]
  exact ⟨s2.uniq u2, s1.uniq u1⟩
theorem fq_sml : Fq 1 false 9223372036854775808 (-133) 9670179848436131712466945 := Fq.fin (by decide) (by decide) (by decide) (by decide) (by decide)
theorem mul_awk : mulp true (sgi false TP) (sgi (decide ((-2 : Int) < 0)) (lo (-2 : Int).natAbs 0)) = sgi true TP := by
  have h0 : 0 < opl 2 ∧ opl 2 < 19342822337206103650074625 := opl_pos (by decide) (by decide)
  have e : sgi (decide ((-2 : Int) < 0)) (lo (-2 : Int).natAbs 0) = -opl 2 := by
    have h := sgi_not (n := 2) (by decide) (lo (2 : Int).natAbs 0)
    exact h
  rw [e]
  have htp := TP_eq
  have hz : ¬ (sgi false TP = 0 ∨ -opl 2 = 0) := by
    rw [wsg_f]
    omega
  have hi : infp (sgi false TP) = true := by
    rw [wsg_f]
    unfold infp
    simp
  rw [mulp_inf true hz (.inl hi), wsg_f, decide_eq_false (show ¬ TP < 0 by omega), decide_eq_true (show -opl 2 < 0 by omega)]
  rfl
set_option maxHeartbeats 4000000 in
theorem awake6 {w : World} (hT : Tb w) : Calls Tryd.prog 11 #[] w (PB w true) := by
  obtain ⟨p1, hp1⟩ : ∃ p, sgi (decide ((1 : Int) < 0)) (lo (1 : Int).natAbs 0) = p := ⟨_, rfl⟩
  have q1 := fq_one
  have qs := fq_sml
  have hs1 := addp_next q1 qs (by decide)
  rw [hp1] at q1 hs1
  generalize (9670179848436131712466945 : Int) = ps at qs hs1
  obtain ⟨n1, hn1⟩ : ∃ n, nx true p1 = n := ⟨_, rfl⟩
  rw [hn1] at hs1
  have HA1 := Lib.hid hs1.1
  have HA2 := Lib.hid hs1.2
  have HN1 := Lib.hid hn1
  have hm := mul_awk
  obtain ⟨m2, hm2⟩ : ∃ m, sgi (decide ((-2 : Int) < 0)) (lo (-2 : Int).natAbs 0) = m := ⟨_, rfl⟩
  obtain ⟨i0, hi0⟩ : ∃ i, sgi false TP = i := ⟨_, rfl⟩
  obtain ⟨i2, hi2⟩ : ∃ i, sgi true TP = i := ⟨_, rfl⟩
  rw [hm2, hi0, hi2] at hm
  have HM := Lib.hid hm
  have HO2 := Lib.hid hm2
  have HI0 := Lib.hid hi0
  have HI2 := Lib.hid hi2
  have HP1 := Lib.hid hp1
  clear hs1 hn1 hm hm2 hi0 hi2 hp1
  go_enter Tryd.func11, Tryd.ntmps11
  have HB := Lib.hid (Below.refl w.heap.size w)
  go_wp2_with fail
  refine (nOf _ (by decide) (by decide) HP1.out).mono ?_
  rintro ee w1 ⟨K3, s3, M3, E3, rfl, q3, B⟩
  replace hT := hT.below B
  replace HB := Lib.hid (bt HB.out B)
  clear B
  obtain ⟨rfl, rfl, rfl, rfl⟩ := q3.uniq q1
  clear q3
  go_upto_region 2 with (fail)
  have lX1 := Nat.le_refl (World.heap w1).size
  replace hT := hT.below (bel1 _ (.cells #[.int .i64 1, .bool false, .int .u64 9223372036854775808, .int .i64 (-63)] 24))
  replace HB := Lib.hid (bt HB.out (bel1 _ (.cells #[.int .i64 1, .bool false, .int .u64 9223372036854775808, .int .i64 (-63)] 24)))
  have X1 := Bo.new w1 #[.int .i64 1, .bool false, .int .u64 9223372036854775808, .int .i64 (-63)] 24
  generalize hWn : World.alloc w1 (.cells #[.int .i64 1, .bool false, .int .u64 9223372036854775808, .int .i64 (-63)] 24) = w2 at *
  clear hWn
  clear lX1
  go_upto_region 3 with (fail)
  have lX2 := Nat.le_refl (World.heap w2).size
  have nX2X1 := X1.lt
  replace X1 := X1.below (bel1 _ (.cells #[.int .i64 1, .bool false, .int .u64 9223372036854775808, .int .i64 (-133)] 24))
  replace hT := hT.below (bel1 _ (.cells #[.int .i64 1, .bool false, .int .u64 9223372036854775808, .int .i64 (-133)] 24))
  replace HB := Lib.hid (bt HB.out (bel1 _ (.cells #[.int .i64 1, .bool false, .int .u64 9223372036854775808, .int .i64 (-133)] 24)))
  have X2 := Bo.new w2 #[.int .i64 1, .bool false, .int .u64 9223372036854775808, .int .i64 (-133)] 24
  generalize hWn : World.alloc w2 (.cells #[.int .i64 1, .bool false, .int .u64 9223372036854775808, .int .i64 (-133)] 24) = w3 at *
  clear hWn
  clear lX2
  refine Jo.region_joint (T := [0, 1, 2, 3, 4, 5, 6, 7, 8, 9, 10, 11, 12, 13, 14, 15, 16, 17, 18, 19, 20, 21, 22, 23, 24, 25]) (ds := [some 5, some 6, some 7, some 8, some 9, some 10, some 11, some 12, some 13, some 14, some 15, some 16, some 17, some 18, some 19, some 20, some 21, some 22, some 23, some 24, some 25, some 26, some 27, some 28, some 29, some 0]) (ls := [[], [], [0, 1], [], [3], [2, 4], [5], [6], [6], [6, 7, 8], [6], [6, 9, 10], [6, 11], [12], [13], [13, 14], [13, 15], [13, 16], [17], [18], [18], [18, 19, 20], [18], [18, 21, 22], [18, 23], [24]]) (k := 26) (L := [(some 5, 0), (some 6, 1), (some 7, 2), (some 8, 3), (some 9, 4), (some 10, 5), (some 11, 6), (some 12, 7), (some 13, 8), (some 14, 9), (some 15, 10), (some 16, 11), (some 17, 12), (some 18, 13), (some 19, 14), (some 20, 15), (some 21, 16), (some 22, 17), (some 23, 18), (some 24, 19), (some 25, 20), (some 26, 21), (some 27, 22), (some 28, 23), (some 29, 24), (some 0, 25)]) (fuel := 0) (J := fun wj => Below (World.heap w3).size w3 wj)
    (F := [Jo.Fact.eq (.agg #[.int .i64 1, .bool false, .int .u64 9223372036854775808, .int .i64 (-63)]), Jo.Fact.eq (.agg #[.int .i64 1, .bool false, .int .u64 9223372036854775808, .int .i64 (-133)]), Jo.Fact.num n1, Jo.Fact.eq (.agg #[.int .i64 1, .bool false, .int .u64 9223372036854775808, .int .i64 (-63)]), Jo.Fact.num n1, Jo.Fact.eq (.bool true), Jo.Fact.eq (.bool true), Jo.Fact.eq (.agg #[.int .i64 1, .bool false, .int .u64 9223372036854775808, .int .i64 (-63)]), Jo.Fact.eq (.agg #[.int .i64 1, .bool false, .int .u64 9223372036854775808, .int .i64 (-133)]), Jo.Fact.num p1, Jo.Fact.eq (.agg #[.int .i64 1, .bool false, .int .u64 9223372036854775808, .int .i64 (-63)]), Jo.Fact.eq (.bool true), Jo.Fact.eq (.bool true), Jo.Fact.eq (.bool true), Jo.Fact.eq (.pointer (some ⟨w1.heap.size, 0, none⟩)), Jo.Fact.eq (.int .i64 1), Jo.Fact.eq (.bool true), Jo.Fact.eq (.bool true), Jo.Fact.eq (.bool true), Jo.Fact.num i0, Jo.Fact.num m2, Jo.Fact.num i2, Jo.Fact.num i2, Jo.Fact.eq (.bool true), Jo.Fact.eq (.bool true), Jo.Fact.eq (.bool true)])
    (by kernel_rfl) (by kernel_rfl) (by decide) rfl rfl (fun _ _ h b => bt h b) ((Below.refl _ _).drew) ?_ (fun vs w4 hJ hd => ?_)
  · refine Jo.jcons (i := 0) (o := ⟨some 5, _, _, _, _, _⟩) (di := some 5) (L := []) (f := Jo.Fact.eq (.agg #[.int .i64 1, .bool false, .int .u64 9223372036854775808, .int .i64 (-63)])) rfl rfl rfl rfl (fun vs wj hJ hd K hK => ?_) ?_
    · clear hd
      simp only [Jo.putl, List.foldl_nil, Act.put, List.setIfInBounds_toArray, List.set_cons_zero, List.set_cons_succ] at hK ⊢
      have xX10 : World.cell? wj ⟨w1.heap.size, 0, none⟩ = some (.int .i64 1) := (X1.below hJ).cell 0
      have xX11 : World.cell? wj ⟨w1.heap.size, 1, none⟩ = some (.bool false) := (X1.below hJ).cell 1
      have xX12 : World.cell? wj ⟨w1.heap.size, 2, none⟩ = some (.int .u64 9223372036854775808) := (X1.below hJ).cell 2
      have xX13 : World.cell? wj ⟨w1.heap.size, 3, none⟩ = some (.int .i64 (-63)) := (X1.below hJ).cell 3
      go_simp
      exact hK.out _ _ rfl (Below.refl _ _)
    refine Jo.jcons (i := 1) (o := ⟨some 6, _, _, _, _, _⟩) (di := some 6) (L := []) (f := Jo.Fact.eq (.agg #[.int .i64 1, .bool false, .int .u64 9223372036854775808, .int .i64 (-133)])) rfl rfl rfl rfl (fun vs wj hJ hd K hK => ?_) ?_
    · clear hd
      simp only [Jo.putl, List.foldl_nil, Act.put, List.setIfInBounds_toArray, List.set_cons_zero, List.set_cons_succ] at hK ⊢
      have xX20 : World.cell? wj ⟨w2.heap.size, 0, none⟩ = some (.int .i64 1) := (X2.below hJ).cell 0
      have xX21 : World.cell? wj ⟨w2.heap.size, 1, none⟩ = some (.bool false) := (X2.below hJ).cell 1
      have xX22 : World.cell? wj ⟨w2.heap.size, 2, none⟩ = some (.int .u64 9223372036854775808) := (X2.below hJ).cell 2
      have xX23 : World.cell? wj ⟨w2.heap.size, 3, none⟩ = some (.int .i64 (-133)) := (X2.below hJ).cell 3
      go_simp
      exact hK.out _ _ rfl (Below.refl _ _)
    refine Jo.jcons (i := 2) (o := ⟨some 7, _, _, _, _, _⟩) (di := some 7) (L := [(some 5, 0), (some 6, 1)]) (f := Jo.Fact.num n1) rfl rfl rfl rfl (fun vs wj hJ hd K hK => ?_) ?_
    · have d0 : (Jo.Fact.eq (.agg #[.int .i64 1, .bool false, .int .u64 9223372036854775808, .int .i64 (-63)])).P (vs 0) wj := hd 0 (by decide)
      have d1 : (Jo.Fact.eq (.agg #[.int .i64 1, .bool false, .int .u64 9223372036854775808, .int .i64 (-133)])).P (vs 1) wj := hd 1 (by decide)
      clear hd
      simp only [Jo.putl, List.foldl_cons, List.foldl_nil, Act.put, List.setIfInBounds_toArray, List.set_cons_zero, List.set_cons_succ] at hK ⊢
      generalize vs 0 = u0 at hK d0 ⊢
      generalize vs 1 = u1 at hK d1 ⊢
      replace d0 : u0 = _ := d0
      subst d0
      replace d1 : u1 = _ := d1
      subst d1
      go_simp
      refine (aAdd (hT.below hJ) q1.top qs.top q1.rk qs.rk HA1.out).mono ?_
      rintro ee wk ⟨K4, s4, M4, E4, rfl, q4, B⟩
      exact hK.out _ _ ⟨K4, s4, M4, E4, rfl, q4⟩ B
    refine Jo.jcons (i := 3) (o := ⟨some 8, _, _, _, _, _⟩) (di := some 8) (L := []) (f := Jo.Fact.eq (.agg #[.int .i64 1, .bool false, .int .u64 9223372036854775808, .int .i64 (-63)])) rfl rfl rfl rfl (fun vs wj hJ hd K hK => ?_) ?_
    · clear hd
      simp only [Jo.putl, List.foldl_nil, Act.put, List.setIfInBounds_toArray, List.set_cons_zero, List.set_cons_succ] at hK ⊢
      have xX10 : World.cell? wj ⟨w1.heap.size, 0, none⟩ = some (.int .i64 1) := (X1.below hJ).cell 0
      have xX11 : World.cell? wj ⟨w1.heap.size, 1, none⟩ = some (.bool false) := (X1.below hJ).cell 1
      have xX12 : World.cell? wj ⟨w1.heap.size, 2, none⟩ = some (.int .u64 9223372036854775808) := (X1.below hJ).cell 2
      have xX13 : World.cell? wj ⟨w1.heap.size, 3, none⟩ = some (.int .i64 (-63)) := (X1.below hJ).cell 3
      go_simp
      exact hK.out _ _ rfl (Below.refl _ _)
    refine Jo.jcons (i := 4) (o := ⟨some 9, _, _, _, _, _⟩) (di := some 9) (L := [(some 8, 3)]) (f := Jo.Fact.num n1) rfl rfl rfl rfl (fun vs wj hJ hd K hK => ?_) ?_
    · have d3 : (Jo.Fact.eq (.agg #[.int .i64 1, .bool false, .int .u64 9223372036854775808, .int .i64 (-63)])).P (vs 3) wj := hd 3 (by decide)
      clear hd
      simp only [Jo.putl, List.foldl_cons, List.foldl_nil, Act.put, List.setIfInBounds_toArray, List.set_cons_zero, List.set_cons_succ] at hK ⊢
      generalize vs 3 = u3 at hK d3 ⊢
      replace d3 : u3 = _ := d3
      subst d3
      go_simp
      refine (nNext (r := n1) q1.top (by rw [q1.rk]; exact HN1.out)).mono ?_
      rintro ee wk ⟨K5, s5, M5, E5, rfl, q5, B⟩
      exact hK.out _ _ ⟨K5, s5, M5, E5, rfl, q5⟩ B
    refine Jo.jcons (i := 5) (o := ⟨some 10, _, _, _, _, _⟩) (di := some 10) (L := [(some 7, 2), (some 9, 4)]) (f := Jo.Fact.eq (.bool true)) rfl rfl rfl rfl (fun vs wj hJ hd K hK => ?_) ?_
    · have d2 : (Jo.Fact.num n1).P (vs 2) wj := hd 2 (by decide)
      have d4 : (Jo.Fact.num n1).P (vs 4) wj := hd 4 (by decide)
      clear hd
      simp only [Jo.putl, List.foldl_cons, List.foldl_nil, Act.put, List.setIfInBounds_toArray, List.set_cons_zero, List.set_cons_succ] at hK ⊢
      generalize vs 2 = u2 at hK d2 ⊢
      generalize vs 4 = u4 at hK d4 ⊢
      obtain ⟨K4, s4, M4, E4, rfl, q4⟩ := d2
      obtain ⟨K5, s5, M5, E5, rfl, q5⟩ := d4
      obtain ⟨rfl, rfl, rfl, rfl⟩ := q4.uniq q5
      go_simp
      exact hK.out _ _ (by first | rfl | (show Value.bool _ = Value.bool _; simp)) (Below.refl _ _)
    refine Jo.jcons (i := 6) (o := ⟨some 11, _, _, _, _, _⟩) (di := some 11) (L := [(some 10, 5)]) (f := Jo.Fact.eq (.bool true)) rfl rfl rfl rfl (fun vs wj hJ hd K hK => ?_) ?_
    · have d5 : (Jo.Fact.eq (.bool true)).P (vs 5) wj := hd 5 (by decide)
      clear hd
      simp only [Jo.putl, List.foldl_cons, List.foldl_nil, Act.put, List.setIfInBounds_toArray, List.set_cons_zero, List.set_cons_succ] at hK ⊢
      generalize vs 5 = u5 at hK d5 ⊢
      replace d5 : u5 = _ := d5
      subst d5
      go_simp
      exact hK.out _ _ rfl (Below.refl _ _)
    refine Jo.jcons (i := 7) (o := ⟨some 12, _, _, _, _, _⟩) (di := some 12) (L := [(some 11, 6)]) (f := Jo.Fact.eq (.agg #[.int .i64 1, .bool false, .int .u64 9223372036854775808, .int .i64 (-63)])) rfl rfl rfl rfl (fun vs wj hJ hd K hK => ?_) ?_
    · have d6 : (Jo.Fact.eq (.bool true)).P (vs 6) wj := hd 6 (by decide)
      clear hd
      simp only [Jo.putl, List.foldl_cons, List.foldl_nil, Act.put, List.setIfInBounds_toArray, List.set_cons_zero, List.set_cons_succ] at hK ⊢
      generalize vs 6 = u6 at hK d6 ⊢
      replace d6 : u6 = _ := d6
      subst d6
      have xX10 : World.cell? wj ⟨w1.heap.size, 0, none⟩ = some (.int .i64 1) := (X1.below hJ).cell 0
      have xX11 : World.cell? wj ⟨w1.heap.size, 1, none⟩ = some (.bool false) := (X1.below hJ).cell 1
      have xX12 : World.cell? wj ⟨w1.heap.size, 2, none⟩ = some (.int .u64 9223372036854775808) := (X1.below hJ).cell 2
      have xX13 : World.cell? wj ⟨w1.heap.size, 3, none⟩ = some (.int .i64 (-63)) := (X1.below hJ).cell 3
      go_simp
      exact hK.out _ _ rfl (Below.refl _ _)
    refine Jo.jcons (i := 8) (o := ⟨some 13, _, _, _, _, _⟩) (di := some 13) (L := [(some 11, 6)]) (f := Jo.Fact.eq (.agg #[.int .i64 1, .bool false, .int .u64 9223372036854775808, .int .i64 (-133)])) rfl rfl rfl rfl (fun vs wj hJ hd K hK => ?_) ?_
    · have d6 : (Jo.Fact.eq (.bool true)).P (vs 6) wj := hd 6 (by decide)
      clear hd
      simp only [Jo.putl, List.foldl_cons, List.foldl_nil, Act.put, List.setIfInBounds_toArray, List.set_cons_zero, List.set_cons_succ] at hK ⊢
      generalize vs 6 = u6 at hK d6 ⊢
      replace d6 : u6 = _ := d6
      subst d6
      have xX20 : World.cell? wj ⟨w2.heap.size, 0, none⟩ = some (.int .i64 1) := (X2.below hJ).cell 0
      have xX21 : World.cell? wj ⟨w2.heap.size, 1, none⟩ = some (.bool false) := (X2.below hJ).cell 1
      have xX22 : World.cell? wj ⟨w2.heap.size, 2, none⟩ = some (.int .u64 9223372036854775808) := (X2.below hJ).cell 2
      have xX23 : World.cell? wj ⟨w2.heap.size, 3, none⟩ = some (.int .i64 (-133)) := (X2.below hJ).cell 3
      go_simp
      exact hK.out _ _ rfl (Below.refl _ _)
    refine Jo.jcons (i := 9) (o := ⟨some 14, _, _, _, _, _⟩) (di := some 14) (L := [(some 11, 6), (some 12, 7), (some 13, 8)]) (f := Jo.Fact.num p1) rfl rfl rfl rfl (fun vs wj hJ hd K hK => ?_) ?_
    · have d6 : (Jo.Fact.eq (.bool true)).P (vs 6) wj := hd 6 (by decide)
      have d7 : (Jo.Fact.eq (.agg #[.int .i64 1, .bool false, .int .u64 9223372036854775808, .int .i64 (-63)])).P (vs 7) wj := hd 7 (by decide)
      have d8 : (Jo.Fact.eq (.agg #[.int .i64 1, .bool false, .int .u64 9223372036854775808, .int .i64 (-133)])).P (vs 8) wj := hd 8 (by decide)
      clear hd
      simp only [Jo.putl, List.foldl_cons, List.foldl_nil, Act.put, List.setIfInBounds_toArray, List.set_cons_zero, List.set_cons_succ] at hK ⊢
      generalize vs 6 = u6 at hK d6 ⊢
      generalize vs 7 = u7 at hK d7 ⊢
      generalize vs 8 = u8 at hK d8 ⊢
      replace d6 : u6 = _ := d6
      subst d6
      replace d7 : u7 = _ := d7
      subst d7
      replace d8 : u8 = _ := d8
      subst d8
      go_simp
      refine (aAdd (hT.below hJ) q1.top qs.top q1.rk qs.rk HA2.out).mono ?_
      rintro ee wk ⟨K6, s6, M6, E6, rfl, q6, B⟩
      exact hK.out _ _ ⟨K6, s6, M6, E6, rfl, q6⟩ B
    refine Jo.jcons (i := 10) (o := ⟨some 15, _, _, _, _, _⟩) (di := some 15) (L := [(some 11, 6)]) (f := Jo.Fact.eq (.agg #[.int .i64 1, .bool false, .int .u64 9223372036854775808, .int .i64 (-63)])) rfl rfl rfl rfl (fun vs wj hJ hd K hK => ?_) ?_
    · have d6 : (Jo.Fact.eq (.bool true)).P (vs 6) wj := hd 6 (by decide)
      clear hd
      simp only [Jo.putl, List.foldl_cons, List.foldl_nil, Act.put, List.setIfInBounds_toArray, List.set_cons_zero, List.set_cons_succ] at hK ⊢
      generalize vs 6 = u6 at hK d6 ⊢
      replace d6 : u6 = _ := d6
      subst d6
      have xX10 : World.cell? wj ⟨w1.heap.size, 0, none⟩ = some (.int .i64 1) := (X1.below hJ).cell 0
      have xX11 : World.cell? wj ⟨w1.heap.size, 1, none⟩ = some (.bool false) := (X1.below hJ).cell 1
      have xX12 : World.cell? wj ⟨w1.heap.size, 2, none⟩ = some (.int .u64 9223372036854775808) := (X1.below hJ).cell 2
      have xX13 : World.cell? wj ⟨w1.heap.size, 3, none⟩ = some (.int .i64 (-63)) := (X1.below hJ).cell 3
      go_simp
      exact hK.out _ _ rfl (Below.refl _ _)
    refine Jo.jcons (i := 11) (o := ⟨some 16, _, _, _, _, _⟩) (di := some 16) (L := [(some 11, 6), (some 14, 9), (some 15, 10)]) (f := Jo.Fact.eq (.bool true)) rfl rfl rfl rfl (fun vs wj hJ hd K hK => ?_) ?_
    · have d6 : (Jo.Fact.eq (.bool true)).P (vs 6) wj := hd 6 (by decide)
      have d9 : (Jo.Fact.num p1).P (vs 9) wj := hd 9 (by decide)
      have d10 : (Jo.Fact.eq (.agg #[.int .i64 1, .bool false, .int .u64 9223372036854775808, .int .i64 (-63)])).P (vs 10) wj := hd 10 (by decide)
      clear hd
      simp only [Jo.putl, List.foldl_cons, List.foldl_nil, Act.put, List.setIfInBounds_toArray, List.set_cons_zero, List.set_cons_succ] at hK ⊢
      generalize vs 6 = u6 at hK d6 ⊢
      generalize vs 9 = u9 at hK d9 ⊢
      generalize vs 10 = u10 at hK d10 ⊢
      replace d6 : u6 = _ := d6
      subst d6
      obtain ⟨K6, s6, M6, E6, rfl, q6⟩ := d9
      replace d10 : u10 = _ := d10
      subst d10
      obtain ⟨rfl, rfl, rfl, rfl⟩ := q6.uniq q1
      go_simp
      exact hK.out _ _ (by first | rfl | (show Value.bool _ = Value.bool _; simp)) (Below.refl _ _)
    refine Jo.jcons (i := 12) (o := ⟨some 17, _, _, _, _, _⟩) (di := some 17) (L := [(some 11, 6), (some 16, 11)]) (f := Jo.Fact.eq (.bool true)) rfl rfl rfl rfl (fun vs wj hJ hd K hK => ?_) ?_
    · have d6 : (Jo.Fact.eq (.bool true)).P (vs 6) wj := hd 6 (by decide)
      have d11 : (Jo.Fact.eq (.bool true)).P (vs 11) wj := hd 11 (by decide)
      clear hd
      simp only [Jo.putl, List.foldl_cons, List.foldl_nil, Act.put, List.setIfInBounds_toArray, List.set_cons_zero, List.set_cons_succ] at hK ⊢
      generalize vs 6 = u6 at hK d6 ⊢
      generalize vs 11 = u11 at hK d11 ⊢
      replace d6 : u6 = _ := d6
      subst d6
      replace d11 : u11 = _ := d11
      subst d11
      go_simp
      exact hK.out _ _ rfl (Below.refl _ _)
    refine Jo.jcons (i := 13) (o := ⟨some 18, _, _, _, _, _⟩) (di := some 18) (L := [(some 17, 12)]) (f := Jo.Fact.eq (.bool true)) rfl rfl rfl rfl (fun vs wj hJ hd K hK => ?_) ?_
    · have d12 : (Jo.Fact.eq (.bool true)).P (vs 12) wj := hd 12 (by decide)
      clear hd
      simp only [Jo.putl, List.foldl_cons, List.foldl_nil, Act.put, List.setIfInBounds_toArray, List.set_cons_zero, List.set_cons_succ] at hK ⊢
      generalize vs 12 = u12 at hK d12 ⊢
      replace d12 : u12 = _ := d12
      subst d12
      go_simp
      exact hK.out _ _ rfl (Below.refl _ _)
    refine Jo.jcons (i := 14) (o := ⟨some 19, _, _, _, _, _⟩) (di := some 19) (L := [(some 18, 13)]) (f := Jo.Fact.eq (.pointer (some ⟨w1.heap.size, 0, none⟩))) rfl rfl rfl rfl (fun vs wj hJ hd K hK => ?_) ?_
    · have d13 : (Jo.Fact.eq (.bool true)).P (vs 13) wj := hd 13 (by decide)
      clear hd
      simp only [Jo.putl, List.foldl_cons, List.foldl_nil, Act.put, List.setIfInBounds_toArray, List.set_cons_zero, List.set_cons_succ] at hK ⊢
      generalize vs 13 = u13 at hK d13 ⊢
      replace d13 : u13 = _ := d13
      subst d13
      go_simp
      exact hK.out _ _ rfl (Below.refl _ _)
    refine Jo.jcons (i := 15) (o := ⟨some 20, _, _, _, _, _⟩) (di := some 20) (L := [(some 18, 13), (some 19, 14)]) (f := Jo.Fact.eq (.int .i64 1)) rfl rfl rfl rfl (fun vs wj hJ hd K hK => ?_) ?_
    · have d13 : (Jo.Fact.eq (.bool true)).P (vs 13) wj := hd 13 (by decide)
      have d14 : (Jo.Fact.eq (.pointer (some ⟨w1.heap.size, 0, none⟩))).P (vs 14) wj := hd 14 (by decide)
      clear hd
      simp only [Jo.putl, List.foldl_cons, List.foldl_nil, Act.put, List.setIfInBounds_toArray, List.set_cons_zero, List.set_cons_succ] at hK ⊢
      generalize vs 13 = u13 at hK d13 ⊢
      generalize vs 14 = u14 at hK d14 ⊢
      replace d13 : u13 = _ := d13
      subst d13
      replace d14 : u14 = _ := d14
      subst d14
      have xX10 : World.cell? wj ⟨w1.heap.size, 0, none⟩ = some (.int .i64 1) := (X1.below hJ).cell 0
      have xX11 : World.cell? wj ⟨w1.heap.size, 1, none⟩ = some (.bool false) := (X1.below hJ).cell 1
      have xX12 : World.cell? wj ⟨w1.heap.size, 2, none⟩ = some (.int .u64 9223372036854775808) := (X1.below hJ).cell 2
      have xX13 : World.cell? wj ⟨w1.heap.size, 3, none⟩ = some (.int .i64 (-63)) := (X1.below hJ).cell 3
      go_simp
      exact hK.out _ _ rfl (Below.refl _ _)
    refine Jo.jcons (i := 16) (o := ⟨some 21, _, _, _, _, _⟩) (di := some 21) (L := [(some 18, 13), (some 20, 15)]) (f := Jo.Fact.eq (.bool true)) rfl rfl rfl rfl (fun vs wj hJ hd K hK => ?_) ?_
    · have d13 : (Jo.Fact.eq (.bool true)).P (vs 13) wj := hd 13 (by decide)
      have d15 : (Jo.Fact.eq (.int .i64 1)).P (vs 15) wj := hd 15 (by decide)
      clear hd
      simp only [Jo.putl, List.foldl_cons, List.foldl_nil, Act.put, List.setIfInBounds_toArray, List.set_cons_zero, List.set_cons_succ] at hK ⊢
      generalize vs 13 = u13 at hK d13 ⊢
      generalize vs 15 = u15 at hK d15 ⊢
      replace d13 : u13 = _ := d13
      subst d13
      replace d15 : u15 = _ := d15
      subst d15
      go_simp
      exact hK.out _ _ (by first | rfl | (show Value.bool _ = Value.bool _; simp)) (Below.refl _ _)
    refine Jo.jcons (i := 17) (o := ⟨some 22, _, _, _, _, _⟩) (di := some 22) (L := [(some 18, 13), (some 21, 16)]) (f := Jo.Fact.eq (.bool true)) rfl rfl rfl rfl (fun vs wj hJ hd K hK => ?_) ?_
    · have d13 : (Jo.Fact.eq (.bool true)).P (vs 13) wj := hd 13 (by decide)
      have d16 : (Jo.Fact.eq (.bool true)).P (vs 16) wj := hd 16 (by decide)
      clear hd
      simp only [Jo.putl, List.foldl_cons, List.foldl_nil, Act.put, List.setIfInBounds_toArray, List.set_cons_zero, List.set_cons_succ] at hK ⊢
      generalize vs 13 = u13 at hK d13 ⊢
      generalize vs 16 = u16 at hK d16 ⊢
      replace d13 : u13 = _ := d13
      subst d13
      replace d16 : u16 = _ := d16
      subst d16
      go_simp
      exact hK.out _ _ rfl (Below.refl _ _)
    refine Jo.jcons (i := 18) (o := ⟨some 23, _, _, _, _, _⟩) (di := some 23) (L := [(some 22, 17)]) (f := Jo.Fact.eq (.bool true)) rfl rfl rfl rfl (fun vs wj hJ hd K hK => ?_) ?_
    · have d17 : (Jo.Fact.eq (.bool true)).P (vs 17) wj := hd 17 (by decide)
      clear hd
      simp only [Jo.putl, List.foldl_cons, List.foldl_nil, Act.put, List.setIfInBounds_toArray, List.set_cons_zero, List.set_cons_succ] at hK ⊢
      generalize vs 17 = u17 at hK d17 ⊢
      replace d17 : u17 = _ := d17
      subst d17
      go_simp
      exact hK.out _ _ rfl (Below.refl _ _)
    refine Jo.jcons (i := 19) (o := ⟨some 24, _, _, _, _, _⟩) (di := some 24) (L := [(some 23, 18)]) (f := Jo.Fact.num i0) rfl rfl rfl rfl (fun vs wj hJ hd K hK => ?_) ?_
    · have d18 : (Jo.Fact.eq (.bool true)).P (vs 18) wj := hd 18 (by decide)
      clear hd
      simp only [Jo.putl, List.foldl_cons, List.foldl_nil, Act.put, List.setIfInBounds_toArray, List.set_cons_zero, List.set_cons_succ] at hK ⊢
      generalize vs 18 = u18 at hK d18 ⊢
      replace d18 : u18 = _ := d18
      subst d18
      go_simp
      refine (nInf HI0.out).mono ?_
      rintro ee wk ⟨K7, s7, M7, E7, rfl, q7, B⟩
      exact hK.out _ _ ⟨K7, s7, M7, E7, rfl, q7⟩ B
    refine Jo.jcons (i := 20) (o := ⟨some 25, _, _, _, _, _⟩) (di := some 25) (L := [(some 23, 18)]) (f := Jo.Fact.num m2) rfl rfl rfl rfl (fun vs wj hJ hd K hK => ?_) ?_
    · have d18 : (Jo.Fact.eq (.bool true)).P (vs 18) wj := hd 18 (by decide)
      clear hd
      simp only [Jo.putl, List.foldl_cons, List.foldl_nil, Act.put, List.setIfInBounds_toArray, List.set_cons_zero, List.set_cons_succ] at hK ⊢
      generalize vs 18 = u18 at hK d18 ⊢
      replace d18 : u18 = _ := d18
      subst d18
      go_simp
      refine (nOf _ (by decide) (by decide) HO2.out).mono ?_
      rintro ee wk ⟨K8, s8, M8, E8, rfl, q8, B⟩
      exact hK.out _ _ ⟨K8, s8, M8, E8, rfl, q8⟩ B
    refine Jo.jcons (i := 21) (o := ⟨some 26, _, _, _, _, _⟩) (di := some 26) (L := [(some 23, 18), (some 24, 19), (some 25, 20)]) (f := Jo.Fact.num i2) rfl rfl rfl rfl (fun vs wj hJ hd K hK => ?_) ?_
    · have d18 : (Jo.Fact.eq (.bool true)).P (vs 18) wj := hd 18 (by decide)
      have d19 : (Jo.Fact.num i0).P (vs 19) wj := hd 19 (by decide)
      have d20 : (Jo.Fact.num m2).P (vs 20) wj := hd 20 (by decide)
      clear hd
      simp only [Jo.putl, List.foldl_cons, List.foldl_nil, Act.put, List.setIfInBounds_toArray, List.set_cons_zero, List.set_cons_succ] at hK ⊢
      generalize vs 18 = u18 at hK d18 ⊢
      generalize vs 19 = u19 at hK d19 ⊢
      generalize vs 20 = u20 at hK d20 ⊢
      replace d18 : u18 = _ := d18
      subst d18
      obtain ⟨K7, s7, M7, E7, rfl, q7⟩ := d19
      obtain ⟨K8, s8, M8, E8, rfl, q8⟩ := d20
      go_simp
      refine (aMul q7.top q8.top q7.rk q8.rk HM.out).mono ?_
      rintro ee wk ⟨K9, s9, M9, E9, rfl, q9, B⟩
      exact hK.out _ _ ⟨K9, s9, M9, E9, rfl, q9⟩ B
    refine Jo.jcons (i := 22) (o := ⟨some 27, _, _, _, _, _⟩) (di := some 27) (L := [(some 23, 18)]) (f := Jo.Fact.num i2) rfl rfl rfl rfl (fun vs wj hJ hd K hK => ?_) ?_
    · have d18 : (Jo.Fact.eq (.bool true)).P (vs 18) wj := hd 18 (by decide)
      clear hd
      simp only [Jo.putl, List.foldl_cons, List.foldl_nil, Act.put, List.setIfInBounds_toArray, List.set_cons_zero, List.set_cons_succ] at hK ⊢
      generalize vs 18 = u18 at hK d18 ⊢
      replace d18 : u18 = _ := d18
      subst d18
      go_simp
      refine (nInf HI2.out).mono ?_
      rintro ee wk ⟨K10, s10, M10, E10, rfl, q10, B⟩
      exact hK.out _ _ ⟨K10, s10, M10, E10, rfl, q10⟩ B
    refine Jo.jcons (i := 23) (o := ⟨some 28, _, _, _, _, _⟩) (di := some 28) (L := [(some 23, 18), (some 26, 21), (some 27, 22)]) (f := Jo.Fact.eq (.bool true)) rfl rfl rfl rfl (fun vs wj hJ hd K hK => ?_) ?_
    · have d18 : (Jo.Fact.eq (.bool true)).P (vs 18) wj := hd 18 (by decide)
      have d21 : (Jo.Fact.num i2).P (vs 21) wj := hd 21 (by decide)
      have d22 : (Jo.Fact.num i2).P (vs 22) wj := hd 22 (by decide)
      clear hd
      simp only [Jo.putl, List.foldl_cons, List.foldl_nil, Act.put, List.setIfInBounds_toArray, List.set_cons_zero, List.set_cons_succ] at hK ⊢
      generalize vs 18 = u18 at hK d18 ⊢
      generalize vs 21 = u21 at hK d21 ⊢
      generalize vs 22 = u22 at hK d22 ⊢
      replace d18 : u18 = _ := d18
      subst d18
      obtain ⟨K9, s9, M9, E9, rfl, q9⟩ := d21
      obtain ⟨K10, s10, M10, E10, rfl, q10⟩ := d22
      obtain ⟨rfl, rfl, rfl, rfl⟩ := q9.uniq q10
      go_simp
      exact hK.out _ _ (by first | rfl | (show Value.bool _ = Value.bool _; simp)) (Below.refl _ _)
    refine Jo.jcons (i := 24) (o := ⟨some 29, _, _, _, _, _⟩) (di := some 29) (L := [(some 23, 18), (some 28, 23)]) (f := Jo.Fact.eq (.bool true)) rfl rfl rfl rfl (fun vs wj hJ hd K hK => ?_) ?_
    · have d18 : (Jo.Fact.eq (.bool true)).P (vs 18) wj := hd 18 (by decide)
      have d23 : (Jo.Fact.eq (.bool true)).P (vs 23) wj := hd 23 (by decide)
      clear hd
      simp only [Jo.putl, List.foldl_cons, List.foldl_nil, Act.put, List.setIfInBounds_toArray, List.set_cons_zero, List.set_cons_succ] at hK ⊢
      generalize vs 18 = u18 at hK d18 ⊢
      generalize vs 23 = u23 at hK d23 ⊢
      replace d18 : u18 = _ := d18
      subst d18
      replace d23 : u23 = _ := d23
      subst d23
      go_simp
      exact hK.out _ _ rfl (Below.refl _ _)
    refine Jo.jcons (i := 25) (o := ⟨some 0, _, _, _, _, _⟩) (di := some 0) (L := [(some 29, 24)]) (f := Jo.Fact.eq (.bool true)) rfl rfl rfl rfl (fun vs wj hJ hd K hK => ?_) ?_
    · have d24 : (Jo.Fact.eq (.bool true)).P (vs 24) wj := hd 24 (by decide)
      clear hd
      simp only [Jo.putl, List.foldl_cons, List.foldl_nil, Act.put, List.setIfInBounds_toArray, List.set_cons_zero, List.set_cons_succ] at hK ⊢
      generalize vs 24 = u24 at hK d24 ⊢
      replace d24 : u24 = _ := d24
      subst d24
      go_simp
      exact hK.out _ _ rfl (Below.refl _ _)
    exact Jo.Steps.nil
  have d0 : (Jo.Fact.eq (.agg #[.int .i64 1, .bool false, .int .u64 9223372036854775808, .int .i64 (-63)])).P (vs 0) w4 := hd 0 (by decide)
  have d1 : (Jo.Fact.eq (.agg #[.int .i64 1, .bool false, .int .u64 9223372036854775808, .int .i64 (-133)])).P (vs 1) w4 := hd 1 (by decide)
  have d2 : (Jo.Fact.num n1).P (vs 2) w4 := hd 2 (by decide)
  have d3 : (Jo.Fact.eq (.agg #[.int .i64 1, .bool false, .int .u64 9223372036854775808, .int .i64 (-63)])).P (vs 3) w4 := hd 3 (by decide)
  have d4 : (Jo.Fact.num n1).P (vs 4) w4 := hd 4 (by decide)
  have d5 : (Jo.Fact.eq (.bool true)).P (vs 5) w4 := hd 5 (by decide)
  have d6 : (Jo.Fact.eq (.bool true)).P (vs 6) w4 := hd 6 (by decide)
  have d7 : (Jo.Fact.eq (.agg #[.int .i64 1, .bool false, .int .u64 9223372036854775808, .int .i64 (-63)])).P (vs 7) w4 := hd 7 (by decide)
  have d8 : (Jo.Fact.eq (.agg #[.int .i64 1, .bool false, .int .u64 9223372036854775808, .int .i64 (-133)])).P (vs 8) w4 := hd 8 (by decide)
  have d9 : (Jo.Fact.num p1).P (vs 9) w4 := hd 9 (by decide)
  have d10 : (Jo.Fact.eq (.agg #[.int .i64 1, .bool false, .int .u64 9223372036854775808, .int .i64 (-63)])).P (vs 10) w4 := hd 10 (by decide)
  have d11 : (Jo.Fact.eq (.bool true)).P (vs 11) w4 := hd 11 (by decide)
  have d12 : (Jo.Fact.eq (.bool true)).P (vs 12) w4 := hd 12 (by decide)
  have d13 : (Jo.Fact.eq (.bool true)).P (vs 13) w4 := hd 13 (by decide)
  have d14 : (Jo.Fact.eq (.pointer (some ⟨w1.heap.size, 0, none⟩))).P (vs 14) w4 := hd 14 (by decide)
  have d15 : (Jo.Fact.eq (.int .i64 1)).P (vs 15) w4 := hd 15 (by decide)
  have d16 : (Jo.Fact.eq (.bool true)).P (vs 16) w4 := hd 16 (by decide)
  have d17 : (Jo.Fact.eq (.bool true)).P (vs 17) w4 := hd 17 (by decide)
  have d18 : (Jo.Fact.eq (.bool true)).P (vs 18) w4 := hd 18 (by decide)
  have d19 : (Jo.Fact.num i0).P (vs 19) w4 := hd 19 (by decide)
  have d20 : (Jo.Fact.num m2).P (vs 20) w4 := hd 20 (by decide)
  have d21 : (Jo.Fact.num i2).P (vs 21) w4 := hd 21 (by decide)
  have d22 : (Jo.Fact.num i2).P (vs 22) w4 := hd 22 (by decide)
  have d23 : (Jo.Fact.eq (.bool true)).P (vs 23) w4 := hd 23 (by decide)
  have d24 : (Jo.Fact.eq (.bool true)).P (vs 24) w4 := hd 24 (by decide)
  have d25 : (Jo.Fact.eq (.bool true)).P (vs 25) w4 := hd 25 (by decide)
  clear hd
  simp only [Jo.putl, List.foldl_cons, List.foldl_nil, Act.put, List.setIfInBounds_toArray, List.set_cons_zero, List.set_cons_succ]
  generalize vs 0 = u0 at d0 ⊢
  generalize vs 1 = u1 at d1 ⊢
  generalize vs 2 = u2 at d2 ⊢
  generalize vs 3 = u3 at d3 ⊢
  generalize vs 4 = u4 at d4 ⊢
  generalize vs 5 = u5 at d5 ⊢
  generalize vs 6 = u6 at d6 ⊢
  generalize vs 7 = u7 at d7 ⊢
  generalize vs 8 = u8 at d8 ⊢
  generalize vs 9 = u9 at d9 ⊢
  generalize vs 10 = u10 at d10 ⊢
  generalize vs 11 = u11 at d11 ⊢
  generalize vs 12 = u12 at d12 ⊢
  generalize vs 13 = u13 at d13 ⊢
  generalize vs 14 = u14 at d14 ⊢
  generalize vs 15 = u15 at d15 ⊢
  generalize vs 16 = u16 at d16 ⊢
  generalize vs 17 = u17 at d17 ⊢
  generalize vs 18 = u18 at d18 ⊢
  generalize vs 19 = u19 at d19 ⊢
  generalize vs 20 = u20 at d20 ⊢
  generalize vs 21 = u21 at d21 ⊢
  generalize vs 22 = u22 at d22 ⊢
  generalize vs 23 = u23 at d23 ⊢
  generalize vs 24 = u24 at d24 ⊢
  generalize vs 25 = u25 at d25 ⊢
  clear vs
  replace d0 : u0 = _ := d0
  subst d0
  replace d1 : u1 = _ := d1
  subst d1
  obtain ⟨K4, s4, M4, E4, rfl, _⟩ := d2
  replace d3 : u3 = _ := d3
  subst d3
  obtain ⟨K5, s5, M5, E5, rfl, _⟩ := d4
  replace d5 : u5 = _ := d5
  subst d5
  replace d6 : u6 = _ := d6
  subst d6
  replace d7 : u7 = _ := d7
  subst d7
  replace d8 : u8 = _ := d8
  subst d8
  obtain ⟨K6, s6, M6, E6, rfl, _⟩ := d9
  replace d10 : u10 = _ := d10
  subst d10
  replace d11 : u11 = _ := d11
  subst d11
  replace d12 : u12 = _ := d12
  subst d12
  replace d13 : u13 = _ := d13
  subst d13
  replace d14 : u14 = _ := d14
  subst d14
  replace d15 : u15 = _ := d15
  subst d15
  replace d16 : u16 = _ := d16
  subst d16
  replace d17 : u17 = _ := d17
  subst d17
  replace d18 : u18 = _ := d18
  subst d18
  obtain ⟨K7, s7, M7, E7, rfl, _⟩ := d19
  obtain ⟨K8, s8, M8, E8, rfl, _⟩ := d20
  obtain ⟨K9, s9, M9, E9, rfl, _⟩ := d21
  obtain ⟨K10, s10, M10, E10, rfl, _⟩ := d22
  replace d23 : u23 = _ := d23
  subst d23
  replace d24 : u24 = _ := d24
  subst d24
  replace d25 : u25 = _ := d25
  subst d25
  replace X1 := X1.below hJ
  replace X2 := X2.below hJ
  replace hT := hT.below hJ
  replace HB := Lib.hid (bt HB.out hJ)
  refine Jo.jdone (by kernel_rfl) ?_
  go_wp2
  go_ret
  exact ⟨rfl, HB.out⟩
/-- Is its exponent from -1500 to 1500, or has it none? -/
def fewq (D E : Int) : Bool := decide (D ≠ 1) || (decide (-1500 ≤ E) && decide (E ≤ 1500))
set_option maxHeartbeats 2000000 in
theorem aFew {w : World} {D M E : Int} {s : Bool} {r : Bool} (hr : fewq D E = r) : Calls Tryd.prog 12 #[.agg #[.int .i64 D, .bool s, .int .u64 M, .int .i64 E]] w (PB w r) := by
  unfold fewq at hr
  by_cases h1 : D ≠ 1
  · rw [show decide (D ≠ 1) = true from decide_eq_true h1, Bool.true_or] at hr
    subst hr
    have e1 : (D == 1) = false := by simpa using h1
    have e2 : (D = 1) = False := by simpa using h1
    clear h1
    go_enter Tryd.func12, Tryd.ntmps12
    go_upto_region 1 with (fail)
    have X1 := (Bo.newAt w (g := w.heap.size) (by simp) #[.int .i64 D, .bool s, .int .u64 M, .int .i64 E] 24)
    have HB := Lib.hid (bel1 w (.cells #[.int .i64 D, .bool s, .int .u64 M, .int .i64 E] 24))
    generalize hW1 : (w.alloc (.cells #[.int .i64 D, .bool s, .int .u64 M, .int .i64 E] 24)) = w1 at *
    clear hW1
    have xX10 := X1.at (i := 0) (v := .int .i64 D) rfl
    have xX11 := X1.at (i := 1) (v := .bool s) rfl
    have xX12 := X1.at (i := 2) (v := .int .u64 M) rfl
    have xX13 := X1.at (i := 3) (v := .int .i64 E) rfl
    go_wp2
    go_ret
    exact ⟨rfl, HB.out⟩
  · have h1 : D = 1 := by omega
    subst h1
    rw [show decide ((1 : Int) ≠ 1) = false by decide, Bool.false_or] at hr
    by_cases h2 : ¬ -1500 ≤ E
    · rw [decide_eq_false h2, Bool.false_and] at hr
      subst hr
      go_enter Tryd.func12, Tryd.ntmps12
      go_upto_region 1 with (fail)
      have X1 := (Bo.newAt w (g := w.heap.size) (by simp) #[.int .i64 1, .bool s, .int .u64 M, .int .i64 E] 24)
      have HB := Lib.hid (bel1 w (.cells #[.int .i64 1, .bool s, .int .u64 M, .int .i64 E] 24))
      generalize hW1 : (w.alloc (.cells #[.int .i64 1, .bool s, .int .u64 M, .int .i64 E] 24)) = w1 at *
      clear hW1
      have xX10 := X1.at (i := 0) (v := .int .i64 1) rfl
      have xX11 := X1.at (i := 1) (v := .bool s) rfl
      have xX12 := X1.at (i := 2) (v := .int .u64 M) rfl
      have xX13 := X1.at (i := 3) (v := .int .i64 E) rfl
      go_wp2
      go_ret
      exact ⟨rfl, HB.out⟩
    · have h2 : -1500 ≤ E := by omega
      rw [decide_eq_true h2, Bool.true_and] at hr
      subst hr
      go_enter Tryd.func12, Tryd.ntmps12
      go_upto_region 1 with (fail)
      have X1 := (Bo.newAt w (g := w.heap.size) (by simp) #[.int .i64 1, .bool s, .int .u64 M, .int .i64 E] 24)
      have HB := Lib.hid (bel1 w (.cells #[.int .i64 1, .bool s, .int .u64 M, .int .i64 E] 24))
      generalize hW1 : (w.alloc (.cells #[.int .i64 1, .bool s, .int .u64 M, .int .i64 E] 24)) = w1 at *
      clear hW1
      have xX10 := X1.at (i := 0) (v := .int .i64 1) rfl
      have xX11 := X1.at (i := 1) (v := .bool s) rfl
      have xX12 := X1.at (i := 2) (v := .int .u64 M) rfl
      have xX13 := X1.at (i := 3) (v := .int .i64 E) rfl
      go_wp2
      go_ret
      exact ⟨rfl, HB.out⟩
end Go.Proofs.YtbhnpmkdmnnclaaDoor

/-
  What the statements of layer 6 rest on: products by what is below nought, twice and half, sums on the way, both sides of exact sums and products. Plain arithmetic; no Go text.
-/
namespace Go.Proofs.YtbhnpmkdmnnclaaDoor
open Go.RowKit
set_option linter.unusedVariables false

/-- Neither too far nor too near, or infinite. -/
def Fz (x : Int) (h : Nat) : Prop := infp x = true ∨ Fit h (ep x)
theorem Fz.mono {x : Int} {h k : Nat} (f : Fz x h) (hk : h ≤ k) : Fz x k := f.imp id fun g => g.mono hk
theorem Fz.zero (h : Nat) : Fz 0 h := .inr (by rw [ep_zero]; exact Fit.zero h)
theorem few_fz {D : Int} {s : Bool} {M E : Int} (hM : M < 18446744073709551616) (hf : fewq D E = true) : Fz (rk D s M E) 1600 := by
  by_cases hm : MayQ D s M E
  · have q := rk_fq hM hm
    revert q
    generalize rk D s M E = x
    intro q
    rcases q.cases with ⟨_, _, _, _, h0⟩ | ⟨rfl, h1, h2, h3, h4, _⟩ | ⟨rfl, _⟩
    · subst h0
      exact Fz.zero _
    · obtain ⟨_, hb, he⟩ := fq_fin q (by decide)
      have hb2 : -1500 ≤ E ∧ E ≤ 1500 := by
        unfold fewq at hf
        simpa using hf
      right
      rw [← he]
      unfold exq
      rw [if_pos hb]
      obtain ⟨η, hη⟩ : ∃ η : Nat, η = 1600 := ⟨_, rfl⟩
      rw [← hη]
      refine (mk_fit (h := η) (by omega) (by omega) ?_).1
      rw [sgi_abs s (by omega)]
      have : M.toNat < 2 ^ 64 := by omega
      have := Nat.mul_lt_mul_of_pos_right this (Nat.pow_pos (n := (E + (η : Int)).toNat) (show 0 < 2 by decide))
      rw [← Nat.pow_add] at this
      exact Nat.lt_of_lt_of_le this (Nat.pow_le_pow_right (by decide) (by omega))
    · left
      rw [fq_inf q]
      rfl
  · rw [rk_not hm]
    exact Fz.zero _
theorem huge_ge {h : Nat} (hh : h ≤ 1000000) : (2 : Int) ^ h * 2 ^ KK ≤ vr 19342822337206103650074624 := by
  have e := vp_fin (M := 18446744073709551615) (E := 1048576) (by decide) (by decide) (by decide)
  rw [show (18446744073709551615 : Int) - 9223372036854775808 + 1 + (1048576 + 1048576) * 9223372036854775808 = 19342822337206103650074624 by decide] at e
  have ev : vr 19342822337206103650074624 = vp 19342822337206103650074624 := by
    unfold vr
    rw [if_neg (by decide)]
  rw [ev, e, ← Int.pow_add]
  have l1 := p2_le (show h + KK ≤ (1048576 + (KK : Int)).toNat by rw [KK_eq]; omega)
  have l2 := p2pos (1048576 + (KK : Int)).toNat
  have l3 : (1 : Int) * 2 ^ (1048576 + (KK : Int)).toNat ≤ 18446744073709551615 * 2 ^ (1048576 + (KK : Int)).toNat := Int.mul_le_mul_of_nonneg_right (by decide) (Int.le_of_lt l2)
  omega
/-- Both sides of an exact number that is not too far. -/
theorem fit_tight {P : Int × Int} {h : Nat} (hh : h ≤ 1000000) (f : Fit h P) :
    ∃ r r', rnd false P.1 P.2 = r ∧ rnd true P.1 P.2 = r' ∧ -19342822337206103650074625 < r ∧ r < 19342822337206103650074625 ∧ -19342822337206103650074625 < r' ∧ r' < 19342822337206103650074625 ∧ ((r' = r ∧ vr r = vl P) ∨ (r' = r + 1 ∧ vr r < vl P ∧ vl P < vr r')) := by
  obtain ⟨a, b⟩ := vl_lt (by omega) f
  have c := huge_ge hh
  have d := vr_neg 19342822337206103650074624
  exact tight f.nf (by omega) (by omega)
end Go.Proofs.YtbhnpmkdmnnclaaDoor
