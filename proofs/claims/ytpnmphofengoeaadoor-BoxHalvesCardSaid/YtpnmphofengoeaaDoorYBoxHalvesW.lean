/-
  The walk of BoxHalves: for all arguments the call answers true, and nothing that was there has turned.
-/
import Derived.Below
import Derived.BigQuiet
import Derived.Carry
import Derived.Deep.DeepCutAuto
import Derived.Deep.Draws
import Derived.Deep.MidRow
import Derived.Deep.QuietTactic
import Derived.Deep.RegionHeld3
import Derived.Deep.RegionWith
import Derived.IntWalk
import Derived.Laws.Bits64b
import Derived.Laws.CopyOwn
import Derived.Laws.CopyRow
import Derived.Laws.Externs
import Derived.Laws.MakeOwn
import Derived.Laws.OwnMore
import Derived.Laws.Rows
import Derived.Lib.BitFns
import Derived.Lib.Hide
import Derived.Lib.Mul64
import Derived.Lib.SliceRun
import Derived.Lib.TrailingZeros
import Derived.LoopIn
import Derived.LoopNIn
import Derived.Maps.AppendAt
import Derived.OwnWalkIn
import Derived.RangeFuncBound
import Derived.RangeFuncCalls
import Derived.RangeFuncLeaves
import Derived.RangeFuncNested
import Derived.Shelf.Abstract
import Derived.StillTailTactics
import Derived.Stop.RegionWithIn
import Derived.TacticsInMore
import Derived.Test.YtpnmphofengoeaaDoorRows
import Derived.WalkKit
import Derived.WalkLawsBesides
import Derived.WalkSpells
import Derived.Test.YtpnmphofengoeaaDoorYHbb
namespace Go.Proofs.YtpnmphofengoeaaDoor
set_option maxHeartbeats 1500000
open Go.RowKit
set_option linter.unusedVariables false
set_option linter.unusedSimpArgs false
set_option maxRecDepth 100000

theorem row_keep {rb rx : List V9} {i : Nat} {z : Sp} (hb : ∀ v ∈ rb, topV v) (he : bxEmp (rb.map rkV) = false) (hi : i < rb.length) (hl : rx.length = rb.length) (hx : ∀ k v, rx[k]? = some v → ciV v (((rb.map rkV).set i z).getD k none)) (k : Nat) (hk : k ≠ i) : rx[k]? = rb[k]? := by
  rcases h : rx[k]? with _ | u
  · rw [List.getElem?_eq_none_iff] at h; rw [List.getElem?_eq_none (by omega)]
  · have hk2 : k < rx.length := (List.getElem?_eq_some_iff.1 h).1
    have h' : rb[k]? = some rb[k] := List.getElem?_eq_getElem (by omega)
    have c := hx k u h; rw [set_getD (by rw [List.length_map]; exact hi), if_neg hk] at c
    have e : (rb.map rkV).getD k none = rkV rb[k] := by
      rw [List.getD_eq_getElem?_getD, List.getElem?_map, h']
      rfl
    have d := topV_ci (hb _ (List.mem_of_getElem? h')) (by rw [← e]; exact getD_some he (by rw [List.length_map]; omega)); rw [e] at c; rw [h', ciV_uniq c d]
theorem row_cut {rb rx : List V9} {i : Nat} {z : Sp} (hi : i < rb.length) (hl : rx.length = rb.length) (hx : ∀ k v, rx[k]? = some v → ciV v (((rb.map rkV).set i z).getD k none)) : ∃ v, rx[i]? = some v ∧ ciV v z := by
  have h' : rx[i]? = some rx[i] := List.getElem?_eq_getElem (by omega)
  have c := hx i _ h'; rw [set_getD (by rw [List.length_map]; exact hi), if_pos rfl] at c; exact ⟨_, h', c⟩
theorem ciV_two {u v : V9} {a b c : Int} (h : ciV u (some (a, b))) (k : ciV v (some (a, c))) : u.1 = v.1 ∧ u.2.1 = v.2.1 ∧ u.2.2.1 = v.2.2.1 ∧ u.2.2.2.1 = v.2.2.2.1 ∧ u.2.2.2.2.1 = v.2.2.2.2.1 := by
  obtain ⟨e, D, s, M, E, D', s', M', E'⟩ := u; obtain ⟨e2, D2, s2, M2, E2, D2', s2', M2', E2'⟩ := v; obtain ⟨rfl, h1, _⟩ := h; obtain ⟨rfl, k1, _⟩ := k; obtain ⟨rfl, rfl, rfl, rfl⟩ := h1.uniq k1; exact ⟨rfl, rfl, rfl, rfl, rfl⟩
theorem boxHalves_far (a0 : Option Addr) (len0 cap0 : Nat) (w : World) (hT : Tb w) (h0 : decide ((20 : Int) < (len0 : Int)) = true) :
    Calls Tryd.prog 6 #[.slice a0 len0 cap0] w (PB w true) := by
  go_enter Tryd.func6, Tryd.ntmps6
  have HB := Lib.hid (Below.refl w.heap.size w)
  go_wp2_with fail
  refine (awake14 hT).mono ?_; rintro ee w2 ⟨rfl, B⟩; replace hT := hT.below B; replace HB := Hqb HB B; clear B; go_wp2
  go_ret
  exact ⟨rfl, HB.out⟩
theorem boxHalves_emp (a0 : Option Addr) (len0 cap0 : Nat) (w : World) (l : List Sp) (hT : Tb w) (h0 : decide ((20 : Int) < (len0 : Int)) = false) (hl : Il8 w a0 len0 cap0 l) (h1 : bxEmp l = true) :
    Calls Tryd.prog 6 #[.slice a0 len0 cap0] w (PB w true) := by
  have HW := Lib.hid (bxWidest_neg (.inl h1)); have H1 := Lib.hid h1; clear h1
  go_enter Tryd.func6, Tryd.ntmps6
  have HB := Lib.hid (Below.refl w.heap.size w)
  go_wp2_with fail
  refine (awake14 hT).mono ?_; rintro ee w2 ⟨rfl, B⟩; replace hT := hT.below B; replace hl := hl.below B; replace HB := Hqb HB B; clear B
  go_wp2_with fail
  refine (kxWidest hT hl HW.out).mono ?_; rintro ee w3 ⟨rfl, B⟩; replace hT := hT.below B; replace hl := hl.below B; replace HB := Hqb HB B; clear B
  go_wp2_with fail
  refine (kxEmpty hl H1.out).mono ?_; rintro ee w4 ⟨rfl, B⟩; replace hT := hT.below B; replace hl := hl.below B; replace HB := Hqb HB B; clear B; go_wp2
  go_ret
  exact ⟨rfl, HB.out⟩
theorem boxHalves_nil (a0 : Option Addr) (cap0 : Nat) (w : World) (l : List Sp) (hT : Tb w) (hl : Il8 w a0 0 cap0 l) (h1 : bxEmp l = false) :
    Calls Tryd.prog 6 #[.slice a0 0 cap0] w (PB w true) := by
  have HW := Lib.hid (bxWidest_neg (.inr hl.1)); have H1 := Lib.hid h1; clear h1
  go_enter Tryd.func6, Tryd.ntmps6
  have HB := Lib.hid (Below.refl w.heap.size w)
  go_wp2_with fail
  refine (awake14 hT).mono ?_; rintro ee w2 ⟨rfl, B⟩; replace hT := hT.below B; replace hl := hl.below B; replace HB := Hqb HB B; clear B
  go_wp2_with fail
  refine (kxWidest hT hl HW.out).mono ?_; rintro ee w3 ⟨rfl, B⟩; replace hT := hT.below B; replace hl := hl.below B; replace HB := Hqb HB B; clear B
  go_wp2_with fail
  refine (kxEmpty hl H1.out).mono ?_; rintro ee w4 ⟨rfl, B⟩; replace hT := hT.below B; replace hl := hl.below B; replace HB := Hqb HB B; clear B; go_wp2
  go_ret
  exact ⟨rfl, HB.out⟩
theorem boxHalves_main (a0 : Option Addr) (len0 cap0 : Nat) (i : Nat) (w : World) (rb : List V9) (x y : List Sp) (α β m : Int) (Kb : Int) (sb : Bool) (Mb Eb Kc : Int) (sc : Bool) (Mc Ec : Int) (hT : Tb w) (qb : Iq w a0 len0 cap0 rb) (h0 : decide ((20 : Int) < (len0 : Int)) = false) (k0 : len0 ≤ 20) (hi : i < len0)
    (hw : bxWidest (rb.map rkV) = ((i : Nat) : Int)) (he : bxEmp (rb.map rkV) = false) (hvb : rb[i]? = some (false, Kb, sb, Mb, Eb, Kc, sc, Mc, Ec)) (cb : Ci false Kb sb Mb Eb Kc sc Mc Ec (some (α, β)))
    (hx : bxLo (rb.map rkV) i = x) (hy : bxHi (rb.map rkV) i = y) (ex : x = (rb.map rkV).set i (some (α, m))) (ey : y = (rb.map rkV).set i (some (m, β))) (ix : x.length = len0) (iy : y.length = len0) (hm : midI (some (α, β)) = m)
    (k1 : witI (some (α, m)) (some (α, β)) = true) (k2 : witI (some (m, β)) (some (α, β)) = true) (k3 : hullL [some (α, m), some (m, β)] = some (α, β)) :
    Calls Tryd.prog 6 #[.slice a0 len0 cap0] w (PB w true) := by
  have i1 : ((i : Nat) : Int) < len0 := by omega
  have i2 : (0 : Int) ≤ ((i : Nat) : Int) := by omega
  have t0 : decide (((i : Nat) : Int) < 0) = false := by simp
  have HTOP := Lib.hid qb.top; have hrl := qb.len; have HW := Lib.hid hw; have HE := Lib.hid he; have HVB := Lib.hid hvb; have HX := Lib.hid hx; have HY := Lib.hid hy; have EX := Lib.hid ex; have EY := Lib.hid ey; have HM := Lib.hid hm; have KW1 := Lib.hid k1; have KW2 := Lib.hid k2; have KW3 := Lib.hid k3; clear hw he hvb hx hy ex ey hm k1 k2 k3
  go_enter Tryd.func6, Tryd.ntmps6
  have HB := Lib.hid (Below.refl w.heap.size w)
  go_wp2_with fail
  refine (awake14 hT).mono ?_; rintro ee w2 ⟨rfl, B⟩; replace hT := hT.below B; replace qb := qb.below B; replace HB := Hqb HB B; clear B
  go_wp2_with fail
  refine (kxWidest hT qb.il HW.out).mono ?_; rintro ee w3 ⟨rfl, B⟩; replace hT := hT.below B; replace qb := qb.below B; replace HB := Hqb HB B; clear B
  go_wp2_with fail
  refine (kxSplit_n hT qb (by omega) hi HX.out HY.out ix iy).mono ?_; rintro ee w4 ⟨A1, c1, A2, c2, rfl, N1, N2, B⟩; replace hT := hT.below B; replace qb := qb.below B; replace HB := Hqb HB B; clear B; obtain ⟨rx, ox, _, gx⟩ := N1.io; obtain ⟨ry, oy, _, gy⟩ := N2.io; have qx := ox.iq (by omega); have qy := oy.iq (by omega); clear ox oy N1 N2; rw [EX.out] at gx; rw [EY.out] at gy; have lx := qx.len
  have ly := qy.len; have KX := Lib.hid (row_keep HTOP.out HE.out (by omega) (by omega) gx); have KY := Lib.hid (row_keep HTOP.out HE.out (by omega) (by omega) gy); obtain ⟨⟨e1, K1, s1, M1, E1, K1b, s1b, M1b, E1b⟩, hvx, cx⟩ := row_cut (by omega) (by omega) gx; obtain ⟨⟨e2, K2, s2, M2, E2, K2b, s2b, M2b, E2b⟩, hvy, cy⟩ := row_cut (by omega) (by omega) gy
  replace cx : Ci e1 K1 s1 M1 E1 K1b s1b M1b E1b (some (α, m)) := cx
  replace cy : Ci e2 K2 s2 M2 E2 K2b s2b M2b E2b (some (m, β)) := cy
  have HVX := Lib.hid hvx; have HVY := Lib.hid hvy; clear gx gy hvx hvy HX HY EX EY HTOP HE HW; obtain ⟨bb, ob, rfl, x0, x1, x2, x3, x4, x5, x6, x7, x8⟩ := qb.at hi HVB.out
  go_wp2_with fail
  refine (kvMid hT cb.top.1 cb.top.2 cb.rk HM.out).mono ?_; rintro ee w5 ⟨K20, s20, M20, E20, rfl, q20, B⟩; replace hT := hT.below B; replace qb := qb.below B; replace qx := qx.below B; replace qy := qy.below B; replace HB := Hqb HB B; clear B; clear x0 x1 x2 x3 x4 x5 x6 x7 x8; obtain ⟨rfl, f1, f2, o1⟩ := cx; obtain ⟨rfl, f3, f4, o2⟩ := cy; obtain ⟨rfl, rfl, rfl, rfl⟩ := f2.uniq q20; obtain ⟨rfl, rfl, rfl, rfl⟩ := q20.uniq f3
  have cx : Ci false K1 s1 M1 E1 K1b s1b M1b E1b (some (α, m)) := ⟨rfl, f1, f2, o1⟩
  have cy : Ci false K1b s1b M1b E1b K2b s2b M2b E2b (some (m, β)) := ⟨rfl, f2, f4, o2⟩
  clear f1 f2 f3 f4 o1 o2 q20
  go_upto_region 9 with (fail)
  have lX4 := Nat.le_refl (World.heap w5).size; generalize hWn : w5.alloc _ = w6 at *; obtain ⟨X4, BW⟩ := Bo.nw hWn; clear hWn; replace hT := hT.below BW; replace qb := qb.below BW; replace qx := qx.below BW; replace qy := qy.below BW; replace HB := Hqb HB BW; clear BW; clear lX4; obtain ⟨bx, ox, ee1, y0, y1, y2, y3, y4, y5, y6, y7, y8⟩ := qx.at hi HVX.out; obtain ⟨by_, oy, ee2, z0, z1, z2, z3, z4, z5, z6, z7, z8⟩ := qy.at hi HVY.out
  subst ee1; subst ee2; refine Jo.rk [0, 1, 2, 3, 4, 5, 6, 7, 8, 9, 10, 11, 12, 13, 14, 15, 16, 17, 18, 19, 20, 21, 22, 23, 24, 25, 26, 27, 28, 29] [some 40, some 41, some 42, some 43, some 44, some 45, some 46, some 47, some 48, some 49, some 50, some 51, some 52, some 53, some 54, some 55, some 56, some 57, some 58, some 59, some 60, some 61, some 62, some 63, some 64, some 65, some 66, some 67, some 68, some 69] [[], [0], [], [2], [1, 3], [4], [5], [5, 6], [5], [5, 8], [5, 7, 9], [5, 10], [11], [12], [12], [12, 13, 14], [12, 15], [12, 16], [12], [12, 17, 18], [12, 19], [20], [21], [21], [21, 22, 23], [21, 24], [21, 25], [21], [21, 26, 27], [21, 28]] 30 0 [Jo.Fact.eq (.slice (some ⟨bx, ox, none⟩) len0 c1), Jo.Fact.eq (.int .i64 ((len0 : Nat) : Int)), Jo.Fact.eq (.slice (some ⟨bb, ob, none⟩) len0 cap0), Jo.Fact.eq (.int .i64 ((len0 : Nat) : Int)), Jo.qb false, Jo.qb false, Jo.Fact.eq (.slice (some ⟨by_, oy, none⟩) len0 c2), Jo.Fact.eq (.int .i64 ((len0 : Nat) : Int)), Jo.Fact.eq (.slice (some ⟨bb, ob, none⟩) len0 cap0), Jo.Fact.eq (.int .i64 ((len0 : Nat) : Int)), Jo.qb false, Jo.qb false, Jo.qb false, Jo.Fact.eq (.slice (some ⟨bx, ox, none⟩) len0 c1), Jo.Fact.eq (.int .i64 ((i : Nat) : Int)), Jo.Fact.eq (.pointer (some ⟨bx, ox + i * 9, none⟩)), Jo.Fact.eq (.pointer (some ⟨bx, ox + i * 9 + 5, none⟩)), Jo.q4 K1b s1b M1b E1b, Jo.q4 K1b s1b M1b E1b, Jo.qb false, Jo.qb false, Jo.qb false, Jo.Fact.eq (.slice (some ⟨by_, oy, none⟩) len0 c2), Jo.Fact.eq (.int .i64 ((i : Nat) : Int)), Jo.Fact.eq (.pointer (some ⟨by_, oy + i * 9, none⟩)), Jo.Fact.eq (.pointer (some ⟨by_, oy + i * 9 + 1, none⟩)), Jo.q4 K1b s1b M1b E1b, Jo.q4 K1b s1b M1b E1b, Jo.qb false, Jo.qb false] (by kernel_rfl) (by kernel_rfl) (by decide) rfl ?_ ?_
  · iterate 4 (refine Jo.jm rfl ?_ ?_; rotate_left)
    refine Jo.jm rfl ?_ ?_
    · rintro wj hJ _ rfl _ rfl K hK; simp only [Jo.z] at hK ⊢; go_simp
      exact hK.out _ _ (by first | rfl | simp) (br _ _)
    iterate 5 (refine Jo.jm rfl ?_ ?_; rotate_left)
    refine Jo.jm rfl ?_ ?_
    · rintro wj hJ _ rfl _ rfl _ rfl K hK; simp only [Jo.z] at hK ⊢; go_simp
      exact hK.out _ _ (by first | rfl | simp) (br _ _)
    iterate 4 (refine Jo.jm rfl ?_ ?_; rotate_left)
    refine Jo.jm rfl ?_ ?_
    · rintro wj hJ _ rfl _ rfl _ rfl K hK; simp only [Jo.z] at hK ⊢; go_simp
      exact hK.out _ _ (by first | rfl | simp) (br _ _)
    refine Jo.jm rfl ?_ ?_
    · rintro wj hJ _ rfl _ rfl K hK; simp only [Jo.z] at hK ⊢; go_simp
      exact hK.out _ _ (by first | rfl | simp) (br _ _)
    refine Jo.jm rfl ?_ ?_
    · rintro wj hJ _ rfl _ rfl K hK; simp only [Jo.z] at hK ⊢; have cy5 := (hJ.cell (block_lt_of_cell y5)).trans y5; have cy6 := (hJ.cell (block_lt_of_cell y6)).trans y6; have cy7 := (hJ.cell (block_lt_of_cell y7)).trans y7; have cy8 := (hJ.cell (block_lt_of_cell y8)).trans y8; go_simp; exact hK.out _ _ rfl (br _ _)
    refine Jo.jm rfl ?_ ?_; rotate_left
    refine Jo.jm rfl ?_ ?_
    · rintro wj hJ _ rfl _ rfl _ rfl K hK; simp only [Jo.z] at hK ⊢; go_simp
      exact hK.out _ _ (by first | rfl | (show Value.bool _ = Value.bool _; simp)) (br _ _)
    iterate 4 (refine Jo.jm rfl ?_ ?_; rotate_left)
    refine Jo.jm rfl ?_ ?_
    · rintro wj hJ _ rfl _ rfl _ rfl K hK; simp only [Jo.z] at hK ⊢; go_simp
      exact hK.out _ _ (by first | rfl | simp) (br _ _)
    refine Jo.jm rfl ?_ ?_
    · rintro wj hJ _ rfl _ rfl K hK; simp only [Jo.z] at hK ⊢; go_simp
      exact hK.out _ _ (by first | rfl | simp) (br _ _)
    refine Jo.jm rfl ?_ ?_
    · rintro wj hJ _ rfl _ rfl K hK; simp only [Jo.z] at hK ⊢; have cz1 := (hJ.cell (block_lt_of_cell z1)).trans z1; have cz2 := (hJ.cell (block_lt_of_cell z2)).trans z2; have cz3 := (hJ.cell (block_lt_of_cell z3)).trans z3; have cz4 := (hJ.cell (block_lt_of_cell z4)).trans z4; go_simp; exact hK.out _ _ rfl (br _ _)
    refine Jo.jm rfl ?_ ?_; rotate_left
    refine Jo.jm rfl ?_ ?_
    · rintro wj hJ _ rfl _ rfl _ rfl K hK; simp only [Jo.z] at hK ⊢; go_simp
      exact hK.out _ _ (by first | rfl | (show Value.bool _ = Value.bool _; simp)) (br _ _)
    refine Jo.jm rfl ?_ ?_; rotate_left
    exact Jo.Steps.nil
    all_goals (rintro wj hJ; (repeat rintro _ rfl); intro K hK; simp only [Jo.z] at hK ⊢; have xX4 := (X4.below hJ).cell; go_simp; exact hK.out _ _ rfl (br _ _))
  rintro w7 hJ _ rfl _ rfl _ rfl _ rfl _ rfl _ rfl _ rfl _ rfl _ rfl _ rfl _ rfl _ rfl _ rfl _ rfl _ rfl _ _ _ _ _ rfl _ rfl _ rfl _ rfl _ rfl _ rfl _ rfl _ _ _ _ _ rfl _ rfl _ rfl _ rfl -; simp only [Jo.z]; replace X4 := X4.below hJ; replace hT := hT.below hJ; replace qb := qb.below hJ; replace qx := qx.below hJ; replace qy := qy.below hJ; replace HB := Hqb HB hJ; refine Jo.jdone (by kernel_rfl) ?_
  clear y0 y1 y2 y3 y4 y5 y6 y7 y8 z0 z1 z2 z3 z4 z5 z6 z7 z8 X4; have hb7 := qb; have hx7 := qx; have hy7 := qy; go_wp2
  go_loopw [8] (fun i wr => ∃ k, k ≤ len0 ∧ i = .int .i64 ((k : Nat) : Int) ∧ Below w7.heap.size w7 wr) (fun i _ => len0 - (intOf i).toNat)
  case atStart => exact ⟨0, Nat.zero_le _, rfl, Below.refl _ _⟩
  case round =>
    obtain ⟨k, hk, rfl, hB⟩ := hrel; have HB0 := HB; clear HB; have HB := Lib.hid hB; clear hB; replace qb := qb.below HB.out; replace qx := qx.below HB.out; replace qy := qy.below HB.out; clear hb7 hx7 hy7
    by_cases hlt : k < len0
    · have tlt : decide ((k : Int) < (len0 : Int)) = true := by simp; omega
      have j1 : (k : Int) < len0 := by omega
      have j2 : (0 : Int) ≤ k := by omega
      by_cases hki : k = i
      · subst hki
        go_upto_region 14 with (fail)
        refine Jo.rk [0, 1, 2, 3, 4, 5, 6, 7, 8, 9, 10, 11, 12, 13, 14, 15, 16, 17, 18, 19, 20, 21, 22, 23, 24] [some 76, some 77, some 78, some 79, some 80, some 81, some 82, some 83, some 84, some 85, some 86, some 87, some 88, some 89, some 90, some 91, some 92, some 93, some 94, some 95, some 96, some 97, some 98, some 99, some 100] [[], [], [0, 1], [2], [3], [3], [3, 4, 5], [3, 6], [3], [3], [3, 8, 9], [3, 10], [3, 7, 11], [3, 12], [13], [13], [13, 14, 15], [13, 16], [13], [13], [13, 18, 19], [13, 20], [13, 17, 21], [3, 13, 22], [3, 23]] 25 0 [Jo.Fact.eq (.int .i64 ((k : Nat) : Int)), Jo.Fact.eq (.int .i64 ((k : Nat) : Int)), Jo.qb false, Jo.qb false, Jo.qu, Jo.qu, Jo.qu, Jo.qu, Jo.qu, Jo.qu, Jo.qu, Jo.qu, Jo.qu, Jo.qu, Jo.qu, Jo.qu, Jo.qu, Jo.qu, Jo.qu, Jo.qu, Jo.qu, Jo.qu, Jo.qu, Jo.qu, Jo.qb false] (by kernel_rfl) (by kernel_rfl) (by decide) rfl ?_ ?_
        · iterate 2 (refine Jo.jm rfl ?_ ?_; rotate_left)
          refine Jo.jm rfl ?_ ?_
          · rintro wj hJ _ rfl _ rfl K hK; simp only [Jo.z] at hK ⊢; go_simp
            exact hK.out _ _ (by first | rfl | simp) (br _ _)
          iterate 22 (refine Jo.jm rfl ?_ ?_; rotate_left)
          exact Jo.Steps.nil
          all_goals (rintro wj hJ; (repeat rintro _ rfl); intro K hK; simp only [Jo.z] at hK ⊢; go_simp; exact hK.out _ _ rfl (br _ _))
        rintro w8 hJ _ rfl _ rfl _ rfl _ rfl _ rfl _ rfl _ rfl _ rfl _ rfl _ rfl _ rfl _ rfl _ rfl _ rfl _ rfl _ rfl _ rfl _ rfl _ rfl _ rfl _ rfl _ rfl _ rfl _ rfl _ rfl -; simp only [Jo.z]; replace HB := Hqb HB hJ; refine Jo.jdone (by kernel_rfl) ?_; go_wp2
        go_roundw
        case rel => exact ⟨k + 1, by omega, by go_num, HB.out⟩
        case measure => simp [intOf]; omega
      · have hx3 := KX.out k hki; have hy3 := KY.out k hki; obtain ⟨v, hv⟩ : ∃ v, rb[k]? = some v := ⟨rb[k], List.getElem?_eq_getElem (by omega)⟩; rw [hv] at hx3 hy3; obtain ⟨e, D, s, M, E, D', s', M', E'⟩ := v; obtain ⟨b1, o1, ee1, x0, x1, x2, x3, x4, x5, x6, x7, x8⟩ := qb.at hlt hv; obtain ⟨b2, o2, ee2, y0, y1, y2, y3, y4, y5, y6, y7, y8⟩ := qx.at hlt hx3; obtain ⟨b3, o3, ee3, z0, z1, z2, z3, z4, z5, z6, z7, z8⟩ := qy.at hlt hy3
        cases ee1
        cases ee2
        cases ee3
        have hnk : ¬ ((k : Nat) : Int) = ((i : Nat) : Int) := by omega
        have hnb : (((k : Nat) : Int) == ((i : Nat) : Int)) = false := by simp; omega
        clear hx3 hy3 hv
        go_upto_region 14 with (fail)
        refine Jo.rk [0, 1, 2, 3, 4, 5, 6, 7, 8, 9, 10, 11, 12, 13, 14, 15, 16, 17, 18, 19, 20, 21, 22, 23, 24] [some 76, some 77, some 78, some 79, some 80, some 81, some 82, some 83, some 84, some 85, some 86, some 87, some 88, some 89, some 90, some 91, some 92, some 93, some 94, some 95, some 96, some 97, some 98, some 99, some 100] [[], [], [0, 1], [2], [3], [3], [3, 4, 5], [3, 6], [3], [3], [3, 8, 9], [3, 10], [3, 7, 11], [3, 12], [13], [13], [13, 14, 15], [13, 16], [13], [13], [13, 18, 19], [13, 20], [13, 17, 21], [3, 13, 22], [3, 23]] 25 0 [Jo.Fact.eq (.int .i64 ((k : Nat) : Int)), Jo.Fact.eq (.int .i64 ((i : Nat) : Int)), Jo.qb true, Jo.qb true, Jo.Fact.eq (.slice (some ⟨bx, ox, none⟩) len0 c1), Jo.Fact.eq (.int .i64 ((k : Nat) : Int)), Jo.Fact.eq (.pointer (some ⟨bx, ox + k * 9, none⟩)), Jo.q9 e D s M E D' s' M' E', Jo.Fact.eq (.slice (some ⟨bb, ob, none⟩) len0 cap0), Jo.Fact.eq (.int .i64 ((k : Nat) : Int)), Jo.Fact.eq (.pointer (some ⟨bb, ob + k * 9, none⟩)), Jo.q9 e D s M E D' s' M' E', Jo.qb false, Jo.qb false, Jo.Fact.eq (.slice (some ⟨by_, oy, none⟩) len0 c2), Jo.Fact.eq (.int .i64 ((k : Nat) : Int)), Jo.Fact.eq (.pointer (some ⟨by_, oy + k * 9, none⟩)), Jo.q9 e D s M E D' s' M' E', Jo.Fact.eq (.slice (some ⟨bb, ob, none⟩) len0 cap0), Jo.Fact.eq (.int .i64 ((k : Nat) : Int)), Jo.Fact.eq (.pointer (some ⟨bb, ob + k * 9, none⟩)), Jo.q9 e D s M E D' s' M' E', Jo.qb false, Jo.qb false, Jo.qb false] (by kernel_rfl) (by kernel_rfl) (by decide) rfl ?_ ?_
        · iterate 2 (refine Jo.jm rfl ?_ ?_; rotate_left)
          refine Jo.jm rfl ?_ ?_
          · rintro wj hJ _ rfl _ rfl K hK; simp only [Jo.z] at hK ⊢; go_simp
            exact hK.out _ _ (by first | rfl | (simp [hnk, hki]; done) | (simp [hnb, hki, bne]; done) | (simp only [hnb, bne]; rfl)) (br _ _)
          iterate 3 (refine Jo.jm rfl ?_ ?_; rotate_left)
          refine Jo.jm rfl ?_ ?_
          · rintro wj hJ _ rfl _ rfl _ rfl K hK; simp only [Jo.z] at hK ⊢; go_simp
            exact hK.out _ _ (by first | rfl | simp) (br _ _)
          refine Jo.jm rfl ?_ ?_
          · rintro wj hJ _ rfl _ rfl K hK; simp only [Jo.z] at hK ⊢; have cy0 := (hJ.cell (block_lt_of_cell y0)).trans y0; have cy1 := (hJ.cell (block_lt_of_cell y1)).trans y1; have cy2 := (hJ.cell (block_lt_of_cell y2)).trans y2; have cy3 := (hJ.cell (block_lt_of_cell y3)).trans y3; have cy4 := (hJ.cell (block_lt_of_cell y4)).trans y4; have cy5 := (hJ.cell (block_lt_of_cell y5)).trans y5; have cy6 := (hJ.cell (block_lt_of_cell y6)).trans y6
            have cy7 := (hJ.cell (block_lt_of_cell y7)).trans y7; have cy8 := (hJ.cell (block_lt_of_cell y8)).trans y8; go_simp; exact hK.out _ _ rfl (br _ _)
          iterate 2 (refine Jo.jm rfl ?_ ?_; rotate_left)
          refine Jo.jm rfl ?_ ?_
          · rintro wj hJ _ rfl _ rfl _ rfl K hK; simp only [Jo.z] at hK ⊢; go_simp
            exact hK.out _ _ (by first | rfl | simp) (br _ _)
          refine Jo.jm rfl ?_ ?_
          · rintro wj hJ _ rfl _ rfl K hK; simp only [Jo.z] at hK ⊢; have cx0 := (hJ.cell (block_lt_of_cell x0)).trans x0; have cx1 := (hJ.cell (block_lt_of_cell x1)).trans x1; have cx2 := (hJ.cell (block_lt_of_cell x2)).trans x2; have cx3 := (hJ.cell (block_lt_of_cell x3)).trans x3; have cx4 := (hJ.cell (block_lt_of_cell x4)).trans x4; have cx5 := (hJ.cell (block_lt_of_cell x5)).trans x5; have cx6 := (hJ.cell (block_lt_of_cell x6)).trans x6
            have cx7 := (hJ.cell (block_lt_of_cell x7)).trans x7; have cx8 := (hJ.cell (block_lt_of_cell x8)).trans x8; go_simp; exact hK.out _ _ rfl (br _ _)
          refine Jo.jm rfl ?_ ?_
          · rintro wj hJ _ rfl _ rfl _ rfl K hK; simp only [Jo.z] at hK ⊢; go_simp
            exact hK.out _ _ (by first | rfl | (show Value.bool _ = Value.bool _; simp)) (br _ _)
          iterate 3 (refine Jo.jm rfl ?_ ?_; rotate_left)
          refine Jo.jm rfl ?_ ?_
          · rintro wj hJ _ rfl _ rfl _ rfl K hK; simp only [Jo.z] at hK ⊢; go_simp
            exact hK.out _ _ (by first | rfl | simp) (br _ _)
          refine Jo.jm rfl ?_ ?_
          · rintro wj hJ _ rfl _ rfl K hK; simp only [Jo.z] at hK ⊢; have cz0 := (hJ.cell (block_lt_of_cell z0)).trans z0; have cz1 := (hJ.cell (block_lt_of_cell z1)).trans z1; have cz2 := (hJ.cell (block_lt_of_cell z2)).trans z2; have cz3 := (hJ.cell (block_lt_of_cell z3)).trans z3; have cz4 := (hJ.cell (block_lt_of_cell z4)).trans z4; have cz5 := (hJ.cell (block_lt_of_cell z5)).trans z5; have cz6 := (hJ.cell (block_lt_of_cell z6)).trans z6
            have cz7 := (hJ.cell (block_lt_of_cell z7)).trans z7; have cz8 := (hJ.cell (block_lt_of_cell z8)).trans z8; go_simp; exact hK.out _ _ rfl (br _ _)
          iterate 2 (refine Jo.jm rfl ?_ ?_; rotate_left)
          refine Jo.jm rfl ?_ ?_
          · rintro wj hJ _ rfl _ rfl _ rfl K hK; simp only [Jo.z] at hK ⊢; go_simp
            exact hK.out _ _ (by first | rfl | simp) (br _ _)
          refine Jo.jm rfl ?_ ?_
          · rintro wj hJ _ rfl _ rfl K hK; simp only [Jo.z] at hK ⊢; have cx0 := (hJ.cell (block_lt_of_cell x0)).trans x0; have cx1 := (hJ.cell (block_lt_of_cell x1)).trans x1; have cx2 := (hJ.cell (block_lt_of_cell x2)).trans x2; have cx3 := (hJ.cell (block_lt_of_cell x3)).trans x3; have cx4 := (hJ.cell (block_lt_of_cell x4)).trans x4; have cx5 := (hJ.cell (block_lt_of_cell x5)).trans x5; have cx6 := (hJ.cell (block_lt_of_cell x6)).trans x6
            have cx7 := (hJ.cell (block_lt_of_cell x7)).trans x7; have cx8 := (hJ.cell (block_lt_of_cell x8)).trans x8; go_simp; exact hK.out _ _ rfl (br _ _)
          refine Jo.jm rfl ?_ ?_
          · rintro wj hJ _ rfl _ rfl _ rfl K hK; simp only [Jo.z] at hK ⊢; go_simp
            exact hK.out _ _ (by first | rfl | (show Value.bool _ = Value.bool _; simp)) (br _ _)
          iterate 2 (refine Jo.jm rfl ?_ ?_; rotate_left)
          exact Jo.Steps.nil
          all_goals (rintro wj hJ; (repeat rintro _ rfl); intro K hK; simp only [Jo.z] at hK ⊢; go_simp; exact hK.out _ _ rfl (br _ _))
        rintro w8 hJ _ rfl _ rfl _ rfl _ rfl _ rfl _ rfl _ _ _ rfl _ rfl _ rfl _ _ _ rfl _ rfl _ rfl _ rfl _ rfl _ _ _ rfl _ rfl _ rfl _ _ _ rfl _ rfl _ rfl _ rfl -; simp only [Jo.z]; replace HB := Hqb HB hJ; refine Jo.jdone (by kernel_rfl) ?_; clear x0 x1 x2 x3 x4 x5 x6 x7 x8 y0 y1 y2 y3 y4 y5 y6 y7 y8 z0 z1 z2 z3 z4 z5 z6 z7 z8; go_wp2
        go_roundw
        case rel => exact ⟨k + 1, by omega, by go_num, HB.out⟩
        case measure => simp [intOf]; omega
    · obtain rfl : k = len0 := by omega
      have tlt : decide ((k : Int) < (k : Int)) = false := by simp
      replace HB := Lib.hid (bt HB0.out HB.out); clear HB0; obtain ⟨b1, o1, ee1, x0, x1, x2, x3, x4, x5, x6, x7, x8⟩ := qb.at hi HVB.out; obtain ⟨b2, o2, ee2, y0, y1, y2, y3, y4, y5, y6, y7, y8⟩ := qx.at hi HVX.out; obtain ⟨b3, o3, ee3, z0, z1, z2, z3, z4, z5, z6, z7, z8⟩ := qy.at hi HVY.out
      cases ee1
      cases ee2
      cases ee3
      go_upto_region 16 with (fail)
      refine Jo.rk [0, 1, 2, 3, 4, 5, 6, 7, 8, 9, 10, 11, 12, 13, 14, 15, 16, 17, 18, 19, 20, 21, 22, 23, 24, 25, 26, 27, 28, 29, 30, 31, 32, 33, 34, 35, 36, 37] [some 101, some 102, some 103, some 104, some 105, some 106, some 107, some 108, some 109, some 110, some 111, some 112, some 113, some 114, some 115, some 116, some 117, some 118, some 119, some 120, some 121, some 122, some 123, some 124, some 125, some 126, some 127, some 128, some 129, some 130, some 131, some 132, some 133, some 134, some 135, some 136, some 137, some 2] [[], [], [0, 1], [2], [], [], [4, 5], [6], [3, 7], [8], [9], [9], [9, 10, 11], [9, 12], [9], [9], [9, 14, 15], [9, 16], [9, 13, 17], [9, 18], [19], [20], [20], [20, 21, 22], [20, 23], [20], [20], [20, 25, 26], [20, 27], [20, 24, 28], [20, 29], [20], [20], [20, 31, 32], [20, 33], [20, 30, 34], [20, 35], [36]] 38 0 [Jo.Fact.eq (.slice (some ⟨bx, ox, none⟩) k c1), Jo.Fact.eq (.int .i64 ((i : Nat) : Int)), Jo.Fact.eq (.pointer (some ⟨bx, ox + i * 9, none⟩)), Jo.q9 false K1 s1 M1 E1 K1b s1b M1b E1b, Jo.Fact.eq (.slice (some ⟨bb, ob, none⟩) k cap0), Jo.Fact.eq (.int .i64 ((i : Nat) : Int)), Jo.Fact.eq (.pointer (some ⟨bb, ob + i * 9, none⟩)), Jo.q9 false Kb sb Mb Eb Kc sc Mc Ec, Jo.qb true, Jo.qb true, Jo.Fact.eq (.slice (some ⟨by_, oy, none⟩) k c2), Jo.Fact.eq (.int .i64 ((i : Nat) : Int)), Jo.Fact.eq (.pointer (some ⟨by_, oy + i * 9, none⟩)), Jo.q9 false K1b s1b M1b E1b K2b s2b M2b E2b, Jo.Fact.eq (.slice (some ⟨bb, ob, none⟩) k cap0), Jo.Fact.eq (.int .i64 ((i : Nat) : Int)), Jo.Fact.eq (.pointer (some ⟨bb, ob + i * 9, none⟩)), Jo.q9 false Kb sb Mb Eb Kc sc Mc Ec, Jo.qb true, Jo.qb true, Jo.qb true, Jo.Fact.eq (.slice (some ⟨bx, ox, none⟩) k c1), Jo.Fact.eq (.int .i64 ((i : Nat) : Int)), Jo.Fact.eq (.pointer (some ⟨bx, ox + i * 9, none⟩)), Jo.q9 false K1 s1 M1 E1 K1b s1b M1b E1b, Jo.Fact.eq (.slice (some ⟨by_, oy, none⟩) k c2), Jo.Fact.eq (.int .i64 ((i : Nat) : Int)), Jo.Fact.eq (.pointer (some ⟨by_, oy + i * 9, none⟩)), Jo.q9 false K1b s1b M1b E1b K2b s2b M2b E2b, Jo.Fact.il8 2 [some (α, m), some (m, β)], Jo.Fact.iv (some (α, β)), Jo.Fact.eq (.slice (some ⟨bb, ob, none⟩) k cap0), Jo.Fact.eq (.int .i64 ((i : Nat) : Int)), Jo.Fact.eq (.pointer (some ⟨bb, ob + i * 9, none⟩)), Jo.q9 false Kb sb Mb Eb Kc sc Mc Ec, Jo.qb true, Jo.qb true, Jo.qb true] (by kernel_rfl) (by kernel_rfl) (by decide) rfl ?_ ?_
      · iterate 2 (refine Jo.jm rfl ?_ ?_; rotate_left)
        refine Jo.jm rfl ?_ ?_
        · rintro wj hJ _ rfl _ rfl K hK; simp only [Jo.z] at hK ⊢; go_simp
          exact hK.out _ _ (by first | rfl | simp) (br _ _)
        refine Jo.jm rfl ?_ ?_
        · rintro wj hJ _ rfl K hK; simp only [Jo.z] at hK ⊢; have cy0 := (hJ.cell (block_lt_of_cell y0)).trans y0; have cy1 := (hJ.cell (block_lt_of_cell y1)).trans y1; have cy2 := (hJ.cell (block_lt_of_cell y2)).trans y2; have cy3 := (hJ.cell (block_lt_of_cell y3)).trans y3; have cy4 := (hJ.cell (block_lt_of_cell y4)).trans y4; have cy5 := (hJ.cell (block_lt_of_cell y5)).trans y5; have cy6 := (hJ.cell (block_lt_of_cell y6)).trans y6
          have cy7 := (hJ.cell (block_lt_of_cell y7)).trans y7; have cy8 := (hJ.cell (block_lt_of_cell y8)).trans y8; go_simp; exact hK.out _ _ rfl (br _ _)
        iterate 2 (refine Jo.jm rfl ?_ ?_; rotate_left)
        refine Jo.jm rfl ?_ ?_
        · rintro wj hJ _ rfl _ rfl K hK; simp only [Jo.z] at hK ⊢; go_simp
          exact hK.out _ _ (by first | rfl | simp) (br _ _)
        refine Jo.jm rfl ?_ ?_
        · rintro wj hJ _ rfl K hK; simp only [Jo.z] at hK ⊢; have cx0 := (hJ.cell (block_lt_of_cell x0)).trans x0; have cx1 := (hJ.cell (block_lt_of_cell x1)).trans x1; have cx2 := (hJ.cell (block_lt_of_cell x2)).trans x2; have cx3 := (hJ.cell (block_lt_of_cell x3)).trans x3; have cx4 := (hJ.cell (block_lt_of_cell x4)).trans x4; have cx5 := (hJ.cell (block_lt_of_cell x5)).trans x5; have cx6 := (hJ.cell (block_lt_of_cell x6)).trans x6
          have cx7 := (hJ.cell (block_lt_of_cell x7)).trans x7; have cx8 := (hJ.cell (block_lt_of_cell x8)).trans x8; go_simp; exact hK.out _ _ rfl (br _ _)
        refine Jo.jm rfl ?_ ?_
        · rintro wj hJ _ rfl _ rfl K hK; simp only [Jo.z] at hK ⊢; go_simp; refine (kvWithin cx.top.1 cx.top.2 cb.top.1 cb.top.2 cx.rk cb.rk KW1.out).mono ?_; rintro ee wk ⟨rfl, B⟩; exact hK.out _ _ rfl B
        iterate 3 (refine Jo.jm rfl ?_ ?_; rotate_left)
        refine Jo.jm rfl ?_ ?_
        · rintro wj hJ _ rfl _ rfl _ rfl K hK; simp only [Jo.z] at hK ⊢; go_simp
          exact hK.out _ _ (by first | rfl | simp) (br _ _)
        refine Jo.jm rfl ?_ ?_
        · rintro wj hJ _ rfl _ rfl K hK; simp only [Jo.z] at hK ⊢; have cz0 := (hJ.cell (block_lt_of_cell z0)).trans z0; have cz1 := (hJ.cell (block_lt_of_cell z1)).trans z1; have cz2 := (hJ.cell (block_lt_of_cell z2)).trans z2; have cz3 := (hJ.cell (block_lt_of_cell z3)).trans z3; have cz4 := (hJ.cell (block_lt_of_cell z4)).trans z4; have cz5 := (hJ.cell (block_lt_of_cell z5)).trans z5; have cz6 := (hJ.cell (block_lt_of_cell z6)).trans z6
          have cz7 := (hJ.cell (block_lt_of_cell z7)).trans z7; have cz8 := (hJ.cell (block_lt_of_cell z8)).trans z8; go_simp; exact hK.out _ _ rfl (br _ _)
        iterate 2 (refine Jo.jm rfl ?_ ?_; rotate_left)
        refine Jo.jm rfl ?_ ?_
        · rintro wj hJ _ rfl _ rfl _ rfl K hK; simp only [Jo.z] at hK ⊢; go_simp
          exact hK.out _ _ (by first | rfl | simp) (br _ _)
        refine Jo.jm rfl ?_ ?_
        · rintro wj hJ _ rfl _ rfl K hK; simp only [Jo.z] at hK ⊢; have cx0 := (hJ.cell (block_lt_of_cell x0)).trans x0; have cx1 := (hJ.cell (block_lt_of_cell x1)).trans x1; have cx2 := (hJ.cell (block_lt_of_cell x2)).trans x2; have cx3 := (hJ.cell (block_lt_of_cell x3)).trans x3; have cx4 := (hJ.cell (block_lt_of_cell x4)).trans x4; have cx5 := (hJ.cell (block_lt_of_cell x5)).trans x5; have cx6 := (hJ.cell (block_lt_of_cell x6)).trans x6
          have cx7 := (hJ.cell (block_lt_of_cell x7)).trans x7; have cx8 := (hJ.cell (block_lt_of_cell x8)).trans x8; go_simp; exact hK.out _ _ rfl (br _ _)
        refine Jo.jm rfl ?_ ?_
        · rintro wj hJ _ rfl _ rfl _ rfl K hK; simp only [Jo.z] at hK ⊢; go_simp; refine (kvWithin cy.top.1 cy.top.2 cb.top.1 cb.top.2 cy.rk cb.rk KW2.out).mono ?_; rintro ee wk ⟨rfl, B⟩; exact hK.out _ _ rfl B
        iterate 4 (refine Jo.jm rfl ?_ ?_; rotate_left)
        refine Jo.jm rfl ?_ ?_
        · rintro wj hJ _ rfl _ rfl _ rfl K hK; simp only [Jo.z] at hK ⊢; go_simp
          exact hK.out _ _ (by first | rfl | simp) (br _ _)
        refine Jo.jm rfl ?_ ?_
        · rintro wj hJ _ rfl _ rfl K hK; simp only [Jo.z] at hK ⊢; have cy0 := (hJ.cell (block_lt_of_cell y0)).trans y0; have cy1 := (hJ.cell (block_lt_of_cell y1)).trans y1; have cy2 := (hJ.cell (block_lt_of_cell y2)).trans y2; have cy3 := (hJ.cell (block_lt_of_cell y3)).trans y3; have cy4 := (hJ.cell (block_lt_of_cell y4)).trans y4; have cy5 := (hJ.cell (block_lt_of_cell y5)).trans y5; have cy6 := (hJ.cell (block_lt_of_cell y6)).trans y6
          have cy7 := (hJ.cell (block_lt_of_cell y7)).trans y7; have cy8 := (hJ.cell (block_lt_of_cell y8)).trans y8; go_simp; exact hK.out _ _ rfl (br _ _)
        iterate 2 (refine Jo.jm rfl ?_ ?_; rotate_left)
        refine Jo.jm rfl ?_ ?_
        · rintro wj hJ _ rfl _ rfl _ rfl K hK; simp only [Jo.z] at hK ⊢; go_simp
          exact hK.out _ _ (by first | rfl | simp) (br _ _)
        refine Jo.jm rfl ?_ ?_
        · rintro wj hJ _ rfl _ rfl K hK; simp only [Jo.z] at hK ⊢; have cz0 := (hJ.cell (block_lt_of_cell z0)).trans z0; have cz1 := (hJ.cell (block_lt_of_cell z1)).trans z1; have cz2 := (hJ.cell (block_lt_of_cell z2)).trans z2; have cz3 := (hJ.cell (block_lt_of_cell z3)).trans z3; have cz4 := (hJ.cell (block_lt_of_cell z4)).trans z4; have cz5 := (hJ.cell (block_lt_of_cell z5)).trans z5; have cz6 := (hJ.cell (block_lt_of_cell z6)).trans z6
          have cz7 := (hJ.cell (block_lt_of_cell z7)).trans z7; have cz8 := (hJ.cell (block_lt_of_cell z8)).trans z8; go_simp; exact hK.out _ _ rfl (br _ _)
        refine Jo.jm rfl ?_ ?_
        · rintro wj hJ _ rfl _ rfl _ rfl K hK; simp only [Jo.z] at hK ⊢; go_simp; exact hK.out _ _ ⟨_, 2, rfl, Il8.lit2 rfl cx.rw cy.rw⟩ (bel1 _ _)
        refine Jo.jm rfl ?_ ?_
        · rintro wj hJ _ rfl _ ⟨A23, c23, rfl, h23⟩ K hK; simp only [Jo.z] at hK ⊢; go_simp; refine (kvHull h23 KW3.out).mono ?_; rintro ee wk ⟨e24, K24, s24, M24, E24, K24b, s24b, M24b, E24b, rfl, v24, B⟩; exact hK.out _ _ ⟨e24, K24, s24, M24, E24, K24b, s24b, M24b, E24b, rfl, v24⟩ B
        iterate 2 (refine Jo.jm rfl ?_ ?_; rotate_left)
        refine Jo.jm rfl ?_ ?_
        · rintro wj hJ _ rfl _ rfl _ rfl K hK; simp only [Jo.z] at hK ⊢; go_simp
          exact hK.out _ _ (by first | rfl | simp) (br _ _)
        refine Jo.jm rfl ?_ ?_
        · rintro wj hJ _ rfl _ rfl K hK; simp only [Jo.z] at hK ⊢; have cx0 := (hJ.cell (block_lt_of_cell x0)).trans x0; have cx1 := (hJ.cell (block_lt_of_cell x1)).trans x1; have cx2 := (hJ.cell (block_lt_of_cell x2)).trans x2; have cx3 := (hJ.cell (block_lt_of_cell x3)).trans x3; have cx4 := (hJ.cell (block_lt_of_cell x4)).trans x4; have cx5 := (hJ.cell (block_lt_of_cell x5)).trans x5; have cx6 := (hJ.cell (block_lt_of_cell x6)).trans x6
          have cx7 := (hJ.cell (block_lt_of_cell x7)).trans x7; have cx8 := (hJ.cell (block_lt_of_cell x8)).trans x8; go_simp; exact hK.out _ _ rfl (br _ _)
        refine Jo.jm rfl ?_ ?_
        · rintro wj hJ _ rfl _ ⟨e24, K24, s24, M24, E24, K24b, s24b, M24b, E24b, rfl, v24⟩ _ rfl K hK; simp only [Jo.z] at hK ⊢; obtain ⟨rfl, rfl, rfl, rfl, rfl, rfl, rfl, rfl, rfl⟩ := v24.uniq cb; go_simp
          exact hK.out _ _ (by first | rfl | (show Value.bool _ = Value.bool _; simp)) (br _ _)
        iterate 2 (refine Jo.jm rfl ?_ ?_; rotate_left)
        exact Jo.Steps.nil
        all_goals (rintro wj hJ; (repeat rintro _ rfl); intro K hK; simp only [Jo.z] at hK ⊢; go_simp; exact hK.out _ _ rfl (br _ _))
      rintro w9 hJ _ rfl _ rfl _ _ _ rfl _ rfl _ rfl _ _ _ rfl _ rfl _ rfl _ rfl _ rfl _ _ _ rfl _ rfl _ rfl _ _ _ rfl _ rfl _ rfl _ rfl _ rfl _ rfl _ _ _ rfl _ rfl _ rfl _ _ _ rfl _ ⟨_, _, rfl, _⟩ _ ⟨e24, K24, s24, M24, E24, K24b, s24b, M24b, E24b, rfl, v24⟩ _ rfl _ rfl _ _ _ rfl _ rfl _ rfl _ rfl -; simp only [Jo.z]; replace HB := Hqb HB hJ; refine Jo.jdone (by kernel_rfl) ?_; go_wp2
      go_ret
      exact ⟨rfl, HB.out⟩

theorem boxHalves_walk (a0 : Option Addr) (len0 cap0 : Nat) (w : World) (hT : Tb w) (w0 : RowsI w a0 len0 cap0) :
    Calls Tryd.prog 6 #[.slice a0 len0 cap0] w fun e w' => e = .returned (.bool true) ∧ Below w.heap.size w w' := by
  by_cases h0 : len0 ≤ 20
  · obtain ⟨l0, e0⟩ := w0.il (by omega)
    cases h1 : bxEmp l0
    · by_cases h2 : len0 = 0
      · subst h2; exact boxHalves_nil a0 cap0 w l0 hT e0 h1
      · obtain ⟨rb, qb, rfl⟩ := e0.iq; have hrl := qb.len
        have hlm : (rb.map rkV).length = len0 := by rw [List.length_map, hrl]
        obtain ⟨p1, p2⟩ := bxWidest_pos h1 (by omega); generalize bxArg (bxWid (rb.map rkV)) ((rb.map rkV).length - 1) = i at p1 p2; have ok := iq_ok qb; obtain ⟨v, hv⟩ : ∃ v, rb[i]? = some v := ⟨rb[i]'(by omega), List.getElem?_eq_getElem (by omega)⟩
        have eg : (rb.map rkV).getD i none = rkV v := by
          rw [List.getD_eq_getElem?_getD, List.getElem?_map, hv]
          rfl
        have hn := getD_some h1 p2; rw [eg] at hn; have cb := topV_ci (qb.top v (List.mem_of_getElem? hv)) hn; obtain ⟨q1, q2, _, _⟩ := bxLo_f ok h1 p2; rw [eg] at q1 q2; obtain ⟨e, D, s, M, E, D', s', M', E'⟩ := v
        replace cb : Ci e D s M E D' s' M' E' _ := cb
        generalize rkV (e, D, s, M, E, D', s', M', E') = z at *
        rcases z with _ | ⟨α, β⟩
        · exact absurd rfl hn
        obtain rfl : e = false := cb.1
        have ho := cb.ok; obtain ⟨m, hm⟩ : ∃ m, midI (some (α, β)) = m := ⟨_, rfl⟩; obtain ⟨_, _, _, k4, _, _⟩ := halves ho hm; have j1 := lo_eq ho; have j2 := hi_eq ho; have g1 := (wit_lo ho).1; have g2 := (wit_lo ho).2; rw [j1.1, hm] at g1 q1; rw [j2.1, hm] at g2 q2; exact boxHalves_main a0 len0 cap0 i w rb _ _ α β m _ _ _ _ _ _ _ _ hT qb (big_no h0) h0 (by omega) p1 h1 hv cb rfl rfl q1 q2 (by rw [bxLo_len, hlm]) (by rw [bxHi_len, hlm]) hm g1 g2 k4
    · exact boxHalves_emp a0 len0 cap0 w l0 hT (big_no h0) e0 h1
  · exact boxHalves_far a0 len0 cap0 w hT (big_yes h0)
end Go.Proofs.YtpnmphofengoeaaDoor
