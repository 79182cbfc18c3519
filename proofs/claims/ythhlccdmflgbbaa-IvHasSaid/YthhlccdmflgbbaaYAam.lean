/-
  Contracts and words that the statement's proof rests on, several texts in one: Kg, Jt, Kl, Gm, Gq, Ca, Ga.
-/
import Derived.Below
import Derived.BigQuiet
import Derived.Carry
import Derived.Deep.DeepCutAuto
import Derived.Deep.Draws
import Derived.Deep.MidRow
import Derived.Deep.QuietTactic
import Derived.Deep.RegionHeld3
import Derived.Deep.RegionWith
import Derived.IntWalk
import Derived.Laws.CopyOwn
import Derived.Laws.MakeOwn
import Derived.Laws.OwnMore
import Derived.Laws.Rows
import Derived.Lib.BitFns
import Derived.Lib.Hide
import Derived.Maps.AppendAt
import Derived.StillTailTactics
import Derived.Test.YthhlccdmflgbbaaRows
import Derived.WalkKit
import Derived.WalkLawsBesides
import Derived.WalkSpells
import Derived.Test.YthhlccdmflgbbaaYAad
import Derived.Test.YthhlccdmflgbbaaYAae
import Derived.Test.YthhlccdmflgbbaaYAaf
import Derived.Test.YthhlccdmflgbbaaYAag
import Derived.Test.YthhlccdmflgbbaaYAai
import Derived.Test.YthhlccdmflgbbaaYAaj
import Derived.Test.YthhlccdmflgbbaaYAal
/-
  What num.Least and Most do, and the document's.
-/
namespace Go.Proofs.Ythhlccdmflgbbaa
open Go.RowKit
set_option linter.unusedVariables false
set_option linter.unusedSimpArgs false
set_option maxRecDepth 100000

/-- A slice of numbers, as they came in or as they are; their places are l. -/
def Nl (w : World) (A : Option Addr) (n c : Nat) (l : List Int) : Prop :=
  l.length = n ∧ n ≤ c ∧ n ≤ 1099511627776 ∧ (0 < n → ∃ b o, A = some ⟨b, o, none⟩ ∧ ∀ k, k < n → ∃ D s M E, w.cell? ⟨b, o + k * 4, none⟩ = some (.int .i64 D) ∧ w.cell? ⟨b, o + k * 4 + 1, none⟩ = some (.bool s) ∧ w.cell? ⟨b, o + k * 4 + 2, none⟩ = some (.int .u64 M) ∧ w.cell? ⟨b, o + k * 4 + 3, none⟩ = some (.int .i64 E) ∧ M < 18446744073709551616 ∧ rk D s M E = l.getD k 0)
theorem Nl.below {w w' : World} {A : Option Addr} {n c : Nat} {l : List Int} (h : Nl w A n c l) (hb : Below w.heap.size w w') : Nl w' A n c l := by
  obtain ⟨h1, h2, h3, h4⟩ := h
  refine ⟨h1, h2, h3, fun hn => ?_⟩
  obtain ⟨b, o, e, hc⟩ := h4 hn
  refine ⟨b, o, e, fun k hk => ?_⟩
  obtain ⟨D, s, M, E, c0, c1, c2, c3, hM, hr⟩ := hc k hk
  exact ⟨D, s, M, E, (hb.cell (p := ⟨b, _, none⟩) (block_lt_of_cell c0)).trans c0, (hb.cell (p := ⟨b, _, none⟩) (block_lt_of_cell c1)).trans c1, (hb.cell (p := ⟨b, _, none⟩) (block_lt_of_cell c2)).trans c2, (hb.cell (p := ⟨b, _, none⟩) (block_lt_of_cell c3)).trans c3, hM, hr⟩
def Jo.Fact.nl (n : Nat) (l : List Int) : Jo.Fact := ⟨fun v w => ∃ A c, v = .slice A n c ∧ Nl w A n c l, fun v w w' h b => by
  obtain ⟨A, c, e, h⟩ := h
  exact ⟨A, c, e, h.below b⟩⟩
def Jo.Fact.num (r : Int) : Jo.Fact := ⟨fun v w => ∃ K s M E, v = .agg #[.int .i64 K, .bool s, .int .u64 M, .int .i64 E] ∧ Fq K s M E r, fun v w w' h b => h⟩
/-- The least place, the greatest. -/
def mnp (l : List Int) : Int := l.foldl min TP
def mxp (l : List Int) : Int := l.foldl max (-TP)
theorem mnp_take {l : List Int} {k : Nat} (h : k < l.length) : mnp (l.take (k + 1)) = min (mnp (l.take k)) (l.getD k 0) := by
  unfold mnp
  rw [List.take_succ_eq_append_getElem h, List.foldl_append]
  simp [List.getD_eq_getElem?_getD, h]
theorem mxp_take {l : List Int} {k : Nat} (h : k < l.length) : mxp (l.take (k + 1)) = max (mxp (l.take k)) (l.getD k 0) := by
  unfold mxp
  rw [List.take_succ_eq_append_getElem h, List.foldl_append]
  simp [List.getD_eq_getElem?_getD, h]
def NInv (w : World) (g3 : Nat) (r : Int) (wr : World) : Prop :=
  ∃ K s M E, Bo wr w.heap.size #[.int .i64 0, .bool false, .int .u64 0, .int .i64 0] 24 ∧ Bo wr g3 #[.int .i64 K, .bool s, .int .u64 M, .int .i64 E] 24 ∧ Fq K s M E r ∧ Below w.heap.size w wr
set_option maxHeartbeats 4000000 in
theorem nLeast {w : World} {A : Option Addr} {n c : Nat} {l : List Int} {r : Int} (h : Nl w A n c l) (hr : mnp l = r) : Calls Try.prog 40 #[.slice A n c] w (PN w r) := by
  have HR := Lib.hid hr
  have HLn := Lib.hid h.1
  have hcap := h.2.1
  have hbig := h.2.2.1
  have hD0 := h
  clear hr
  go_enter Try.func40, Try.ntmps40
  go_upto_region 1 with (fail)
  have XR := (Bo.newAt w (g := w.heap.size) (by simp) #[.int .i64 0, .bool false, .int .u64 0, .int .i64 0] 24)
  have HB := Lib.hid (bel1 w (.cells #[.int .i64 0, .bool false, .int .u64 0, .int .i64 0] 24))
  replace h := h.below HB.out
  generalize hW1 : (w.alloc (.cells #[.int .i64 0, .bool false, .int .u64 0, .int .i64 0] 24)) = w1 at *
  clear hW1
  go_wp2_with fail
  refine (nInf (s := false) rfl).mono ?_
  rintro ee w2 ⟨K1, s1, M1, E1, rfl, q1, B⟩
  replace XR := XR.below B
  replace h := h.below B
  replace HB := Lib.hid (bt HB.out B)
  clear B
  go_upto_region 2 with (fail)
  have hg3 := XR.lt
  have lX3 := Nat.le_refl (World.heap w2).size
  have nX3XR := XR.lt
  replace XR := XR.below (bel1 _ (.cells #[.int .i64 K1, .bool s1, .int .u64 M1, .int .i64 E1] 24))
  replace h := h.below (bel1 _ (.cells #[.int .i64 K1, .bool s1, .int .u64 M1, .int .i64 E1] 24))
  replace HB := Lib.hid (bt HB.out (bel1 _ (.cells #[.int .i64 K1, .bool s1, .int .u64 M1, .int .i64 E1] 24)))
  have X3 := Bo.new w2 #[.int .i64 K1, .bool s1, .int .u64 M1, .int .i64 E1] 24
  generalize hWn : World.alloc w2 (.cells #[.int .i64 K1, .bool s1, .int .u64 M1, .int .i64 E1] 24) = w3 at *
  clear hWn
  go_wp2_with fail
  generalize w2.heap.size = g3 at *
  clear h w1
  go_loopw [9] (fun i wr => ∃ k : Nat, k ≤ n ∧ i = .int .i64 k ∧ NInv w g3 (mnp (l.take k)) wr) (fun i _ => n - (intOf i).toNat)
  case atStart => exact ⟨0, Nat.zero_le _, rfl, _, _, _, _, XR, X3, q1, HB.out⟩
  case round =>
    obtain ⟨k, hk, rfl, hI⟩ := hrel
    obtain ⟨K1, s1, M1, E1, XR, X3, q1, hB⟩ := hI
    have HB := Lib.hid hB
    have h := hD0.below hB
    clear hB
    by_cases hlt : k < n
    · obtain ⟨b, o, rfl, hcell⟩ := h.2.2.2 (by omega)
      obtain ⟨D, s, M, E, c0, c1, c2, c3, hM, hx⟩ := hcell k hlt
      clear hcell h hD0
      have ht := mnp_take (l := l) (k := k) (by rw [HLn.out]; exact hlt)
      rw [← hx] at ht
      generalize mnp (l.take k) = R at *
      obtain ⟨x, hX⟩ : ∃ x, rk D s M E = x := ⟨_, rfl⟩
      rw [hX] at ht
      have HX := Lib.hid hX
      have HT := Lib.hid ht
      obtain ⟨z, hz⟩ : ∃ z, cmpI x R = z := ⟨_, rfl⟩
      have HZ := Lib.hid (show cmpI (rk D s M E) (rk K1 s1 M1 E1) = z by rw [hX, q1.rk]; exact hz)
      clear ht hX hx
      have i1 : (k : Int) < n := by omega
      have i2 : (0 : Int) ≤ k := by omega
      go_upto_region 5 with (fail)
      have hgd := X3.lt
      have lX5 := Nat.le_refl (World.heap wr).size
      have nX5XR := XR.lt
      have nX5X3 := X3.lt
      replace XR := XR.below (bel1 _ (.cells #[.int .i64 D, .bool s, .int .u64 M, .int .i64 E] 24))
      replace X3 := X3.below (bel1 _ (.cells #[.int .i64 D, .bool s, .int .u64 M, .int .i64 E] 24))
      replace HB := Lib.hid (bt HB.out (bel1 _ (.cells #[.int .i64 D, .bool s, .int .u64 M, .int .i64 E] 24)))
      have X5 := Bo.new wr #[.int .i64 D, .bool s, .int .u64 M, .int .i64 E] 24
      generalize hWn : World.alloc wr (.cells #[.int .i64 D, .bool s, .int .u64 M, .int .i64 E] 24) = w3 at *
      clear hWn
      clear c0 c1 c2 c3 lX5
      obtain ⟨xX30, xX31, xX32, xX33⟩ := X3.ce4 rfl rfl rfl rfl
      obtain ⟨xX50, xX51, xX52, xX53⟩ := X5.ce4 rfl rfl rfl rfl
      go_wp2_with fail
      refine (nCmp hM q1.top HZ.out).mono ?_
      rintro ee w4 ⟨rfl, B⟩
      clear xX30 xX31 xX32 xX33 xX50 xX51 xX52 xX53
      replace XR := XR.below B
      replace X3 := X3.below B
      replace X5 := X5.below B
      replace HB := Lib.hid (bt HB.out B)
      clear B
      by_cases hb : x < R
      · obtain rfl : -1 = z := by rw [← hz, cmpI_lt hb]
        have hT2 := HT.out
        rw [show min R x = x by omega] at hT2
        obtain ⟨xX50, xX51, xX52, xX53⟩ := X5.ce4 rfl rfl rfl rfl
        go_wp2_with fail
        refine (nTaken hM HX.out).mono ?_
        rintro ee w5 ⟨K2, s2, M2, E2, rfl, q2, B⟩
        clear xX50 xX51 xX52 xX53
        replace XR := XR.below B
        replace X3 := X3.below B
        replace X5 := X5.below B
        replace HB := Lib.hid (bt HB.out B)
        clear B
        obtain ⟨xX30, xX31, xX32, xX33⟩ := X3.ce4 rfl rfl rfl rfl
        have zX30 := X3.frozen
        go_upto_region 7 with (fail)
        clear xX30 zX30 xX31 xX32 xX33
        have SX := StN.mk4 X3 (.int .i64 K2) (.bool s2) (.int .u64 M2) (.int .i64 E2)
        replace XR := XR.stn SX (by omega)
        replace X5 := X5.stn SX (by omega)
        replace HB := Lib.hid (SX.below HB.out (by omega))
        replace X3 := SX.box
        clear SX
        generalize (World.setCell (World.setCell (World.setCell (World.setCell w5 ⟨g3, 0, none⟩ (.int .i64 K2)) ⟨g3, 1, none⟩ (.bool s2)) ⟨g3, 2, none⟩ (.int .u64 M2)) ⟨g3, 3, none⟩ (.int .i64 E2)) = w6 at *
        go_wp2
        go_roundw
        case rel =>
          refine ⟨k + 1, by omega, by go_num, K2, s2, M2, E2, XR, X3, ?_, HB.out⟩
          rw [hT2]; exact q2
        case measure => simp [intOf]; omega
      · have hT2 := HT.out
        rw [show min R x = R by omega] at hT2
        have hz0 : ¬ z < 0 := by
          rw [← hz]
          rcases cmpI_tri x R with ⟨a1, a2⟩ | ⟨a1, a2⟩ | ⟨a1, a2⟩ <;> rw [a2] <;> omega
        have e0 : decide (z < 0) = false := decide_eq_false hz0
        go_wp2
        go_roundw
        case rel =>
          refine ⟨k + 1, by omega, by go_num, K1, s1, M1, E1, XR, X3, ?_, HB.out⟩
          rw [hT2]; exact q1
        case measure => simp [intOf]; omega
    · obtain rfl : k = n := by omega
      rw [List.take_of_length_le (by rw [HLn.out]; omega), HR.out] at q1
      obtain ⟨xXR0, xXR1, xXR2, xXR3⟩ := XR.ce4 rfl rfl rfl rfl
      have zXR0 := XR.frozen
      obtain ⟨xX30, xX31, xX32, xX33⟩ := X3.ce4 rfl rfl rfl rfl
      go_wp2
      clear xXR0 zXR0 xXR1 xXR2 xXR3 xX30 xX31 xX32 xX33
      have SX := StN.mk4 XR (.int .i64 K1) (.bool s1) (.int .u64 M1) (.int .i64 E1)
      exact bodyPost_ret (v := .agg #[.int .i64 K1, .bool s1, .int .u64 M1, .int .i64 E1]) (by simp [results, Try.results40, go_sem, SX.box.cell]) rfl ⟨_, _, _, _, rfl, q1, (SX.below HB.out (by omega))⟩
set_option maxHeartbeats 4000000 in
theorem nMost {w : World} {A : Option Addr} {n c : Nat} {l : List Int} {r : Int} (h : Nl w A n c l) (hr : mxp l = r) : Calls Try.prog 39 #[.slice A n c] w (PN w r) := by
  have HR := Lib.hid hr
  have HLn := Lib.hid h.1
  have hcap := h.2.1
  have hbig := h.2.2.1
  have hD0 := h
  clear hr
  go_enter Try.func39, Try.ntmps39
  go_upto_region 1 with (fail)
  have XR := (Bo.newAt w (g := w.heap.size) (by simp) #[.int .i64 0, .bool false, .int .u64 0, .int .i64 0] 24)
  have HB := Lib.hid (bel1 w (.cells #[.int .i64 0, .bool false, .int .u64 0, .int .i64 0] 24))
  replace h := h.below HB.out
  generalize hW1 : (w.alloc (.cells #[.int .i64 0, .bool false, .int .u64 0, .int .i64 0] 24)) = w1 at *
  clear hW1
  go_wp2_with fail
  refine (nInf (s := true) rfl).mono ?_
  rintro ee w2 ⟨K1, s1, M1, E1, rfl, q1, B⟩
  replace XR := XR.below B
  replace h := h.below B
  replace HB := Lib.hid (bt HB.out B)
  clear B
  go_upto_region 2 with (fail)
  have hg3 := XR.lt
  have lX3 := Nat.le_refl (World.heap w2).size
  have nX3XR := XR.lt
  replace XR := XR.below (bel1 _ (.cells #[.int .i64 K1, .bool s1, .int .u64 M1, .int .i64 E1] 24))
  replace h := h.below (bel1 _ (.cells #[.int .i64 K1, .bool s1, .int .u64 M1, .int .i64 E1] 24))
  replace HB := Lib.hid (bt HB.out (bel1 _ (.cells #[.int .i64 K1, .bool s1, .int .u64 M1, .int .i64 E1] 24)))
  have X3 := Bo.new w2 #[.int .i64 K1, .bool s1, .int .u64 M1, .int .i64 E1] 24
  generalize hWn : World.alloc w2 (.cells #[.int .i64 K1, .bool s1, .int .u64 M1, .int .i64 E1] 24) = w3 at *
  clear hWn
  go_wp2_with fail
  generalize w2.heap.size = g3 at *
  clear h w1
  go_loopw [9] (fun i wr => ∃ k : Nat, k ≤ n ∧ i = .int .i64 k ∧ NInv w g3 (mxp (l.take k)) wr) (fun i _ => n - (intOf i).toNat)
  case atStart => exact ⟨0, Nat.zero_le _, rfl, _, _, _, _, XR, X3, q1, HB.out⟩
  case round =>
    obtain ⟨k, hk, rfl, hI⟩ := hrel
    obtain ⟨K1, s1, M1, E1, XR, X3, q1, hB⟩ := hI
    have HB := Lib.hid hB
    have h := hD0.below hB
    clear hB
    by_cases hlt : k < n
    · obtain ⟨b, o, rfl, hcell⟩ := h.2.2.2 (by omega)
      obtain ⟨D, s, M, E, c0, c1, c2, c3, hM, hx⟩ := hcell k hlt
      clear hcell h hD0
      have ht := mxp_take (l := l) (k := k) (by rw [HLn.out]; exact hlt)
      rw [← hx] at ht
      generalize mxp (l.take k) = R at *
      obtain ⟨x, hX⟩ : ∃ x, rk D s M E = x := ⟨_, rfl⟩
      rw [hX] at ht
      have HX := Lib.hid hX
      have HT := Lib.hid ht
      obtain ⟨z, hz⟩ : ∃ z, cmpI x R = z := ⟨_, rfl⟩
      have HZ := Lib.hid (show cmpI (rk D s M E) (rk K1 s1 M1 E1) = z by rw [hX, q1.rk]; exact hz)
      clear ht hX hx
      have i1 : (k : Int) < n := by omega
      have i2 : (0 : Int) ≤ k := by omega
      go_upto_region 5 with (fail)
      have hgd := X3.lt
      have lX5 := Nat.le_refl (World.heap wr).size
      have nX5XR := XR.lt
      have nX5X3 := X3.lt
      replace XR := XR.below (bel1 _ (.cells #[.int .i64 D, .bool s, .int .u64 M, .int .i64 E] 24))
      replace X3 := X3.below (bel1 _ (.cells #[.int .i64 D, .bool s, .int .u64 M, .int .i64 E] 24))
      replace HB := Lib.hid (bt HB.out (bel1 _ (.cells #[.int .i64 D, .bool s, .int .u64 M, .int .i64 E] 24)))
      have X5 := Bo.new wr #[.int .i64 D, .bool s, .int .u64 M, .int .i64 E] 24
      generalize hWn : World.alloc wr (.cells #[.int .i64 D, .bool s, .int .u64 M, .int .i64 E] 24) = w3 at *
      clear hWn
      clear c0 c1 c2 c3 lX5
      obtain ⟨xX30, xX31, xX32, xX33⟩ := X3.ce4 rfl rfl rfl rfl
      obtain ⟨xX50, xX51, xX52, xX53⟩ := X5.ce4 rfl rfl rfl rfl
      go_wp2_with fail
      refine (nCmp hM q1.top HZ.out).mono ?_
      rintro ee w4 ⟨rfl, B⟩
      clear xX30 xX31 xX32 xX33 xX50 xX51 xX52 xX53
      replace XR := XR.below B
      replace X3 := X3.below B
      replace X5 := X5.below B
      replace HB := Lib.hid (bt HB.out B)
      clear B
      by_cases hb : R < x
      · obtain rfl : 1 = z := by rw [← hz, cmpI_gt hb]
        have hT2 := HT.out
        rw [show max R x = x by omega] at hT2
        obtain ⟨xX50, xX51, xX52, xX53⟩ := X5.ce4 rfl rfl rfl rfl
        go_wp2_with fail
        refine (nTaken hM HX.out).mono ?_
        rintro ee w5 ⟨K2, s2, M2, E2, rfl, q2, B⟩
        clear xX50 xX51 xX52 xX53
        replace XR := XR.below B
        replace X3 := X3.below B
        replace X5 := X5.below B
        replace HB := Lib.hid (bt HB.out B)
        clear B
        obtain ⟨xX30, xX31, xX32, xX33⟩ := X3.ce4 rfl rfl rfl rfl
        have zX30 := X3.frozen
        go_upto_region 7 with (fail)
        clear xX30 zX30 xX31 xX32 xX33
        have SX := StN.mk4 X3 (.int .i64 K2) (.bool s2) (.int .u64 M2) (.int .i64 E2)
        replace XR := XR.stn SX (by omega)
        replace X5 := X5.stn SX (by omega)
        replace HB := Lib.hid (SX.below HB.out (by omega))
        replace X3 := SX.box
        clear SX
        generalize (World.setCell (World.setCell (World.setCell (World.setCell w5 ⟨g3, 0, none⟩ (.int .i64 K2)) ⟨g3, 1, none⟩ (.bool s2)) ⟨g3, 2, none⟩ (.int .u64 M2)) ⟨g3, 3, none⟩ (.int .i64 E2)) = w6 at *
        go_wp2
        go_roundw
        case rel =>
          refine ⟨k + 1, by omega, by go_num, K2, s2, M2, E2, XR, X3, ?_, HB.out⟩
          rw [hT2]; exact q2
        case measure => simp [intOf]; omega
      · have hT2 := HT.out
        rw [show max R x = R by omega] at hT2
        have hz0 : ¬ 0 < z := by
          rw [← hz]
          rcases cmpI_tri x R with ⟨a1, a2⟩ | ⟨a1, a2⟩ | ⟨a1, a2⟩ <;> rw [a2] <;> omega
        have e0 : decide (0 < z) = false := decide_eq_false hz0
        go_wp2
        go_roundw
        case rel =>
          refine ⟨k + 1, by omega, by go_num, K1, s1, M1, E1, XR, X3, ?_, HB.out⟩
          rw [hT2]; exact q1
        case measure => simp [intOf]; omega
    · obtain rfl : k = n := by omega
      rw [List.take_of_length_le (by rw [HLn.out]; omega), HR.out] at q1
      obtain ⟨xXR0, xXR1, xXR2, xXR3⟩ := XR.ce4 rfl rfl rfl rfl
      have zXR0 := XR.frozen
      obtain ⟨xX30, xX31, xX32, xX33⟩ := X3.ce4 rfl rfl rfl rfl
      go_wp2
      clear xXR0 zXR0 xXR1 xXR2 xXR3 xX30 xX31 xX32 xX33
      have SX := StN.mk4 XR (.int .i64 K1) (.bool s1) (.int .u64 M1) (.int .i64 E1)
      exact bodyPost_ret (v := .agg #[.int .i64 K1, .bool s1, .int .u64 M1, .int .i64 E1]) (by simp [results, Try.results39, go_sem, SX.box.cell]) rfl ⟨_, _, _, _, rfl, q1, (SX.below HB.out (by omega))⟩
set_option maxHeartbeats 4000000 in
theorem yLeast {w : World} {A : Option Addr} {n c : Nat} {l : List Int} {r : Int} (h : Nl w A n c l) (hr : mnp l = r) : Calls Try.prog 52 #[.slice A n c] w (PN w r) := by
  have HR := Lib.hid hr
  have HLn := Lib.hid h.1
  have hcap := h.2.1
  have hbig := h.2.2.1
  have hD0 := h
  clear hr
  go_enter Try.func52, Try.ntmps52
  go_upto_region 1 with (fail)
  have XR := (Bo.newAt w (g := w.heap.size) (by simp) #[.int .i64 0, .bool false, .int .u64 0, .int .i64 0] 24)
  have HB := Lib.hid (bel1 w (.cells #[.int .i64 0, .bool false, .int .u64 0, .int .i64 0] 24))
  replace h := h.below HB.out
  generalize hW1 : (w.alloc (.cells #[.int .i64 0, .bool false, .int .u64 0, .int .i64 0] 24)) = w1 at *
  clear hW1
  go_wp2_with fail
  refine (yInf (s := false) rfl).mono ?_
  rintro ee w2 ⟨K1, s1, M1, E1, rfl, q1, B⟩
  replace XR := XR.below B
  replace h := h.below B
  replace HB := Lib.hid (bt HB.out B)
  clear B
  go_upto_region 2 with (fail)
  have hg3 := XR.lt
  have lX3 := Nat.le_refl (World.heap w2).size
  have nX3XR := XR.lt
  replace XR := XR.below (bel1 _ (.cells #[.int .i64 K1, .bool s1, .int .u64 M1, .int .i64 E1] 24))
  replace h := h.below (bel1 _ (.cells #[.int .i64 K1, .bool s1, .int .u64 M1, .int .i64 E1] 24))
  replace HB := Lib.hid (bt HB.out (bel1 _ (.cells #[.int .i64 K1, .bool s1, .int .u64 M1, .int .i64 E1] 24)))
  have X3 := Bo.new w2 #[.int .i64 K1, .bool s1, .int .u64 M1, .int .i64 E1] 24
  generalize hWn : World.alloc w2 (.cells #[.int .i64 K1, .bool s1, .int .u64 M1, .int .i64 E1] 24) = w3 at *
  clear hWn
  go_wp2_with fail
  generalize w2.heap.size = g3 at *
  clear h w1
  go_loopw [4] (fun i wr => ∃ k : Nat, k ≤ n ∧ i = .int .i64 k ∧ NInv w g3 (mnp (l.take k)) wr) (fun i _ => n - (intOf i).toNat)
  case atStart => exact ⟨0, Nat.zero_le _, rfl, _, _, _, _, XR, X3, q1, HB.out⟩
  case round =>
    obtain ⟨k, hk, rfl, hI⟩ := hrel
    obtain ⟨K1, s1, M1, E1, XR, X3, q1, hB⟩ := hI
    have HB := Lib.hid hB
    have h := hD0.below hB
    clear hB
    by_cases hlt : k < n
    · obtain ⟨b, o, rfl, hcell⟩ := h.2.2.2 (by omega)
      obtain ⟨D, s, M, E, c0, c1, c2, c3, hM, hx⟩ := hcell k hlt
      clear hcell h hD0
      have ht := mnp_take (l := l) (k := k) (by rw [HLn.out]; exact hlt)
      rw [← hx] at ht
      generalize mnp (l.take k) = R at *
      obtain ⟨x, hX⟩ : ∃ x, rk D s M E = x := ⟨_, rfl⟩
      rw [hX] at ht
      have HX := Lib.hid hX
      have HT := Lib.hid ht
      obtain ⟨z, hz⟩ : ∃ z, cmpI x R = z := ⟨_, rfl⟩
      have HZ := Lib.hid (show cmpI (rk D s M E) (rk K1 s1 M1 E1) = z by rw [hX, q1.rk]; exact hz)
      clear ht hX hx
      have i1 : (k : Int) < n := by omega
      have i2 : (0 : Int) ≤ k := by omega
      go_upto_region 5 with (fail)
      refine Jo.region_joint (T := [0, 1, 2, 3, 4, 5, 6]) (ds := [some 12, some 13, some 14, some 15, some 16, some 17, some 18]) (ls := [[], [], [0, 1], [2], [], [3, 4], [5]]) (k := 7) (L := [(some 12, 0), (some 13, 1), (some 14, 2), (some 15, 3), (some 16, 4), (some 17, 5), (some 18, 6)]) (fuel := 0) (J := fun wj => Below (World.heap wr).size wr wj)
        (F := [Jo.Fact.eq (.slice (some ⟨b, o, none⟩) n c), Jo.Fact.eq (.int .i64 k), Jo.Fact.eq (.pointer (some ⟨b, o + k * 4, none⟩)), Jo.Fact.eq (.agg #[.int .i64 D, .bool s, .int .u64 M, .int .i64 E]), Jo.Fact.eq (.agg #[.int .i64 K1, .bool s1, .int .u64 M1, .int .i64 E1]), Jo.Fact.eq (.int .i64 z), Jo.Fact.eq (.bool (decide (z < 0)))])
        (by kernel_rfl) (by kernel_rfl) (by decide) rfl rfl (fun _ _ h b => bt h b) ((Below.refl _ _).drew) ?_ (fun vs w4 hJ hd => ?_)
      · refine Jo.jd 0 (some 12) [] (Jo.Fact.eq (.slice (some ⟨b, o, none⟩) n c)) rfl rfl rfl rfl (fun vs wj hJ hd K hK => ?_) ?_
        · simp only [Jo.putl, Jo.ze, Act.put, Jo.za, Jo.zb, Jo.zc] at hK ⊢
          clear hd
          go_simp
          exact hK.out _ _ rfl (Below.refl _ _)
        refine Jo.jd 1 (some 13) [] (Jo.Fact.eq (.int .i64 k)) rfl rfl rfl rfl (fun vs wj hJ hd K hK => ?_) ?_
        · simp only [Jo.putl, Jo.ze, Act.put, Jo.za, Jo.zb, Jo.zc] at hK ⊢
          clear hd
          go_simp
          exact hK.out _ _ rfl (Below.refl _ _)
        refine Jo.jd 2 (some 14) [(some 12, 0), (some 13, 1)] (Jo.Fact.eq (.pointer (some ⟨b, o + k * 4, none⟩))) rfl rfl rfl rfl (fun vs wj hJ hd K hK => ?_) ?_
        · simp only [Jo.putl, Jo.zd, Jo.ze, Act.put, Jo.za, Jo.zb, Jo.zc] at hK ⊢
          rw [show vs 0 = _ from hd 0 (by decide), show vs 1 = _ from hd 1 (by decide)] at hK ⊢
          clear hd
          go_simp
          exact hK.out _ _ rfl (Below.refl _ _)
        refine Jo.jd 3 (some 15) [(some 14, 2)] (Jo.Fact.eq (.agg #[.int .i64 D, .bool s, .int .u64 M, .int .i64 E])) rfl rfl rfl rfl (fun vs wj hJ hd K hK => ?_) ?_
        · simp only [Jo.putl, Jo.zd, Jo.ze, Act.put, Jo.za, Jo.zb, Jo.zc] at hK ⊢
          rw [show vs 2 = _ from hd 2 (by decide)] at hK ⊢
          clear hd
          have c0' := (hJ.cell (p := ⟨b, _, none⟩) (block_lt_of_cell c0)).trans c0
          have c1' := (hJ.cell (p := ⟨b, _, none⟩) (block_lt_of_cell c1)).trans c1
          have c2' := (hJ.cell (p := ⟨b, _, none⟩) (block_lt_of_cell c2)).trans c2
          have c3' := (hJ.cell (p := ⟨b, _, none⟩) (block_lt_of_cell c3)).trans c3
          go_simp
          exact hK.out _ _ rfl (Below.refl _ _)
        refine Jo.jd 4 (some 16) [] (Jo.Fact.eq (.agg #[.int .i64 K1, .bool s1, .int .u64 M1, .int .i64 E1])) rfl rfl rfl rfl (fun vs wj hJ hd K hK => ?_) ?_
        · simp only [Jo.putl, Jo.ze, Act.put, Jo.za, Jo.zb, Jo.zc] at hK ⊢
          clear hd
          have xX30 := (X3.below hJ).a 0 (.int .i64 K1) rfl
          have xX31 := (X3.below hJ).a 1 (.bool s1) rfl
          have xX32 := (X3.below hJ).a 2 (.int .u64 M1) rfl
          have xX33 := (X3.below hJ).a 3 (.int .i64 E1) rfl
          go_simp
          exact hK.out _ _ rfl (Below.refl _ _)
        refine Jo.jd 5 (some 17) [(some 15, 3), (some 16, 4)] (Jo.Fact.eq (.int .i64 z)) rfl rfl rfl rfl (fun vs wj hJ hd K hK => ?_) ?_
        · simp only [Jo.putl, Jo.zd, Jo.ze, Act.put, Jo.za, Jo.zb, Jo.zc] at hK ⊢
          rw [show vs 3 = _ from hd 3 (by decide), show vs 4 = _ from hd 4 (by decide)] at hK ⊢
          clear hd
          go_simp
          refine (yCmp hM q1.top HZ.out).mono ?_
          rintro ee wk ⟨rfl, B⟩
          exact hK.out _ _ rfl B
        refine Jo.jd 6 (some 18) [(some 17, 5)] (Jo.Fact.eq (.bool (decide (z < 0)))) rfl rfl rfl rfl (fun vs wj hJ hd K hK => ?_) ?_
        · simp only [Jo.putl, Jo.zd, Jo.ze, Act.put, Jo.za, Jo.zb, Jo.zc] at hK ⊢
          rw [show vs 5 = _ from hd 5 (by decide)] at hK ⊢
          clear hd
          go_simp
          exact hK.out _ _ rfl (Below.refl _ _)
        exact Jo.Steps.nil
      simp only [Jo.putl, Jo.zd, Jo.ze, Act.put, Jo.za, Jo.zb, Jo.zc]
      rw [show vs 0 = _ from hd 0 (by decide), show vs 1 = _ from hd 1 (by decide), show vs 3 = _ from hd 3 (by decide), show vs 4 = _ from hd 4 (by decide), show vs 5 = _ from hd 5 (by decide), show vs 6 = _ from hd 6 (by decide)]
      clear hd
      replace XR := XR.below hJ
      replace X3 := X3.below hJ
      replace HB := Lib.hid (bt HB.out hJ)
      refine Jo.jdone (by kernel_rfl) ?_
      replace c0 := (hJ.cell (p := ⟨b, _, none⟩) (block_lt_of_cell c0)).trans c0
      replace c1 := (hJ.cell (p := ⟨b, _, none⟩) (block_lt_of_cell c1)).trans c1
      replace c2 := (hJ.cell (p := ⟨b, _, none⟩) (block_lt_of_cell c2)).trans c2
      replace c3 := (hJ.cell (p := ⟨b, _, none⟩) (block_lt_of_cell c3)).trans c3
      by_cases hb : x < R
      · obtain rfl : -1 = z := by rw [← hz, cmpI_lt hb]
        have hT2 := HT.out
        rw [show min R x = x by omega] at hT2
        go_wp2_with fail
        refine (yTaken hM HX.out).mono ?_
        rintro ee w5 ⟨K2, s2, M2, E2, rfl, q2, B⟩
        replace XR := XR.below B
        replace X3 := X3.below B
        replace HB := Lib.hid (bt HB.out B)
        clear B
        obtain ⟨xX30, xX31, xX32, xX33⟩ := X3.ce4 rfl rfl rfl rfl
        have zX30 := X3.frozen
        go_upto_region 4 with (fail)
        clear xX30 zX30 xX31 xX32 xX33
        have SX := StN.mk4 X3 (.int .i64 K2) (.bool s2) (.int .u64 M2) (.int .i64 E2)
        replace XR := XR.stn SX (by omega)
        replace HB := Lib.hid (SX.below HB.out (by omega))
        replace X3 := SX.box
        clear SX
        generalize (World.setCell (World.setCell (World.setCell (World.setCell w5 ⟨g3, 0, none⟩ (.int .i64 K2)) ⟨g3, 1, none⟩ (.bool s2)) ⟨g3, 2, none⟩ (.int .u64 M2)) ⟨g3, 3, none⟩ (.int .i64 E2)) = w6 at *
        go_wp2
        go_roundw
        case rel =>
          refine ⟨k + 1, by omega, by go_num, K2, s2, M2, E2, XR, X3, ?_, HB.out⟩
          rw [hT2]; exact q2
        case measure => simp [intOf]; omega
      · have hT2 := HT.out
        rw [show min R x = R by omega] at hT2
        have hz0 : ¬ z < 0 := by
          rw [← hz]
          rcases cmpI_tri x R with ⟨a1, a2⟩ | ⟨a1, a2⟩ | ⟨a1, a2⟩ <;> rw [a2] <;> omega
        have e0 : decide (z < 0) = false := decide_eq_false hz0
        go_wp2
        go_roundw
        case rel =>
          refine ⟨k + 1, by omega, by go_num, K1, s1, M1, E1, XR, X3, ?_, HB.out⟩
          rw [hT2]; exact q1
        case measure => simp [intOf]; omega
    · obtain rfl : k = n := by omega
      rw [List.take_of_length_le (by rw [HLn.out]; omega), HR.out] at q1
      obtain ⟨xXR0, xXR1, xXR2, xXR3⟩ := XR.ce4 rfl rfl rfl rfl
      have zXR0 := XR.frozen
      obtain ⟨xX30, xX31, xX32, xX33⟩ := X3.ce4 rfl rfl rfl rfl
      go_wp2
      clear xXR0 zXR0 xXR1 xXR2 xXR3 xX30 xX31 xX32 xX33
      have SX := StN.mk4 XR (.int .i64 K1) (.bool s1) (.int .u64 M1) (.int .i64 E1)
      exact bodyPost_ret (v := .agg #[.int .i64 K1, .bool s1, .int .u64 M1, .int .i64 E1]) (by simp [results, Try.results52, go_sem, SX.box.cell]) rfl ⟨_, _, _, _, rfl, q1, (SX.below HB.out (by omega))⟩
set_option maxHeartbeats 4000000 in
theorem yMost {w : World} {A : Option Addr} {n c : Nat} {l : List Int} {r : Int} (h : Nl w A n c l) (hr : mxp l = r) : Calls Try.prog 51 #[.slice A n c] w (PN w r) := by
  have HR := Lib.hid hr
  have HLn := Lib.hid h.1
  have hcap := h.2.1
  have hbig := h.2.2.1
  have hD0 := h
  clear hr
  go_enter Try.func51, Try.ntmps51
  go_upto_region 1 with (fail)
  have XR := (Bo.newAt w (g := w.heap.size) (by simp) #[.int .i64 0, .bool false, .int .u64 0, .int .i64 0] 24)
  have HB := Lib.hid (bel1 w (.cells #[.int .i64 0, .bool false, .int .u64 0, .int .i64 0] 24))
  replace h := h.below HB.out
  generalize hW1 : (w.alloc (.cells #[.int .i64 0, .bool false, .int .u64 0, .int .i64 0] 24)) = w1 at *
  clear hW1
  go_wp2_with fail
  refine (yInf (s := true) rfl).mono ?_
  rintro ee w2 ⟨K1, s1, M1, E1, rfl, q1, B⟩
  replace XR := XR.below B
  replace h := h.below B
  replace HB := Lib.hid (bt HB.out B)
  clear B
  go_upto_region 2 with (fail)
  have hg3 := XR.lt
  have lX3 := Nat.le_refl (World.heap w2).size
  have nX3XR := XR.lt
  replace XR := XR.below (bel1 _ (.cells #[.int .i64 K1, .bool s1, .int .u64 M1, .int .i64 E1] 24))
  replace h := h.below (bel1 _ (.cells #[.int .i64 K1, .bool s1, .int .u64 M1, .int .i64 E1] 24))
  replace HB := Lib.hid (bt HB.out (bel1 _ (.cells #[.int .i64 K1, .bool s1, .int .u64 M1, .int .i64 E1] 24)))
  have X3 := Bo.new w2 #[.int .i64 K1, .bool s1, .int .u64 M1, .int .i64 E1] 24
  generalize hWn : World.alloc w2 (.cells #[.int .i64 K1, .bool s1, .int .u64 M1, .int .i64 E1] 24) = w3 at *
  clear hWn
  go_wp2_with fail
  generalize w2.heap.size = g3 at *
  clear h w1
  go_loopw [4] (fun i wr => ∃ k : Nat, k ≤ n ∧ i = .int .i64 k ∧ NInv w g3 (mxp (l.take k)) wr) (fun i _ => n - (intOf i).toNat)
  case atStart => exact ⟨0, Nat.zero_le _, rfl, _, _, _, _, XR, X3, q1, HB.out⟩
  case round =>
    obtain ⟨k, hk, rfl, hI⟩ := hrel
    obtain ⟨K1, s1, M1, E1, XR, X3, q1, hB⟩ := hI
    have HB := Lib.hid hB
    have h := hD0.below hB
    clear hB
    by_cases hlt : k < n
    · obtain ⟨b, o, rfl, hcell⟩ := h.2.2.2 (by omega)
      obtain ⟨D, s, M, E, c0, c1, c2, c3, hM, hx⟩ := hcell k hlt
      clear hcell h hD0
      have ht := mxp_take (l := l) (k := k) (by rw [HLn.out]; exact hlt)
      rw [← hx] at ht
      generalize mxp (l.take k) = R at *
      obtain ⟨x, hX⟩ : ∃ x, rk D s M E = x := ⟨_, rfl⟩
      rw [hX] at ht
      have HX := Lib.hid hX
      have HT := Lib.hid ht
      obtain ⟨z, hz⟩ : ∃ z, cmpI x R = z := ⟨_, rfl⟩
      have HZ := Lib.hid (show cmpI (rk D s M E) (rk K1 s1 M1 E1) = z by rw [hX, q1.rk]; exact hz)
      clear ht hX hx
      have i1 : (k : Int) < n := by omega
      have i2 : (0 : Int) ≤ k := by omega
      go_upto_region 5 with (fail)
      refine Jo.region_joint (T := [0, 1, 2, 3, 4, 5, 6]) (ds := [some 12, some 13, some 14, some 15, some 16, some 17, some 18]) (ls := [[], [], [0, 1], [2], [], [3, 4], [5]]) (k := 7) (L := [(some 12, 0), (some 13, 1), (some 14, 2), (some 15, 3), (some 16, 4), (some 17, 5), (some 18, 6)]) (fuel := 0) (J := fun wj => Below (World.heap wr).size wr wj)
        (F := [Jo.Fact.eq (.slice (some ⟨b, o, none⟩) n c), Jo.Fact.eq (.int .i64 k), Jo.Fact.eq (.pointer (some ⟨b, o + k * 4, none⟩)), Jo.Fact.eq (.agg #[.int .i64 D, .bool s, .int .u64 M, .int .i64 E]), Jo.Fact.eq (.agg #[.int .i64 K1, .bool s1, .int .u64 M1, .int .i64 E1]), Jo.Fact.eq (.int .i64 z), Jo.Fact.eq (.bool (decide (0 < z)))])
        (by kernel_rfl) (by kernel_rfl) (by decide) rfl rfl (fun _ _ h b => bt h b) ((Below.refl _ _).drew) ?_ (fun vs w4 hJ hd => ?_)
      · refine Jo.jd 0 (some 12) [] (Jo.Fact.eq (.slice (some ⟨b, o, none⟩) n c)) rfl rfl rfl rfl (fun vs wj hJ hd K hK => ?_) ?_
        · simp only [Jo.putl, Jo.ze, Act.put, Jo.za, Jo.zb, Jo.zc] at hK ⊢
          clear hd
          go_simp
          exact hK.out _ _ rfl (Below.refl _ _)
        refine Jo.jd 1 (some 13) [] (Jo.Fact.eq (.int .i64 k)) rfl rfl rfl rfl (fun vs wj hJ hd K hK => ?_) ?_
        · simp only [Jo.putl, Jo.ze, Act.put, Jo.za, Jo.zb, Jo.zc] at hK ⊢
          clear hd
          go_simp
          exact hK.out _ _ rfl (Below.refl _ _)
        refine Jo.jd 2 (some 14) [(some 12, 0), (some 13, 1)] (Jo.Fact.eq (.pointer (some ⟨b, o + k * 4, none⟩))) rfl rfl rfl rfl (fun vs wj hJ hd K hK => ?_) ?_
        · simp only [Jo.putl, Jo.zd, Jo.ze, Act.put, Jo.za, Jo.zb, Jo.zc] at hK ⊢
          rw [show vs 0 = _ from hd 0 (by decide), show vs 1 = _ from hd 1 (by decide)] at hK ⊢
          clear hd
          go_simp
          exact hK.out _ _ rfl (Below.refl _ _)
        refine Jo.jd 3 (some 15) [(some 14, 2)] (Jo.Fact.eq (.agg #[.int .i64 D, .bool s, .int .u64 M, .int .i64 E])) rfl rfl rfl rfl (fun vs wj hJ hd K hK => ?_) ?_
        · simp only [Jo.putl, Jo.zd, Jo.ze, Act.put, Jo.za, Jo.zb, Jo.zc] at hK ⊢
          rw [show vs 2 = _ from hd 2 (by decide)] at hK ⊢
          clear hd
          have c0' := (hJ.cell (p := ⟨b, _, none⟩) (block_lt_of_cell c0)).trans c0
          have c1' := (hJ.cell (p := ⟨b, _, none⟩) (block_lt_of_cell c1)).trans c1
          have c2' := (hJ.cell (p := ⟨b, _, none⟩) (block_lt_of_cell c2)).trans c2
          have c3' := (hJ.cell (p := ⟨b, _, none⟩) (block_lt_of_cell c3)).trans c3
          go_simp
          exact hK.out _ _ rfl (Below.refl _ _)
        refine Jo.jd 4 (some 16) [] (Jo.Fact.eq (.agg #[.int .i64 K1, .bool s1, .int .u64 M1, .int .i64 E1])) rfl rfl rfl rfl (fun vs wj hJ hd K hK => ?_) ?_
        · simp only [Jo.putl, Jo.ze, Act.put, Jo.za, Jo.zb, Jo.zc] at hK ⊢
          clear hd
          have xX30 := (X3.below hJ).a 0 (.int .i64 K1) rfl
          have xX31 := (X3.below hJ).a 1 (.bool s1) rfl
          have xX32 := (X3.below hJ).a 2 (.int .u64 M1) rfl
          have xX33 := (X3.below hJ).a 3 (.int .i64 E1) rfl
          go_simp
          exact hK.out _ _ rfl (Below.refl _ _)
        refine Jo.jd 5 (some 17) [(some 15, 3), (some 16, 4)] (Jo.Fact.eq (.int .i64 z)) rfl rfl rfl rfl (fun vs wj hJ hd K hK => ?_) ?_
        · simp only [Jo.putl, Jo.zd, Jo.ze, Act.put, Jo.za, Jo.zb, Jo.zc] at hK ⊢
          rw [show vs 3 = _ from hd 3 (by decide), show vs 4 = _ from hd 4 (by decide)] at hK ⊢
          clear hd
          go_simp
          refine (yCmp hM q1.top HZ.out).mono ?_
          rintro ee wk ⟨rfl, B⟩
          exact hK.out _ _ rfl B
        refine Jo.jd 6 (some 18) [(some 17, 5)] (Jo.Fact.eq (.bool (decide (0 < z)))) rfl rfl rfl rfl (fun vs wj hJ hd K hK => ?_) ?_
        · simp only [Jo.putl, Jo.zd, Jo.ze, Act.put, Jo.za, Jo.zb, Jo.zc] at hK ⊢
          rw [show vs 5 = _ from hd 5 (by decide)] at hK ⊢
          clear hd
          go_simp
          exact hK.out _ _ rfl (Below.refl _ _)
        exact Jo.Steps.nil
      simp only [Jo.putl, Jo.zd, Jo.ze, Act.put, Jo.za, Jo.zb, Jo.zc]
      rw [show vs 0 = _ from hd 0 (by decide), show vs 1 = _ from hd 1 (by decide), show vs 3 = _ from hd 3 (by decide), show vs 4 = _ from hd 4 (by decide), show vs 5 = _ from hd 5 (by decide), show vs 6 = _ from hd 6 (by decide)]
      clear hd
      replace XR := XR.below hJ
      replace X3 := X3.below hJ
      replace HB := Lib.hid (bt HB.out hJ)
      refine Jo.jdone (by kernel_rfl) ?_
      replace c0 := (hJ.cell (p := ⟨b, _, none⟩) (block_lt_of_cell c0)).trans c0
      replace c1 := (hJ.cell (p := ⟨b, _, none⟩) (block_lt_of_cell c1)).trans c1
      replace c2 := (hJ.cell (p := ⟨b, _, none⟩) (block_lt_of_cell c2)).trans c2
      replace c3 := (hJ.cell (p := ⟨b, _, none⟩) (block_lt_of_cell c3)).trans c3
      by_cases hb : R < x
      · obtain rfl : 1 = z := by rw [← hz, cmpI_gt hb]
        have hT2 := HT.out
        rw [show max R x = x by omega] at hT2
        go_wp2_with fail
        refine (yTaken hM HX.out).mono ?_
        rintro ee w5 ⟨K2, s2, M2, E2, rfl, q2, B⟩
        replace XR := XR.below B
        replace X3 := X3.below B
        replace HB := Lib.hid (bt HB.out B)
        clear B
        obtain ⟨xX30, xX31, xX32, xX33⟩ := X3.ce4 rfl rfl rfl rfl
        have zX30 := X3.frozen
        go_upto_region 4 with (fail)
        clear xX30 zX30 xX31 xX32 xX33
        have SX := StN.mk4 X3 (.int .i64 K2) (.bool s2) (.int .u64 M2) (.int .i64 E2)
        replace XR := XR.stn SX (by omega)
        replace HB := Lib.hid (SX.below HB.out (by omega))
        replace X3 := SX.box
        clear SX
        generalize (World.setCell (World.setCell (World.setCell (World.setCell w5 ⟨g3, 0, none⟩ (.int .i64 K2)) ⟨g3, 1, none⟩ (.bool s2)) ⟨g3, 2, none⟩ (.int .u64 M2)) ⟨g3, 3, none⟩ (.int .i64 E2)) = w6 at *
        go_wp2
        go_roundw
        case rel =>
          refine ⟨k + 1, by omega, by go_num, K2, s2, M2, E2, XR, X3, ?_, HB.out⟩
          rw [hT2]; exact q2
        case measure => simp [intOf]; omega
      · have hT2 := HT.out
        rw [show max R x = R by omega] at hT2
        have hz0 : ¬ 0 < z := by
          rw [← hz]
          rcases cmpI_tri x R with ⟨a1, a2⟩ | ⟨a1, a2⟩ | ⟨a1, a2⟩ <;> rw [a2] <;> omega
        have e0 : decide (0 < z) = false := decide_eq_false hz0
        go_wp2
        go_roundw
        case rel =>
          refine ⟨k + 1, by omega, by go_num, K1, s1, M1, E1, XR, X3, ?_, HB.out⟩
          rw [hT2]; exact q1
        case measure => simp [intOf]; omega
    · obtain rfl : k = n := by omega
      rw [List.take_of_length_le (by rw [HLn.out]; omega), HR.out] at q1
      obtain ⟨xXR0, xXR1, xXR2, xXR3⟩ := XR.ce4 rfl rfl rfl rfl
      have zXR0 := XR.frozen
      obtain ⟨xX30, xX31, xX32, xX33⟩ := X3.ce4 rfl rfl rfl rfl
      go_wp2
      clear xXR0 zXR0 xXR1 xXR2 xXR3 xX30 xX31 xX32 xX33
      have SX := StN.mk4 XR (.int .i64 K1) (.bool s1) (.int .u64 M1) (.int .i64 E1)
      exact bodyPost_ret (v := .agg #[.int .i64 K1, .bool s1, .int .u64 M1, .int .i64 E1]) (by simp [results, Try.results51, go_sem, SX.box.cell]) rfl ⟨_, _, _, _, rfl, q1, (SX.below HB.out (by omega))⟩
end Go.Proofs.Ythhlccdmflgbbaa

/-
  The joint rule for a region with a store that may come before or behind other operations: the stored box is as it was or as it is to be, all other blocks are as they were. No Go text.
-/
namespace Go.Proofs.Ythhlccdmflgbbaa.Jo
open Go Go.RowKit
set_option linter.unusedVariables false

/-- All blocks but g are as they were; g is as it was, or just the cells new. -/
structure Off (g : Nat) (new : Array Value) (R : TypeId) (w w' : World) : Prop where
  os : w'.os = w.os
  tape : w'.tape = w.tape
  output : w'.output = w.output
  size : w.heap.size ≤ w'.heap.size
  block : ∀ k, k < w.heap.size → k ≠ g → w'.heap[k]? = w.heap[k]?
  own : w'.heap[g]? = w.heap[g]? ∨ w'.heap[g]? = some (.cells new R (0, 0))

section
variable {g : Nat} {new : Array Value} {R : TypeId} {w w' w'' : World}
theorem Off.trans (h : Off g new R w w') (k : Off g new R w' w'') : Off g new R w w'' :=
  ⟨k.os.trans h.os, k.tape.trans h.tape, k.output.trans h.output, Nat.le_trans h.size k.size, fun i hi hn => (k.block i (Nat.lt_of_lt_of_le hi h.size) hn).trans (h.block i hi hn), by
    rcases k.own with e | e
    · rcases h.own with f | f
      · exact .inl (e.trans f)
      · exact .inr (e.trans f)
    · exact .inr e⟩
theorem Off.below {B : Nat} {a : World} (O : Off g new R w w') (h : Below B a w) (hB : B ≤ g) (hg : g < w.heap.size) : Below B a w' :=
  ⟨O.os.trans h.os, O.tape.trans h.tape, O.output.trans h.output, Nat.le_trans h.size O.size, fun k hk => (O.block k (by omega) (by omega)).trans (h.block k hk)⟩
end

/-- What is known of a value, kept by what such a region does. -/
structure LFact (g : Nat) (new : Array Value) (R : TypeId) where
  P : Value → World → Prop
  keep : ∀ v w w', P v w → Off g new R w w' → P v w'
section
variable {g : Nat} {new : Array Value} {R : TypeId}
variable {P : Program} {ops : Array Oper} {Q : Exit → Act → World → Prop} {a0 : Act} {T : List Nat} {ds : List (Option Tmp)} {ls : List (List Nat)} {k : Nat} {F : List (LFact g new R)} {J : World → Prop}
end
end Go.Proofs.Ythhlccdmflgbbaa.Jo

/-
  What the statements of layer 5 rest on: how numbers that are rounded lie beside what they are rounded of. Plain arithmetic; no Go text.
-/
namespace Go.Proofs.Ythhlccdmflgbbaa
open Go.RowKit
set_option linter.unusedVariables false

theorem sgi_mul (s : Bool) (x y : Int) : sgi s x * y = sgi s (x * y) := by
  cases s
  · rfl
  · exact Int.neg_mul _ _
theorem vp_vr {x : Int} (s : Bool) (h : 0 < x) : vr (sgi s x) = sgi s (vp x) := by
  rw [vr_sgi]
  congr 1
  unfold vr
  rw [if_neg (by omega)]
/-- A whole number's place, and its worth. -/
def opl (n : Int) : Int := sgi (decide (n < 0)) (lo n.natAbs 0)
theorem opl_zero : opl 0 = 0 := rfl
theorem opl_vr {n : Int} (h1 : -9223372036854775808 ≤ n) (h2 : n ≤ 9223372036854775807) : vr (opl n) = n * 2 ^ KK := by
  by_cases h0 : n = 0
  · subst h0
    rw [opl_zero, Int.zero_mul]
    rfl
  · have q := of_fq h0 h1 h2
    have hs := of_shl h0 h1 h2
    have a3 := blen_mono_le (n := n.natAbs) (k := 64) (by omega)
    have hr : _ = opl n := q.2.2
    have g := q.plc (by decide)
    rcases g with ⟨_, g1, g2, g3, g4, g5⟩ | ⟨g, _⟩
    · rw [← hr, vp_vr _ (by rw [g5]; omega), g5, vp_fin g1 g2 (by omega), ← hs, Int.mul_assoc, ← Int.pow_add, show (64 - (blen n.natAbs : Int)).toNat + (-(64 - (blen n.natAbs : Int)) + (KK : Int)).toNat = KK by rw [KK_eq]; omega, ← sgi_mul]
      congr 1
      by_cases hn : n < 0
      · rw [decide_eq_true hn]; show -(n.natAbs : Int) = n; omega
      · rw [decide_eq_false hn]; show (n.natAbs : Int) = n; omega
    · exact absurd g (by decide)
theorem opl_cmp {a b : Int} (h1 : -9223372036854775808 ≤ a) (h2 : a ≤ 9223372036854775807) (k1 : -9223372036854775808 ≤ b) (k2 : b ≤ 9223372036854775807) : cmpI (opl a) (opl b) = cmpI a b := by
  rw [← vr_cmp, opl_vr h1 h2, opl_vr k1 k2, cmpI_scale (p2pos KK)]
end Go.Proofs.Ythhlccdmflgbbaa

/-
  Sums and products of numbers, rounded to either side, told of their places. Plain arithmetic; no Go text.
-/
namespace Go.Proofs.Ythhlccdmflgbbaa
open Go.RowKit
set_option linter.unusedVariables false

/-- It is infinite. -/
def infp (x : Int) : Bool := x == TP || x == -TP
theorem infp_false {x : Int} (h1 : -19342822337206103650074625 ≤ x) (h2 : x ≤ 19342822337206103650074625) (h : infp x = false) : -19342822337206103650074625 < x ∧ x < 19342822337206103650074625 := by
  unfold infp at h
  simp [TP_eq] at h
  omega
theorem infp_true {x : Int} (h : infp x = true) : x = 19342822337206103650074625 ∨ x = -19342822337206103650074625 := by
  unfold infp at h
  simp [TP_eq] at h
  omega
theorem ff : ¬ (false = true) := Bool.false_ne_true
end Go.Proofs.Ythhlccdmflgbbaa

/-
  One and two as factors; numbers far apart; what is rounded to both sides lies beside the exact one. Plain arithmetic; no Go text.
-/
namespace Go.Proofs.Ythhlccdmflgbbaa
open Go.RowKit
set_option linter.unusedVariables false

theorem opl_pos {n : Int} (h : 0 < n) (h1 : n ≤ 9223372036854775807) : 0 < opl n ∧ opl n < 19342822337206103650074625 := by
  have e : opl n = lo n.natAbs 0 := by
    unfold opl
    rw [decide_eq_false (show ¬ n < 0 by omega)]
    exact if_neg (by decide)
  have hc := opl_cmp (a := n) (b := 0) (by omega) h1 (by decide) (by decide)
  rw [opl_zero, cmpI_gt h] at hc
  have := (lo_bd n.natAbs 0).2
  rw [← e] at this
  refine ⟨?_, by omega⟩
  rcases cmpI_tri (opl n) 0 with ⟨a, b⟩ | ⟨a, b⟩ | ⟨a, b⟩
  · rw [b] at hc; exact absurd hc (by decide)
  · rw [b] at hc; exact absurd hc (by decide)
  · exact a
theorem infp_fin {x : Int} (h1 : -19342822337206103650074625 < x) (h2 : x < 19342822337206103650074625) : infp x = false := by
  cases h : infp x
  · rfl
  · have := infp_true h; omega
end Go.Proofs.Ythhlccdmflgbbaa

/-
  Intervals by the places of their ends: none, or all from one place to another. Plain arithmetic; no Go text.
-/
namespace Go.Proofs.Ythhlccdmflgbbaa
open Go.RowKit
set_option linter.unusedVariables false

/-- An interval: none, or from one place to another. -/
abbrev Sp := Option (Int × Int)
def mkI (a b : Int) : Sp := if a ≤ b ∧ a < 19342822337206103650074625 ∧ -19342822337206103650074625 < b then some (a, b) else none
/-- One that may be. -/
def SpOk : Sp → Prop
  | none => True
  | some (a, b) => -19342822337206103650074625 ≤ a ∧ a ≤ b ∧ b ≤ 19342822337206103650074625 ∧ a < 19342822337206103650074625 ∧ -19342822337206103650074625 < b
theorem mkI_some {a b : Int} (h : a ≤ b) (h1 : a < 19342822337206103650074625) (h2 : -19342822337206103650074625 < b) : mkI a b = some (a, b) := by
  unfold mkI
  rw [if_pos ⟨h, h1, h2⟩]
theorem mkI_none {a b : Int} (h : ¬ (a ≤ b ∧ a < 19342822337206103650074625 ∧ -19342822337206103650074625 < b)) : mkI a b = none := by
  unfold mkI
  rw [if_neg h]
theorem mkI_ok {a b : Int} (h1 : -19342822337206103650074625 ≤ a) (h2 : b ≤ 19342822337206103650074625) : SpOk (mkI a b) := by
  by_cases h : a ≤ b ∧ a < 19342822337206103650074625 ∧ -19342822337206103650074625 < b
  · rw [mkI_some h.1 h.2.1 h.2.2]
    exact ⟨h1, h.1, h2, h.2.1, h.2.2⟩
  · rw [mkI_none h]
    exact trivial
def meetI : Sp → Sp → Sp
  | some (a, b), some (c, d) => mkI (max a c) (min b d)
  | _, _ => none
def hullI : Sp → Sp → Sp
  | none, y => y
  | x, none => x
  | some (a, b), some (c, d) => mkI (min a c) (max b d)
def allI : Sp := some (-19342822337206103650074625, 19342822337206103650074625)
def hasI (x : Sp) (n : Int) : Bool :=
  match x with
  | none => false
  | some (a, b) => !infp n && decide (a ≤ n) && decide (n ≤ b)
def witI : Sp → Sp → Bool
  | none, _ => true
  | some _, none => false
  | some (a, b), some (c, d) => decide (c ≤ a) && decide (b ≤ d)
def meetL (l : List Sp) : Sp := l.foldl meetI allI
def hullL (l : List Sp) : Sp := l.foldl hullI none

theorem meetI_none (x : Sp) : meetI x none = none := by cases x <;> rfl
theorem hullI_none (x : Sp) : hullI x none = x := by cases x <;> rfl
theorem meetI_ok {x y : Sp} (hx : SpOk x) (hy : SpOk y) : SpOk (meetI x y) := by
  rcases x with _ | ⟨a, b⟩
  · exact trivial
  · rcases y with _ | ⟨c, d⟩
    · exact trivial
    · obtain ⟨h1, h2, h3, h4, h5⟩ := hx
      obtain ⟨k1, k2, k3, k4, k5⟩ := hy
      exact mkI_ok (by omega) (by omega)
theorem hullI_ok {x y : Sp} (hx : SpOk x) (hy : SpOk y) : SpOk (hullI x y) := by
  rcases x with _ | ⟨a, b⟩
  · exact hy
  · rcases y with _ | ⟨c, d⟩
    · exact hx
    · obtain ⟨h1, h2, h3, h4, h5⟩ := hx
      obtain ⟨k1, k2, k3, k4, k5⟩ := hy
      exact mkI_ok (by omega) (by omega)
theorem hullI_some {a b c d : Int} (hx : SpOk (some (a, b))) (hy : SpOk (some (c, d))) : hullI (some (a, b)) (some (c, d)) = some (min a c, max b d) := by
  obtain ⟨h1, h2, h3, h4, h5⟩ := hx
  obtain ⟨k1, k2, k3, k4, k5⟩ := hy
  exact mkI_some (by omega) (by omega) (by omega)
theorem all_ok : SpOk allI := ⟨by decide, by decide, by decide, by decide, by decide⟩
/-- The cases of a meeting: none have anything in common, or it is from the greater to the lesser. -/
theorem meet_cases (a b c d : Int) : (meetI (some (a, b)) (some (c, d)) = none ∧ ¬ (max a c ≤ min b d ∧ max a c < 19342822337206103650074625 ∧ -19342822337206103650074625 < min b d)) ∨ (meetI (some (a, b)) (some (c, d)) = some (max a c, min b d) ∧ max a c ≤ min b d) := by
  by_cases h : max a c ≤ min b d ∧ max a c < 19342822337206103650074625 ∧ -19342822337206103650074625 < min b d
  · exact .inr ⟨mkI_some h.1 h.2.1 h.2.2, h.1⟩
  · exact .inl ⟨mkI_none h, h⟩
theorem has_meet {x y : Sp} {n : Int} (hx : SpOk x) (hy : SpOk y) (h1 : -19342822337206103650074625 ≤ n) (h2 : n ≤ 19342822337206103650074625) : hasI (meetI x y) n = (hasI x n && hasI y n) := by
  rcases x with _ | ⟨a, b⟩
  · rfl
  · rcases y with _ | ⟨c, d⟩
    · show false = (hasI (some (a, b)) n && false)
      rw [Bool.and_false]
    · obtain ⟨h1', h2', h3, h4, h5⟩ := hx
      obtain ⟨k1, k2, k3, k4, k5⟩ := hy
      cases hi : infp n
      · obtain ⟨n1, n2⟩ := infp_false h1 h2 hi
        rw [Bool.eq_iff_iff]
        rcases meet_cases a b c d with ⟨e, h⟩ | ⟨e, h⟩ <;> rw [e] <;> simp [hasI, hi] <;> omega
      · rw [Bool.eq_iff_iff]
        rcases meet_cases a b c d with ⟨e, h⟩ | ⟨e, h⟩ <;> rw [e] <;> simp [hasI, hi]
theorem has_hull {x y : Sp} {n : Int} (hx : SpOk x) (hy : SpOk y) (h : hasI x n = true ∨ hasI y n = true) : hasI (hullI x y) n = true := by
  rcases x with _ | ⟨a, b⟩
  · rcases h with h | h
    · cases h
    · exact h
  · rcases y with _ | ⟨c, d⟩
    · rcases h with h | h
      · exact h
      · cases h
    · rw [hullI_some hx hy]
      cases hi : infp n
      · simp [hasI, hi] at h ⊢
        omega
      · simp [hasI, hi] at h
theorem meet_comm (x y : Sp) : meetI x y = meetI y x := by
  rcases x with _ | ⟨a, b⟩
  · rw [meetI_none]; rfl
  · rcases y with _ | ⟨c, d⟩
    · rfl
    · show mkI _ _ = mkI _ _
      rw [show max a c = max c a by omega, show min b d = min d b by omega]
theorem hull_comm {x y : Sp} : hullI x y = hullI y x := by
  rcases x with _ | ⟨a, b⟩ <;> rcases y with _ | ⟨c, d⟩
  · rfl
  · rfl
  · rfl
  · show mkI _ _ = mkI _ _
    rw [show min a c = min c a by omega, show max b d = max d b by omega]
theorem wit_self {x : Sp} : witI x x = true := by
  rcases x with _ | ⟨a, b⟩
  · rfl
  · simp [witI]
theorem wit_meet {x y : Sp} : witI (meetI x y) x = true := by
  rcases x with _ | ⟨a, b⟩
  · rfl
  · rcases y with _ | ⟨c, d⟩
    · rfl
    · rcases meet_cases a b c d with ⟨e, h⟩ | ⟨e, h⟩ <;> rw [e]
      · rfl
      · simp [witI]
        omega
theorem wit_hull {x y : Sp} (hx : SpOk x) (hy : SpOk y) : witI x (hullI x y) = true := by
  rcases x with _ | ⟨a, b⟩
  · rfl
  · rcases y with _ | ⟨c, d⟩
    · exact wit_self
    · rw [hullI_some hx hy]
      simp [witI]
      omega
theorem wit_is_meet {x y : Sp} (hx : SpOk x) (hy : SpOk y) : witI x y = true ↔ meetI x y = x := by
  rcases x with _ | ⟨a, b⟩
  · exact ⟨fun _ => rfl, fun _ => rfl⟩
  · rcases y with _ | ⟨c, d⟩
    · exact ⟨fun h => (by cases h), fun h => (by cases h)⟩
    · obtain ⟨h1, h2, h3, h4, h5⟩ := hx
      obtain ⟨k1, k2, k3, k4, k5⟩ := hy
      rcases meet_cases a b c d with ⟨e, h⟩ | ⟨e, h⟩ <;> rw [e] <;> simp [witI] <;> omega
theorem wit_is_hull {x y : Sp} (hx : SpOk x) (hy : SpOk y) : witI x y = true ↔ hullI x y = y := by
  rcases x with _ | ⟨a, b⟩
  · exact ⟨fun _ => rfl, fun _ => rfl⟩
  · rcases y with _ | ⟨c, d⟩
    · exact ⟨fun h => (by cases h), fun h => (by cases h)⟩
    · rw [hullI_some hx hy]
      simp [witI]
      omega
theorem meet_self {x : Sp} (hx : SpOk x) : meetI x x = x := (wit_is_meet hx hx).1 wit_self
theorem hull_self {x : Sp} (hx : SpOk x) : hullI x x = x := (wit_is_hull hx hx).1 wit_self
theorem meet_all {x : Sp} (hx : SpOk x) : meetI allI x = x := by
  rw [meet_comm]
  refine (wit_is_meet hx all_ok).1 ?_
  rcases x with _ | ⟨a, b⟩
  · rfl
  · obtain ⟨h1, h2, h3, h4, h5⟩ := hx
    simp [witI, allI]
    omega
theorem meet_assoc {x y z : Sp} (hx : SpOk x) (hy : SpOk y) (hz : SpOk z) : meetI (meetI x y) z = meetI x (meetI y z) := by
  rcases x with _ | ⟨a, b⟩
  · rfl
  · rcases y with _ | ⟨c, d⟩
    · rfl
    · rcases z with _ | ⟨e, f⟩
      · rw [meetI_none, meetI_none, meetI_none]
      · obtain ⟨h1, h2, h3, h4, h5⟩ := hx
        obtain ⟨k1, k2, k3, k4, k5⟩ := hy
        obtain ⟨l1, l2, l3, l4, l5⟩ := hz
        rcases meet_cases a b c d with ⟨e1, g⟩ | ⟨e1, g⟩ <;> rcases meet_cases c d e f with ⟨e2, k⟩ | ⟨e2, k⟩ <;> rw [e1, e2]
        · rfl
        · show none = mkI _ _
          rw [mkI_none (by omega)]
        · show mkI _ _ = none
          rw [mkI_none (by omega)]
        · show mkI _ _ = mkI _ _
          rw [show max (max a c) e = max a (max c e) by omega, show min (min b d) f = min b (min d f) by omega]
theorem hull_assoc {x y z : Sp} (hx : SpOk x) (hy : SpOk y) (hz : SpOk z) : hullI (hullI x y) z = hullI x (hullI y z) := by
  rcases x with _ | ⟨a, b⟩
  · rfl
  · rcases y with _ | ⟨c, d⟩
    · rfl
    · rcases z with _ | ⟨e, f⟩
      · rw [hullI_none, hullI_none]
      · have e1 := hullI_some hx hy
        have o1 := hullI_ok hx hy
        have e2 := hullI_some hy hz
        have o2 := hullI_ok hy hz
        rw [e1] at o1 ⊢
        rw [e2] at o2 ⊢
        rw [hullI_some o1 hz, hullI_some hx o2]
        rw [show min (min a c) e = min a (min c e) by omega, show max (max b d) f = max b (max d f) by omega]
end Go.Proofs.Ythhlccdmflgbbaa

/-
  What the document's Fair, Add, Mul, Sub, Half, Twice of layer 6 do.
-/
namespace Go.Proofs.Ythhlccdmflgbbaa
open Go.RowKit
set_option linter.unusedVariables false
set_option linter.unusedSimpArgs false
set_option maxRecDepth 100000

set_option maxHeartbeats 2000000 in
theorem gFair {w : World} {D M E : Int} {s : Bool} {r : Int} (hM : M < 18446744073709551616) (hr : rk D s M E = r) : Calls Try.prog 33 #[.agg #[.int .i64 D, .bool s, .int .u64 M, .int .i64 E]] w (PN w r) := by
  by_cases hm : MayQ D s M E
  · have HQ := rk_fq hM hm
    rw [hr] at HQ
    have HC := Lib.hid (show decide (MayQ D s M E) = true from decide_eq_true hm)
    clear hm hr hM
    go_enter Try.func33, Try.ntmps33
    go_upto_region 1 with (fail)
    have X1 := (Bo.newAt w (g := w.heap.size) (by simp) #[.int .i64 D, .bool s, .int .u64 M, .int .i64 E] 24).below (bel1 _ (.cells #[.int .i64 0, .bool false, .int .u64 0, .int .i64 0] 24))
    have XR := (Bo.newAt (w.alloc (.cells #[.int .i64 D, .bool s, .int .u64 M, .int .i64 E] 24)) (g := w.heap.size + 1) (by simp) #[.int .i64 0, .bool false, .int .u64 0, .int .i64 0] 24)
    have HB := Lib.hid (bel2 w (.cells #[.int .i64 D, .bool s, .int .u64 M, .int .i64 E] 24) (.cells #[.int .i64 0, .bool false, .int .u64 0, .int .i64 0] 24))
    generalize hW1 : ((w.alloc (.cells #[.int .i64 D, .bool s, .int .u64 M, .int .i64 E] 24)).alloc (.cells #[.int .i64 0, .bool false, .int .u64 0, .int .i64 0] 24)) = w1 at *
    clear hW1
    obtain ⟨xX10, xX11, xX12, xX13⟩ := X1.ce4 rfl rfl rfl rfl
    go_wp2_with fail
    refine (yMay HC.out).mono ?_
    rintro ee w2 ⟨rfl, B⟩
    clear xX10 xX11 xX12 xX13
    replace X1 := X1.below B
    replace XR := XR.below B
    replace HB := Lib.hid (bt HB.out B)
    clear B
    obtain ⟨xXR0, xXR1, xXR2, xXR3⟩ := XR.ce4 rfl rfl rfl rfl
    have zXR0 := XR.frozen
    obtain ⟨xX10, xX11, xX12, xX13⟩ := X1.ce4 rfl rfl rfl rfl
    go_wp2
    clear xXR0 zXR0 xXR1 xXR2 xXR3 xX10 xX11 xX12 xX13
    have SX := StN.mk4 XR (.int .i64 D) (.bool s) (.int .u64 M) (.int .i64 E)
    exact bodyPost_ret (v := .agg #[.int .i64 D, .bool s, .int .u64 M, .int .i64 E]) (by simp [results, Try.results33, go_sem, SX.box.cell]) rfl ⟨D, s, M, E, rfl, HQ, (SX.below HB.out (by omega))⟩
  · rw [rk_not hm] at hr
    subst hr
    have HC := Lib.hid (show decide (MayQ D s M E) = false from decide_eq_false hm)
    clear hm hM
    go_enter Try.func33, Try.ntmps33
    go_upto_region 1 with (fail)
    have X1 := (Bo.newAt w (g := w.heap.size) (by simp) #[.int .i64 D, .bool s, .int .u64 M, .int .i64 E] 24).below (bel1 _ (.cells #[.int .i64 0, .bool false, .int .u64 0, .int .i64 0] 24))
    have XR := (Bo.newAt (w.alloc (.cells #[.int .i64 D, .bool s, .int .u64 M, .int .i64 E] 24)) (g := w.heap.size + 1) (by simp) #[.int .i64 0, .bool false, .int .u64 0, .int .i64 0] 24)
    have HB := Lib.hid (bel2 w (.cells #[.int .i64 D, .bool s, .int .u64 M, .int .i64 E] 24) (.cells #[.int .i64 0, .bool false, .int .u64 0, .int .i64 0] 24))
    generalize hW1 : ((w.alloc (.cells #[.int .i64 D, .bool s, .int .u64 M, .int .i64 E] 24)).alloc (.cells #[.int .i64 0, .bool false, .int .u64 0, .int .i64 0] 24)) = w1 at *
    clear hW1
    obtain ⟨xX10, xX11, xX12, xX13⟩ := X1.ce4 rfl rfl rfl rfl
    go_wp2_with fail
    refine (yMay HC.out).mono ?_
    rintro ee w2 ⟨rfl, B⟩
    clear xX10 xX11 xX12 xX13
    replace X1 := X1.below B
    replace XR := XR.below B
    replace HB := Lib.hid (bt HB.out B)
    clear B
    obtain ⟨xXR0, xXR1, xXR2, xXR3⟩ := XR.ce4 rfl rfl rfl rfl
    have zXR0 := XR.frozen
    obtain ⟨xX10, xX11, xX12, xX13⟩ := X1.ce4 rfl rfl rfl rfl
    go_wp2
    clear xXR0 zXR0 xXR1 xXR2 xXR3 xX10 xX11 xX12 xX13
    have SX := StN.mk4 XR (.int .i64 0) (.bool false) (.int .u64 0) (.int .i64 0)
    exact bodyPost_ret (v := .agg #[.int .i64 0, .bool false, .int .u64 0, .int .i64 0]) (by simp [results, Try.results33, go_sem, SX.box.cell]) rfl ⟨_, _, _, _, rfl, Fq.nought, (SX.below HB.out (by omega))⟩
theorem fq_inf {D : Int} {s : Bool} {M E x : Int} (q : Fq D s M E x) : infp x = (D == 2) := by
  have htp := TP_eq
  rcases q.cases with ⟨rfl, rfl, rfl, rfl, h0⟩ | ⟨rfl, h1, h2, h3, h4, ⟨rfl, h5⟩ | ⟨rfl, h5⟩⟩ | ⟨rfl, rfl, rfl, ⟨rfl, h5⟩ | ⟨rfl, h5⟩⟩ <;> unfold infp <;> rw [Bool.eq_iff_iff] <;> simp <;> omega
end Go.Proofs.Ythhlccdmflgbbaa
