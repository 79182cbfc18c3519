/-
  Contracts and words that the statements' proofs rest on, several texts in one: Kg, Jt, Ee, Ef, Eh.
-/
import Derived.Test.YthibemmhgdbiiaaDoorZal
import Derived.Test.YthibemmhgdbiiaaDoorZap
import Derived.Test.YthibemmhgdbiiaaDoorZas
/-
  What num.Least and Most do, and the document's.
-/
namespace Go.Proofs.YthibemmhgdbiiaaDoor
open Go.RowKit
set_option linter.unusedVariables false
set_option linter.unusedSimpArgs false
set_option maxRecDepth 100000

/-- A slice of numbers, as they came in or as they are; their places are l. -/
def Nl (w : World) (A : Option Addr) (n c : Nat) (l : List Int) : Prop :=
  l.length = n ∧ n ≤ c ∧ n ≤ 1099511627776 ∧ (0 < n → ∃ b o, A = some ⟨b, o, none⟩ ∧ ∀ k, k < n → ∃ D s M E, w.cell? ⟨b, o + k * 4, none⟩ = some (.int .i64 D) ∧ w.cell? ⟨b, o + k * 4 + 1, none⟩ = some (.bool s) ∧ w.cell? ⟨b, o + k * 4 + 2, none⟩ = some (.int .u64 M) ∧ w.cell? ⟨b, o + k * 4 + 3, none⟩ = some (.int .i64 E) ∧ M < 18446744073709551616 ∧ rk D s M E = l.getD k 0)
theorem Nl.below {w w' : World} {A : Option Addr} {n c : Nat} {l : List Int} (h : Nl w A n c l) (hb : Below w.heap.size w w') : Nl w' A n c l := by
  obtain ⟨h1, h2, h3, h4⟩ := h
  refine ⟨h1, h2, h3, fun hn => ?_⟩
  obtain ⟨b, o, e, hc⟩ := h4 hn
  refine ⟨b, o, e, fun k hk => ?_⟩
  obtain ⟨D, s, M, E, c0, c1, c2, c3, hM, hr⟩ := hc k hk
  exact ⟨D, s, M, E, (hb.cell (p := ⟨b, _, none⟩) (block_lt_of_cell c0)).trans c0, (hb.cell (p := ⟨b, _, none⟩) (block_lt_of_cell c1)).trans c1, (hb.cell (p := ⟨b, _, none⟩) (block_lt_of_cell c2)).trans c2, (hb.cell (p := ⟨b, _, none⟩) (block_lt_of_cell c3)).trans c3, hM, hr⟩
theorem Nl.lit3 {W : World} {g : Nat} {D1 D2 D3 M1 M2 M3 E1 E2 E3 r1 r2 r3 : Int} {s1 s2 s3 : Bool} (hg : W.heap.size = g) (h1 : M1 < 18446744073709551616) (h2 : M2 < 18446744073709551616) (h3 : M3 < 18446744073709551616)
    (k1 : rk D1 s1 M1 E1 = r1) (k2 : rk D2 s2 M2 E2 = r2) (k3 : rk D3 s3 M3 E3 = r3) :
    Nl (W.alloc (.cells #[.int .i64 D1, .bool s1, .int .u64 M1, .int .i64 E1, .int .i64 D2, .bool s2, .int .u64 M2, .int .i64 E2, .int .i64 D3, .bool s3, .int .u64 M3, .int .i64 E3] 30)) (some ⟨g, 0, none⟩) 3 3 [r1, r2, r3] := by
  subst hg
  have hh := heap_alloc_new W (.cells #[.int .i64 D1, .bool s1, .int .u64 M1, .int .i64 E1, .int .i64 D2, .bool s2, .int .u64 M2, .int .i64 E2, .int .i64 D3, .bool s3, .int .u64 M3, .int .i64 E3] 30)
  refine ⟨rfl, Nat.le_refl _, by decide, fun _ => ⟨_, 0, rfl, fun k hk => ?_⟩⟩
  rcases (by omega : k = 0 ∨ k = 1 ∨ k = 2) with rfl | rfl | rfl
  · exact ⟨D1, s1, M1, E1, by rw [cell_of_row _ _ _ _ _ _ hh]; rfl, by rw [cell_of_row _ _ _ _ _ _ hh]; rfl, by rw [cell_of_row _ _ _ _ _ _ hh]; rfl, by rw [cell_of_row _ _ _ _ _ _ hh]; rfl, h1, k1⟩
  · exact ⟨D2, s2, M2, E2, by rw [cell_of_row _ _ _ _ _ _ hh]; rfl, by rw [cell_of_row _ _ _ _ _ _ hh]; rfl, by rw [cell_of_row _ _ _ _ _ _ hh]; rfl, by rw [cell_of_row _ _ _ _ _ _ hh]; rfl, h2, k2⟩
  · exact ⟨D3, s3, M3, E3, by rw [cell_of_row _ _ _ _ _ _ hh]; rfl, by rw [cell_of_row _ _ _ _ _ _ hh]; rfl, by rw [cell_of_row _ _ _ _ _ _ hh]; rfl, by rw [cell_of_row _ _ _ _ _ _ hh]; rfl, h3, k3⟩
def Jo.Fact.nl (n : Nat) (l : List Int) : Jo.Fact := ⟨fun v w => ∃ A c, v = .slice A n c ∧ Nl w A n c l, fun v w w' h b => by
  obtain ⟨A, c, e, h⟩ := h
  exact ⟨A, c, e, h.below b⟩⟩
def Jo.Fact.num (r : Int) : Jo.Fact := ⟨fun v w => ∃ K s M E, v = .agg #[.int .i64 K, .bool s, .int .u64 M, .int .i64 E] ∧ Fq K s M E r, fun v w w' h b => h⟩
/-- The least place, the greatest. -/
def mnp (l : List Int) : Int := l.foldl min TP
def mxp (l : List Int) : Int := l.foldl max (-TP)
theorem mnp_take {l : List Int} {k : Nat} (h : k < l.length) : mnp (l.take (k + 1)) = min (mnp (l.take k)) (l.getD k 0) := by
  unfold mnp
  rw [List.take_succ_eq_append_getElem h, List.foldl_append]
  simp [List.getD_eq_getElem?_getD, h]
theorem mxp_take {l : List Int} {k : Nat} (h : k < l.length) : mxp (l.take (k + 1)) = max (mxp (l.take k)) (l.getD k 0) := by
  unfold mxp
  rw [List.take_succ_eq_append_getElem h, List.foldl_append]
  simp [List.getD_eq_getElem?_getD, h]
theorem mnp_three {a b c : Int} (ha : a ≤ 19342822337206103650074625) : mnp [a, b, c] = min (min a b) c := by
  have := TP_eq
  show min (min (min TP a) b) c = _
  omega
theorem mxp_three {a b c : Int} (ha : -19342822337206103650074625 ≤ a) : mxp [a, b, c] = max (max a b) c := by
  have := TP_eq
  show max (max (max (-TP) a) b) c = _
  omega
def NInv (w : World) (g3 : Nat) (r : Int) (wr : World) : Prop :=
  ∃ K s M E, Bo wr w.heap.size #[.int .i64 0, .bool false, .int .u64 0, .int .i64 0] 30 ∧ Bo wr g3 #[.int .i64 K, .bool s, .int .u64 M, .int .i64 E] 30 ∧ Fq K s M E r ∧ Below w.heap.size w wr
set_option maxHeartbeats 4000000 in
theorem nLeast {w : World} {A : Option Addr} {n c : Nat} {l : List Int} {r : Int} (h : Nl w A n c l) (hr : mnp l = r) : Calls Tryd.prog 29 #[.slice A n c] w (PN w r) := by
  have HR := Lib.hid hr
  have HLn := Lib.hid h.1
  have hcap := h.2.1
  have hbig := h.2.2.1
  have hD0 := h
  clear hr
  go_enter Tryd.func29, Tryd.ntmps29
  go_upto_region 1 with (fail)
  have XR := (Bo.newAt w (g := w.heap.size) (by simp) #[.int .i64 0, .bool false, .int .u64 0, .int .i64 0] 30)
  have HB := Lib.hid (bel1 w (.cells #[.int .i64 0, .bool false, .int .u64 0, .int .i64 0] 30))
  replace h := h.below HB.out
  generalize hW1 : (w.alloc (.cells #[.int .i64 0, .bool false, .int .u64 0, .int .i64 0] 30)) = w1 at *
  clear hW1
  go_wp2_with fail
  refine (nInf (s := false) rfl).mono ?_
  rintro ee w2 ⟨K1, s1, M1, E1, rfl, q1, B⟩
  replace XR := XR.below B
  replace h := h.below B
  replace HB := Lib.hid (bt HB.out B)
  clear B
  go_upto_region 2 with (fail)
  have hg3 := XR.lt
  have lX3 := Nat.le_refl (World.heap w2).size
  have nX3XR := XR.lt
  replace XR := XR.below (bel1 _ (.cells #[.int .i64 K1, .bool s1, .int .u64 M1, .int .i64 E1] 30))
  replace h := h.below (bel1 _ (.cells #[.int .i64 K1, .bool s1, .int .u64 M1, .int .i64 E1] 30))
  replace HB := Lib.hid (bt HB.out (bel1 _ (.cells #[.int .i64 K1, .bool s1, .int .u64 M1, .int .i64 E1] 30)))
  have X3 := Bo.new w2 #[.int .i64 K1, .bool s1, .int .u64 M1, .int .i64 E1] 30
  generalize hWn : World.alloc w2 (.cells #[.int .i64 K1, .bool s1, .int .u64 M1, .int .i64 E1] 30) = w3 at *
  clear hWn
  go_wp2_with fail
  generalize w2.heap.size = g3 at *
  clear h w1
  go_loopw [9] (fun i wr => ∃ k : Nat, k ≤ n ∧ i = .int .i64 k ∧ NInv w g3 (mnp (l.take k)) wr) (fun i _ => n - (intOf i).toNat)
  case atStart => exact ⟨0, Nat.zero_le _, rfl, _, _, _, _, XR, X3, q1, HB.out⟩
  case round =>
    obtain ⟨k, hk, rfl, hI⟩ := hrel
    obtain ⟨K1, s1, M1, E1, XR, X3, q1, hB⟩ := hI
    have HB := Lib.hid hB
    have h := hD0.below hB
    clear hB
    by_cases hlt : k < n
    · obtain ⟨b, o, rfl, hcell⟩ := h.2.2.2 (by omega)
      obtain ⟨D, s, M, E, c0, c1, c2, c3, hM, hx⟩ := hcell k hlt
      clear hcell h hD0
      have ht := mnp_take (l := l) (k := k) (by rw [HLn.out]; exact hlt)
      rw [← hx] at ht
      generalize mnp (l.take k) = R at *
      obtain ⟨x, hX⟩ : ∃ x, rk D s M E = x := ⟨_, rfl⟩
      rw [hX] at ht
      have HX := Lib.hid hX
      have HT := Lib.hid ht
      obtain ⟨z, hz⟩ : ∃ z, cmpI x R = z := ⟨_, rfl⟩
      have HZ := Lib.hid (show cmpI (rk D s M E) (rk K1 s1 M1 E1) = z by rw [hX, q1.rk]; exact hz)
      clear ht hX hx
      have i1 : (k : Int) < n := by omega
      have i2 : (0 : Int) ≤ k := by omega
      go_upto_region 5 with (fail)
      have hgd := X3.lt
      have lX5 := Nat.le_refl (World.heap wr).size
      have nX5XR := XR.lt
      have nX5X3 := X3.lt
      replace XR := XR.below (bel1 _ (.cells #[.int .i64 D, .bool s, .int .u64 M, .int .i64 E] 30))
      replace X3 := X3.below (bel1 _ (.cells #[.int .i64 D, .bool s, .int .u64 M, .int .i64 E] 30))
      replace HB := Lib.hid (bt HB.out (bel1 _ (.cells #[.int .i64 D, .bool s, .int .u64 M, .int .i64 E] 30)))
      have X5 := Bo.new wr #[.int .i64 D, .bool s, .int .u64 M, .int .i64 E] 30
      generalize hWn : World.alloc wr (.cells #[.int .i64 D, .bool s, .int .u64 M, .int .i64 E] 30) = w3 at *
      clear hWn
      clear c0 c1 c2 c3 lX5
      have xX30 := X3.at (i := 0) (v := .int .i64 K1) rfl
      have xX31 := X3.at (i := 1) (v := .bool s1) rfl
      have xX32 := X3.at (i := 2) (v := .int .u64 M1) rfl
      have xX33 := X3.at (i := 3) (v := .int .i64 E1) rfl
      have xX50 := X5.at (i := 0) (v := .int .i64 D) rfl
      have xX51 := X5.at (i := 1) (v := .bool s) rfl
      have xX52 := X5.at (i := 2) (v := .int .u64 M) rfl
      have xX53 := X5.at (i := 3) (v := .int .i64 E) rfl
      go_wp2_with fail
      refine (nCmp hM q1.top HZ.out).mono ?_
      rintro ee w4 ⟨rfl, B⟩
      clear xX30 xX31 xX32 xX33 xX50 xX51 xX52 xX53
      replace XR := XR.below B
      replace X3 := X3.below B
      replace X5 := X5.below B
      replace HB := Lib.hid (bt HB.out B)
      clear B
      by_cases hb : x < R
      · obtain rfl : -1 = z := by rw [← hz, cmpI_lt hb]
        have hT2 := HT.out
        rw [show min R x = x by omega] at hT2
        have xX50 := X5.at (i := 0) (v := .int .i64 D) rfl
        have xX51 := X5.at (i := 1) (v := .bool s) rfl
        have xX52 := X5.at (i := 2) (v := .int .u64 M) rfl
        have xX53 := X5.at (i := 3) (v := .int .i64 E) rfl
        go_wp2_with fail
        refine (nTaken hM HX.out).mono ?_
        rintro ee w5 ⟨K2, s2, M2, E2, rfl, q2, B⟩
        clear xX50 xX51 xX52 xX53
        replace XR := XR.below B
        replace X3 := X3.below B
        replace X5 := X5.below B
        replace HB := Lib.hid (bt HB.out B)
        clear B
        have xX30 := X3.at (i := 0) (v := .int .i64 K1) rfl
        have zX30 := X3.frozen 0
        have xX31 := X3.at (i := 1) (v := .bool s1) rfl
        have zX31 := X3.frozen 1
        have xX32 := X3.at (i := 2) (v := .int .u64 M1) rfl
        have zX32 := X3.frozen 2
        have xX33 := X3.at (i := 3) (v := .int .i64 E1) rfl
        have zX33 := X3.frozen 3
        go_upto_region 7 with (fail)
        clear xX30 zX30 xX31 zX31 xX32 zX32 xX33 zX33
        have SX := StN.mk4 X3 (.int .i64 K2) (.bool s2) (.int .u64 M2) (.int .i64 E2)
        replace XR := XR.stn SX (by omega)
        replace X5 := X5.stn SX (by omega)
        replace HB := Lib.hid (SX.below HB.out (by omega))
        replace X3 := SX.box
        clear SX
        generalize (World.setCell (World.setCell (World.setCell (World.setCell w5 ⟨g3, 0, none⟩ (.int .i64 K2)) ⟨g3, 1, none⟩ (.bool s2)) ⟨g3, 2, none⟩ (.int .u64 M2)) ⟨g3, 3, none⟩ (.int .i64 E2)) = w6 at *
        go_wp2
        go_roundw
        case rel =>
          refine ⟨k + 1, by omega, by go_num, K2, s2, M2, E2, XR, X3, ?_, HB.out⟩
          rw [hT2]; exact q2
        case measure => simp [intOf]; omega
      · have hT2 := HT.out
        rw [show min R x = R by omega] at hT2
        have hz0 : ¬ z < 0 := by
          rw [← hz]
          rcases cmpI_tri x R with ⟨a1, a2⟩ | ⟨a1, a2⟩ | ⟨a1, a2⟩ <;> rw [a2] <;> omega
        have e0 : decide (z < 0) = false := decide_eq_false hz0
        go_wp2
        go_roundw
        case rel =>
          refine ⟨k + 1, by omega, by go_num, K1, s1, M1, E1, XR, X3, ?_, HB.out⟩
          rw [hT2]; exact q1
        case measure => simp [intOf]; omega
    · obtain rfl : k = n := by omega
      rw [List.take_of_length_le (by rw [HLn.out]; omega), HR.out] at q1
      have xXR0 := XR.at (i := 0) (v := .int .i64 0) rfl
      have zXR0 := XR.frozen 0
      have xXR1 := XR.at (i := 1) (v := .bool false) rfl
      have zXR1 := XR.frozen 1
      have xXR2 := XR.at (i := 2) (v := .int .u64 0) rfl
      have zXR2 := XR.frozen 2
      have xXR3 := XR.at (i := 3) (v := .int .i64 0) rfl
      have zXR3 := XR.frozen 3
      have xX30 := X3.at (i := 0) (v := .int .i64 K1) rfl
      have xX31 := X3.at (i := 1) (v := .bool s1) rfl
      have xX32 := X3.at (i := 2) (v := .int .u64 M1) rfl
      have xX33 := X3.at (i := 3) (v := .int .i64 E1) rfl
      go_wp2
      clear xXR0 zXR0 xXR1 zXR1 xXR2 zXR2 xXR3 zXR3 xX30 xX31 xX32 xX33
      have SX := StN.mk4 XR (.int .i64 K1) (.bool s1) (.int .u64 M1) (.int .i64 E1)
      replace X3 := X3.stn SX (by omega)
      replace HB := Lib.hid (SX.below HB.out (by omega))
      replace XR := SX.box
      clear SX
      generalize (World.setCell (World.setCell (World.setCell (World.setCell wr ⟨w.heap.size, 0, none⟩ (.int .i64 K1)) ⟨w.heap.size, 1, none⟩ (.bool s1)) ⟨w.heap.size, 2, none⟩ (.int .u64 M1)) ⟨w.heap.size, 3, none⟩ (.int .i64 E1)) = w5 at *
      have r0 := XR.cell 0
      have r1 := XR.cell 1
      have r2 := XR.cell 2
      have r3 := XR.cell 3
      exact bodyPost_ret (v := .agg #[.int .i64 K1, .bool s1, .int .u64 M1, .int .i64 E1]) (by simp [results, Tryd.results29, go_sem, r0, r1, r2, r3]) rfl ⟨_, _, _, _, rfl, q1, HB.out⟩
set_option maxHeartbeats 4000000 in
theorem nMost {w : World} {A : Option Addr} {n c : Nat} {l : List Int} {r : Int} (h : Nl w A n c l) (hr : mxp l = r) : Calls Tryd.prog 31 #[.slice A n c] w (PN w r) := by
  have HR := Lib.hid hr
  have HLn := Lib.hid h.1
  have hcap := h.2.1
  have hbig := h.2.2.1
  have hD0 := h
  clear hr
  go_enter Tryd.func31, Tryd.ntmps31
  go_upto_region 1 with (fail)
  have XR := (Bo.newAt w (g := w.heap.size) (by simp) #[.int .i64 0, .bool false, .int .u64 0, .int .i64 0] 30)
  have HB := Lib.hid (bel1 w (.cells #[.int .i64 0, .bool false, .int .u64 0, .int .i64 0] 30))
  replace h := h.below HB.out
  generalize hW1 : (w.alloc (.cells #[.int .i64 0, .bool false, .int .u64 0, .int .i64 0] 30)) = w1 at *
  clear hW1
  go_wp2_with fail
  refine (nInf (s := true) rfl).mono ?_
  rintro ee w2 ⟨K1, s1, M1, E1, rfl, q1, B⟩
  replace XR := XR.below B
  replace h := h.below B
  replace HB := Lib.hid (bt HB.out B)
  clear B
  go_upto_region 2 with (fail)
  have hg3 := XR.lt
  have lX3 := Nat.le_refl (World.heap w2).size
  have nX3XR := XR.lt
  replace XR := XR.below (bel1 _ (.cells #[.int .i64 K1, .bool s1, .int .u64 M1, .int .i64 E1] 30))
  replace h := h.below (bel1 _ (.cells #[.int .i64 K1, .bool s1, .int .u64 M1, .int .i64 E1] 30))
  replace HB := Lib.hid (bt HB.out (bel1 _ (.cells #[.int .i64 K1, .bool s1, .int .u64 M1, .int .i64 E1] 30)))
  have X3 := Bo.new w2 #[.int .i64 K1, .bool s1, .int .u64 M1, .int .i64 E1] 30
  generalize hWn : World.alloc w2 (.cells #[.int .i64 K1, .bool s1, .int .u64 M1, .int .i64 E1] 30) = w3 at *
  clear hWn
  go_wp2_with fail
  generalize w2.heap.size = g3 at *
  clear h w1
  go_loopw [9] (fun i wr => ∃ k : Nat, k ≤ n ∧ i = .int .i64 k ∧ NInv w g3 (mxp (l.take k)) wr) (fun i _ => n - (intOf i).toNat)
  case atStart => exact ⟨0, Nat.zero_le _, rfl, _, _, _, _, XR, X3, q1, HB.out⟩
  case round =>
    obtain ⟨k, hk, rfl, hI⟩ := hrel
    obtain ⟨K1, s1, M1, E1, XR, X3, q1, hB⟩ := hI
    have HB := Lib.hid hB
    have h := hD0.below hB
    clear hB
    by_cases hlt : k < n
    · obtain ⟨b, o, rfl, hcell⟩ := h.2.2.2 (by omega)
      obtain ⟨D, s, M, E, c0, c1, c2, c3, hM, hx⟩ := hcell k hlt
      clear hcell h hD0
      have ht := mxp_take (l := l) (k := k) (by rw [HLn.out]; exact hlt)
      rw [← hx] at ht
      generalize mxp (l.take k) = R at *
      obtain ⟨x, hX⟩ : ∃ x, rk D s M E = x := ⟨_, rfl⟩
      rw [hX] at ht
      have HX := Lib.hid hX
      have HT := Lib.hid ht
      obtain ⟨z, hz⟩ : ∃ z, cmpI x R = z := ⟨_, rfl⟩
      have HZ := Lib.hid (show cmpI (rk D s M E) (rk K1 s1 M1 E1) = z by rw [hX, q1.rk]; exact hz)
      clear ht hX hx
      have i1 : (k : Int) < n := by omega
      have i2 : (0 : Int) ≤ k := by omega
      go_upto_region 5 with (fail)
      have hgd := X3.lt
      have lX5 := Nat.le_refl (World.heap wr).size
      have nX5XR := XR.lt
      have nX5X3 := X3.lt
      replace XR := XR.below (bel1 _ (.cells #[.int .i64 D, .bool s, .int .u64 M, .int .i64 E] 30))
      replace X3 := X3.below (bel1 _ (.cells #[.int .i64 D, .bool s, .int .u64 M, .int .i64 E] 30))
      replace HB := Lib.hid (bt HB.out (bel1 _ (.cells #[.int .i64 D, .bool s, .int .u64 M, .int .i64 E] 30)))
      have X5 := Bo.new wr #[.int .i64 D, .bool s, .int .u64 M, .int .i64 E] 30
      generalize hWn : World.alloc wr (.cells #[.int .i64 D, .bool s, .int .u64 M, .int .i64 E] 30) = w3 at *
      clear hWn
      clear c0 c1 c2 c3 lX5
      have xX30 := X3.at (i := 0) (v := .int .i64 K1) rfl
      have xX31 := X3.at (i := 1) (v := .bool s1) rfl
      have xX32 := X3.at (i := 2) (v := .int .u64 M1) rfl
      have xX33 := X3.at (i := 3) (v := .int .i64 E1) rfl
      have xX50 := X5.at (i := 0) (v := .int .i64 D) rfl
      have xX51 := X5.at (i := 1) (v := .bool s) rfl
      have xX52 := X5.at (i := 2) (v := .int .u64 M) rfl
      have xX53 := X5.at (i := 3) (v := .int .i64 E) rfl
      go_wp2_with fail
      refine (nCmp hM q1.top HZ.out).mono ?_
      rintro ee w4 ⟨rfl, B⟩
      clear xX30 xX31 xX32 xX33 xX50 xX51 xX52 xX53
      replace XR := XR.below B
      replace X3 := X3.below B
      replace X5 := X5.below B
      replace HB := Lib.hid (bt HB.out B)
      clear B
      by_cases hb : R < x
      · obtain rfl : 1 = z := by rw [← hz, cmpI_gt hb]
        have hT2 := HT.out
        rw [show max R x = x by omega] at hT2
        have xX50 := X5.at (i := 0) (v := .int .i64 D) rfl
        have xX51 := X5.at (i := 1) (v := .bool s) rfl
        have xX52 := X5.at (i := 2) (v := .int .u64 M) rfl
        have xX53 := X5.at (i := 3) (v := .int .i64 E) rfl
        go_wp2_with fail
        refine (nTaken hM HX.out).mono ?_
        rintro ee w5 ⟨K2, s2, M2, E2, rfl, q2, B⟩
        clear xX50 xX51 xX52 xX53
        replace XR := XR.below B
        replace X3 := X3.below B
        replace X5 := X5.below B
        replace HB := Lib.hid (bt HB.out B)
        clear B
        have xX30 := X3.at (i := 0) (v := .int .i64 K1) rfl
        have zX30 := X3.frozen 0
        have xX31 := X3.at (i := 1) (v := .bool s1) rfl
        have zX31 := X3.frozen 1
        have xX32 := X3.at (i := 2) (v := .int .u64 M1) rfl
        have zX32 := X3.frozen 2
        have xX33 := X3.at (i := 3) (v := .int .i64 E1) rfl
        have zX33 := X3.frozen 3
        go_upto_region 7 with (fail)
        clear xX30 zX30 xX31 zX31 xX32 zX32 xX33 zX33
        have SX := StN.mk4 X3 (.int .i64 K2) (.bool s2) (.int .u64 M2) (.int .i64 E2)
        replace XR := XR.stn SX (by omega)
        replace X5 := X5.stn SX (by omega)
        replace HB := Lib.hid (SX.below HB.out (by omega))
        replace X3 := SX.box
        clear SX
        generalize (World.setCell (World.setCell (World.setCell (World.setCell w5 ⟨g3, 0, none⟩ (.int .i64 K2)) ⟨g3, 1, none⟩ (.bool s2)) ⟨g3, 2, none⟩ (.int .u64 M2)) ⟨g3, 3, none⟩ (.int .i64 E2)) = w6 at *
        go_wp2
        go_roundw
        case rel =>
          refine ⟨k + 1, by omega, by go_num, K2, s2, M2, E2, XR, X3, ?_, HB.out⟩
          rw [hT2]; exact q2
        case measure => simp [intOf]; omega
      · have hT2 := HT.out
        rw [show max R x = R by omega] at hT2
        have hz0 : ¬ 0 < z := by
          rw [← hz]
          rcases cmpI_tri x R with ⟨a1, a2⟩ | ⟨a1, a2⟩ | ⟨a1, a2⟩ <;> rw [a2] <;> omega
        have e0 : decide (0 < z) = false := decide_eq_false hz0
        go_wp2
        go_roundw
        case rel =>
          refine ⟨k + 1, by omega, by go_num, K1, s1, M1, E1, XR, X3, ?_, HB.out⟩
          rw [hT2]; exact q1
        case measure => simp [intOf]; omega
    · obtain rfl : k = n := by omega
      rw [List.take_of_length_le (by rw [HLn.out]; omega), HR.out] at q1
      have xXR0 := XR.at (i := 0) (v := .int .i64 0) rfl
      have zXR0 := XR.frozen 0
      have xXR1 := XR.at (i := 1) (v := .bool false) rfl
      have zXR1 := XR.frozen 1
      have xXR2 := XR.at (i := 2) (v := .int .u64 0) rfl
      have zXR2 := XR.frozen 2
      have xXR3 := XR.at (i := 3) (v := .int .i64 0) rfl
      have zXR3 := XR.frozen 3
      have xX30 := X3.at (i := 0) (v := .int .i64 K1) rfl
      have xX31 := X3.at (i := 1) (v := .bool s1) rfl
      have xX32 := X3.at (i := 2) (v := .int .u64 M1) rfl
      have xX33 := X3.at (i := 3) (v := .int .i64 E1) rfl
      go_wp2
      clear xXR0 zXR0 xXR1 zXR1 xXR2 zXR2 xXR3 zXR3 xX30 xX31 xX32 xX33
      have SX := StN.mk4 XR (.int .i64 K1) (.bool s1) (.int .u64 M1) (.int .i64 E1)
      replace X3 := X3.stn SX (by omega)
      replace HB := Lib.hid (SX.below HB.out (by omega))
      replace XR := SX.box
      clear SX
      generalize (World.setCell (World.setCell (World.setCell (World.setCell wr ⟨w.heap.size, 0, none⟩ (.int .i64 K1)) ⟨w.heap.size, 1, none⟩ (.bool s1)) ⟨w.heap.size, 2, none⟩ (.int .u64 M1)) ⟨w.heap.size, 3, none⟩ (.int .i64 E1)) = w5 at *
      have r0 := XR.cell 0
      have r1 := XR.cell 1
      have r2 := XR.cell 2
      have r3 := XR.cell 3
      exact bodyPost_ret (v := .agg #[.int .i64 K1, .bool s1, .int .u64 M1, .int .i64 E1]) (by simp [results, Tryd.results31, go_sem, r0, r1, r2, r3]) rfl ⟨_, _, _, _, rfl, q1, HB.out⟩
set_option maxHeartbeats 4000000 in
theorem yLeast {w : World} {A : Option Addr} {n c : Nat} {l : List Int} {r : Int} (h : Nl w A n c l) (hr : mnp l = r) : Calls Tryd.prog 30 #[.slice A n c] w (PN w r) := by
  have HR := Lib.hid hr
  have HLn := Lib.hid h.1
  have hcap := h.2.1
  have hbig := h.2.2.1
  have hD0 := h
  clear hr
  go_enter Tryd.func30, Tryd.ntmps30
  go_upto_region 1 with (fail)
  have XR := (Bo.newAt w (g := w.heap.size) (by simp) #[.int .i64 0, .bool false, .int .u64 0, .int .i64 0] 30)
  have HB := Lib.hid (bel1 w (.cells #[.int .i64 0, .bool false, .int .u64 0, .int .i64 0] 30))
  replace h := h.below HB.out
  generalize hW1 : (w.alloc (.cells #[.int .i64 0, .bool false, .int .u64 0, .int .i64 0] 30)) = w1 at *
  clear hW1
  go_wp2_with fail
  refine (yInf (s := false) rfl).mono ?_
  rintro ee w2 ⟨K1, s1, M1, E1, rfl, q1, B⟩
  replace XR := XR.below B
  replace h := h.below B
  replace HB := Lib.hid (bt HB.out B)
  clear B
  go_upto_region 2 with (fail)
  have hg3 := XR.lt
  have lX3 := Nat.le_refl (World.heap w2).size
  have nX3XR := XR.lt
  replace XR := XR.below (bel1 _ (.cells #[.int .i64 K1, .bool s1, .int .u64 M1, .int .i64 E1] 30))
  replace h := h.below (bel1 _ (.cells #[.int .i64 K1, .bool s1, .int .u64 M1, .int .i64 E1] 30))
  replace HB := Lib.hid (bt HB.out (bel1 _ (.cells #[.int .i64 K1, .bool s1, .int .u64 M1, .int .i64 E1] 30)))
  have X3 := Bo.new w2 #[.int .i64 K1, .bool s1, .int .u64 M1, .int .i64 E1] 30
  generalize hWn : World.alloc w2 (.cells #[.int .i64 K1, .bool s1, .int .u64 M1, .int .i64 E1] 30) = w3 at *
  clear hWn
  go_wp2_with fail
  generalize w2.heap.size = g3 at *
  clear h w1
  go_loopw [4] (fun i wr => ∃ k : Nat, k ≤ n ∧ i = .int .i64 k ∧ NInv w g3 (mnp (l.take k)) wr) (fun i _ => n - (intOf i).toNat)
  case atStart => exact ⟨0, Nat.zero_le _, rfl, _, _, _, _, XR, X3, q1, HB.out⟩
  case round =>
    obtain ⟨k, hk, rfl, hI⟩ := hrel
    obtain ⟨K1, s1, M1, E1, XR, X3, q1, hB⟩ := hI
    have HB := Lib.hid hB
    have h := hD0.below hB
    clear hB
    by_cases hlt : k < n
    · obtain ⟨b, o, rfl, hcell⟩ := h.2.2.2 (by omega)
      obtain ⟨D, s, M, E, c0, c1, c2, c3, hM, hx⟩ := hcell k hlt
      clear hcell h hD0
      have ht := mnp_take (l := l) (k := k) (by rw [HLn.out]; exact hlt)
      rw [← hx] at ht
      generalize mnp (l.take k) = R at *
      obtain ⟨x, hX⟩ : ∃ x, rk D s M E = x := ⟨_, rfl⟩
      rw [hX] at ht
      have HX := Lib.hid hX
      have HT := Lib.hid ht
      obtain ⟨z, hz⟩ : ∃ z, cmpI x R = z := ⟨_, rfl⟩
      have HZ := Lib.hid (show cmpI (rk D s M E) (rk K1 s1 M1 E1) = z by rw [hX, q1.rk]; exact hz)
      clear ht hX hx
      have i1 : (k : Int) < n := by omega
      have i2 : (0 : Int) ≤ k := by omega
      go_upto_region 5 with (fail)
      refine Jo.region_joint (T := [0, 1, 2, 3, 4, 5, 6]) (ds := [some 12, some 13, some 14, some 15, some 16, some 17, some 18]) (ls := [[], [], [0, 1], [2], [], [3, 4], [5]]) (k := 7) (L := [(some 12, 0), (some 13, 1), (some 14, 2), (some 15, 3), (some 16, 4), (some 17, 5), (some 18, 6)]) (fuel := 0) (J := fun wj => Below (World.heap wr).size wr wj)
        (F := [Jo.Fact.eq (.slice (some ⟨b, o, none⟩) n c), Jo.Fact.eq (.int .i64 k), Jo.Fact.eq (.pointer (some ⟨b, o + k * 4, none⟩)), Jo.Fact.eq (.agg #[.int .i64 D, .bool s, .int .u64 M, .int .i64 E]), Jo.Fact.eq (.agg #[.int .i64 K1, .bool s1, .int .u64 M1, .int .i64 E1]), Jo.Fact.eq (.int .i64 z), Jo.Fact.eq (.bool (decide (z < 0)))])
        (by kernel_rfl) (by kernel_rfl) (by decide) rfl rfl (fun _ _ h b => bt h b) ((Below.refl _ _).drew) ?_ (fun vs w4 hJ hd => ?_)
      · refine Jo.jcons (i := 0) (o := ⟨some 12, _, _, _, _, _⟩) (di := some 12) (L := []) (f := Jo.Fact.eq (.slice (some ⟨b, o, none⟩) n c)) rfl rfl rfl rfl (fun vs wj hJ hd K hK => ?_) ?_
        · clear hd
          simp only [Jo.putl, List.foldl_nil, Act.put, List.setIfInBounds_toArray, List.set_cons_zero, List.set_cons_succ] at hK ⊢
          go_simp
          exact hK.out _ _ rfl (Below.refl _ _)
        refine Jo.jcons (i := 1) (o := ⟨some 13, _, _, _, _, _⟩) (di := some 13) (L := []) (f := Jo.Fact.eq (.int .i64 k)) rfl rfl rfl rfl (fun vs wj hJ hd K hK => ?_) ?_
        · clear hd
          simp only [Jo.putl, List.foldl_nil, Act.put, List.setIfInBounds_toArray, List.set_cons_zero, List.set_cons_succ] at hK ⊢
          go_simp
          exact hK.out _ _ rfl (Below.refl _ _)
        refine Jo.jcons (i := 2) (o := ⟨some 14, _, _, _, _, _⟩) (di := some 14) (L := [(some 12, 0), (some 13, 1)]) (f := Jo.Fact.eq (.pointer (some ⟨b, o + k * 4, none⟩))) rfl rfl rfl rfl (fun vs wj hJ hd K hK => ?_) ?_
        · have d0 : (Jo.Fact.eq (.slice (some ⟨b, o, none⟩) n c)).P (vs 0) wj := hd 0 (by decide)
          have d1 : (Jo.Fact.eq (.int .i64 k)).P (vs 1) wj := hd 1 (by decide)
          clear hd
          simp only [Jo.putl, List.foldl_cons, List.foldl_nil, Act.put, List.setIfInBounds_toArray, List.set_cons_zero, List.set_cons_succ] at hK ⊢
          generalize vs 0 = u0 at hK d0 ⊢
          generalize vs 1 = u1 at hK d1 ⊢
          replace d0 : u0 = _ := d0
          subst d0
          replace d1 : u1 = _ := d1
          subst d1
          go_simp
          exact hK.out _ _ rfl (Below.refl _ _)
        refine Jo.jcons (i := 3) (o := ⟨some 15, _, _, _, _, _⟩) (di := some 15) (L := [(some 14, 2)]) (f := Jo.Fact.eq (.agg #[.int .i64 D, .bool s, .int .u64 M, .int .i64 E])) rfl rfl rfl rfl (fun vs wj hJ hd K hK => ?_) ?_
        · have d2 : (Jo.Fact.eq (.pointer (some ⟨b, o + k * 4, none⟩))).P (vs 2) wj := hd 2 (by decide)
          clear hd
          simp only [Jo.putl, List.foldl_cons, List.foldl_nil, Act.put, List.setIfInBounds_toArray, List.set_cons_zero, List.set_cons_succ] at hK ⊢
          generalize vs 2 = u2 at hK d2 ⊢
          replace d2 : u2 = _ := d2
          subst d2
          have c0' := (hJ.cell (p := ⟨b, _, none⟩) (block_lt_of_cell c0)).trans c0
          have c1' := (hJ.cell (p := ⟨b, _, none⟩) (block_lt_of_cell c1)).trans c1
          have c2' := (hJ.cell (p := ⟨b, _, none⟩) (block_lt_of_cell c2)).trans c2
          have c3' := (hJ.cell (p := ⟨b, _, none⟩) (block_lt_of_cell c3)).trans c3
          go_simp
          exact hK.out _ _ rfl (Below.refl _ _)
        refine Jo.jcons (i := 4) (o := ⟨some 16, _, _, _, _, _⟩) (di := some 16) (L := []) (f := Jo.Fact.eq (.agg #[.int .i64 K1, .bool s1, .int .u64 M1, .int .i64 E1])) rfl rfl rfl rfl (fun vs wj hJ hd K hK => ?_) ?_
        · clear hd
          simp only [Jo.putl, List.foldl_nil, Act.put, List.setIfInBounds_toArray, List.set_cons_zero, List.set_cons_succ] at hK ⊢
          have xX30 : World.cell? wj ⟨g3, 0, none⟩ = some (.int .i64 K1) := (X3.below hJ).cell 0
          have xX31 : World.cell? wj ⟨g3, 1, none⟩ = some (.bool s1) := (X3.below hJ).cell 1
          have xX32 : World.cell? wj ⟨g3, 2, none⟩ = some (.int .u64 M1) := (X3.below hJ).cell 2
          have xX33 : World.cell? wj ⟨g3, 3, none⟩ = some (.int .i64 E1) := (X3.below hJ).cell 3
          go_simp
          exact hK.out _ _ rfl (Below.refl _ _)
        refine Jo.jcons (i := 5) (o := ⟨some 17, _, _, _, _, _⟩) (di := some 17) (L := [(some 15, 3), (some 16, 4)]) (f := Jo.Fact.eq (.int .i64 z)) rfl rfl rfl rfl (fun vs wj hJ hd K hK => ?_) ?_
        · have d3 : (Jo.Fact.eq (.agg #[.int .i64 D, .bool s, .int .u64 M, .int .i64 E])).P (vs 3) wj := hd 3 (by decide)
          have d4 : (Jo.Fact.eq (.agg #[.int .i64 K1, .bool s1, .int .u64 M1, .int .i64 E1])).P (vs 4) wj := hd 4 (by decide)
          clear hd
          simp only [Jo.putl, List.foldl_cons, List.foldl_nil, Act.put, List.setIfInBounds_toArray, List.set_cons_zero, List.set_cons_succ] at hK ⊢
          generalize vs 3 = u3 at hK d3 ⊢
          generalize vs 4 = u4 at hK d4 ⊢
          replace d3 : u3 = _ := d3
          subst d3
          replace d4 : u4 = _ := d4
          subst d4
          go_simp
          refine (yCmp hM q1.top HZ.out).mono ?_
          rintro ee wk ⟨rfl, B⟩
          exact hK.out _ _ rfl B
        refine Jo.jcons (i := 6) (o := ⟨some 18, _, _, _, _, _⟩) (di := some 18) (L := [(some 17, 5)]) (f := Jo.Fact.eq (.bool (decide (z < 0)))) rfl rfl rfl rfl (fun vs wj hJ hd K hK => ?_) ?_
        · have d5 : (Jo.Fact.eq (.int .i64 z)).P (vs 5) wj := hd 5 (by decide)
          clear hd
          simp only [Jo.putl, List.foldl_cons, List.foldl_nil, Act.put, List.setIfInBounds_toArray, List.set_cons_zero, List.set_cons_succ] at hK ⊢
          generalize vs 5 = u5 at hK d5 ⊢
          replace d5 : u5 = _ := d5
          subst d5
          go_simp
          exact hK.out _ _ rfl (Below.refl _ _)
        exact Jo.Steps.nil
      have d0 : (Jo.Fact.eq (.slice (some ⟨b, o, none⟩) n c)).P (vs 0) w4 := hd 0 (by decide)
      have d1 : (Jo.Fact.eq (.int .i64 k)).P (vs 1) w4 := hd 1 (by decide)
      have d2 : (Jo.Fact.eq (.pointer (some ⟨b, o + k * 4, none⟩))).P (vs 2) w4 := hd 2 (by decide)
      have d3 : (Jo.Fact.eq (.agg #[.int .i64 D, .bool s, .int .u64 M, .int .i64 E])).P (vs 3) w4 := hd 3 (by decide)
      have d4 : (Jo.Fact.eq (.agg #[.int .i64 K1, .bool s1, .int .u64 M1, .int .i64 E1])).P (vs 4) w4 := hd 4 (by decide)
      have d5 : (Jo.Fact.eq (.int .i64 z)).P (vs 5) w4 := hd 5 (by decide)
      have d6 : (Jo.Fact.eq (.bool (decide (z < 0)))).P (vs 6) w4 := hd 6 (by decide)
      clear hd
      simp only [Jo.putl, List.foldl_cons, List.foldl_nil, Act.put, List.setIfInBounds_toArray, List.set_cons_zero, List.set_cons_succ]
      generalize vs 0 = u0 at d0 ⊢
      generalize vs 1 = u1 at d1 ⊢
      generalize vs 2 = u2 at d2 ⊢
      generalize vs 3 = u3 at d3 ⊢
      generalize vs 4 = u4 at d4 ⊢
      generalize vs 5 = u5 at d5 ⊢
      generalize vs 6 = u6 at d6 ⊢
      clear vs
      replace d0 : u0 = _ := d0
      subst d0
      replace d1 : u1 = _ := d1
      subst d1
      replace d2 : u2 = _ := d2
      subst d2
      replace d3 : u3 = _ := d3
      subst d3
      replace d4 : u4 = _ := d4
      subst d4
      replace d5 : u5 = _ := d5
      subst d5
      replace d6 : u6 = _ := d6
      subst d6
      replace XR := XR.below hJ
      replace X3 := X3.below hJ
      replace HB := Lib.hid (bt HB.out hJ)
      refine Jo.jdone (by kernel_rfl) ?_
      replace c0 := (hJ.cell (p := ⟨b, _, none⟩) (block_lt_of_cell c0)).trans c0
      replace c1 := (hJ.cell (p := ⟨b, _, none⟩) (block_lt_of_cell c1)).trans c1
      replace c2 := (hJ.cell (p := ⟨b, _, none⟩) (block_lt_of_cell c2)).trans c2
      replace c3 := (hJ.cell (p := ⟨b, _, none⟩) (block_lt_of_cell c3)).trans c3
      by_cases hb : x < R
      · obtain rfl : -1 = z := by rw [← hz, cmpI_lt hb]
        have hT2 := HT.out
        rw [show min R x = x by omega] at hT2
        go_wp2_with fail
        refine (yTaken hM HX.out).mono ?_
        rintro ee w5 ⟨K2, s2, M2, E2, rfl, q2, B⟩
        replace XR := XR.below B
        replace X3 := X3.below B
        replace HB := Lib.hid (bt HB.out B)
        clear B
        have xX30 := X3.at (i := 0) (v := .int .i64 K1) rfl
        have zX30 := X3.frozen 0
        have xX31 := X3.at (i := 1) (v := .bool s1) rfl
        have zX31 := X3.frozen 1
        have xX32 := X3.at (i := 2) (v := .int .u64 M1) rfl
        have zX32 := X3.frozen 2
        have xX33 := X3.at (i := 3) (v := .int .i64 E1) rfl
        have zX33 := X3.frozen 3
        go_upto_region 4 with (fail)
        clear xX30 zX30 xX31 zX31 xX32 zX32 xX33 zX33
        have SX := StN.mk4 X3 (.int .i64 K2) (.bool s2) (.int .u64 M2) (.int .i64 E2)
        replace XR := XR.stn SX (by omega)
        replace HB := Lib.hid (SX.below HB.out (by omega))
        replace X3 := SX.box
        clear SX
        generalize (World.setCell (World.setCell (World.setCell (World.setCell w5 ⟨g3, 0, none⟩ (.int .i64 K2)) ⟨g3, 1, none⟩ (.bool s2)) ⟨g3, 2, none⟩ (.int .u64 M2)) ⟨g3, 3, none⟩ (.int .i64 E2)) = w6 at *
        go_wp2
        go_roundw
        case rel =>
          refine ⟨k + 1, by omega, by go_num, K2, s2, M2, E2, XR, X3, ?_, HB.out⟩
          rw [hT2]; exact q2
        case measure => simp [intOf]; omega
      · have hT2 := HT.out
        rw [show min R x = R by omega] at hT2
        have hz0 : ¬ z < 0 := by
          rw [← hz]
          rcases cmpI_tri x R with ⟨a1, a2⟩ | ⟨a1, a2⟩ | ⟨a1, a2⟩ <;> rw [a2] <;> omega
        have e0 : decide (z < 0) = false := decide_eq_false hz0
        go_wp2
        go_roundw
        case rel =>
          refine ⟨k + 1, by omega, by go_num, K1, s1, M1, E1, XR, X3, ?_, HB.out⟩
          rw [hT2]; exact q1
        case measure => simp [intOf]; omega
    · obtain rfl : k = n := by omega
      rw [List.take_of_length_le (by rw [HLn.out]; omega), HR.out] at q1
      have xXR0 := XR.at (i := 0) (v := .int .i64 0) rfl
      have zXR0 := XR.frozen 0
      have xXR1 := XR.at (i := 1) (v := .bool false) rfl
      have zXR1 := XR.frozen 1
      have xXR2 := XR.at (i := 2) (v := .int .u64 0) rfl
      have zXR2 := XR.frozen 2
      have xXR3 := XR.at (i := 3) (v := .int .i64 0) rfl
      have zXR3 := XR.frozen 3
      have xX30 := X3.at (i := 0) (v := .int .i64 K1) rfl
      have xX31 := X3.at (i := 1) (v := .bool s1) rfl
      have xX32 := X3.at (i := 2) (v := .int .u64 M1) rfl
      have xX33 := X3.at (i := 3) (v := .int .i64 E1) rfl
      go_wp2
      clear xXR0 zXR0 xXR1 zXR1 xXR2 zXR2 xXR3 zXR3 xX30 xX31 xX32 xX33
      have SX := StN.mk4 XR (.int .i64 K1) (.bool s1) (.int .u64 M1) (.int .i64 E1)
      replace X3 := X3.stn SX (by omega)
      replace HB := Lib.hid (SX.below HB.out (by omega))
      replace XR := SX.box
      clear SX
      generalize (World.setCell (World.setCell (World.setCell (World.setCell wr ⟨w.heap.size, 0, none⟩ (.int .i64 K1)) ⟨w.heap.size, 1, none⟩ (.bool s1)) ⟨w.heap.size, 2, none⟩ (.int .u64 M1)) ⟨w.heap.size, 3, none⟩ (.int .i64 E1)) = w5 at *
      have r0 := XR.cell 0
      have r1 := XR.cell 1
      have r2 := XR.cell 2
      have r3 := XR.cell 3
      exact bodyPost_ret (v := .agg #[.int .i64 K1, .bool s1, .int .u64 M1, .int .i64 E1]) (by simp [results, Tryd.results30, go_sem, r0, r1, r2, r3]) rfl ⟨_, _, _, _, rfl, q1, HB.out⟩
set_option maxHeartbeats 4000000 in
theorem yMost {w : World} {A : Option Addr} {n c : Nat} {l : List Int} {r : Int} (h : Nl w A n c l) (hr : mxp l = r) : Calls Tryd.prog 32 #[.slice A n c] w (PN w r) := by
  have HR := Lib.hid hr
  have HLn := Lib.hid h.1
  have hcap := h.2.1
  have hbig := h.2.2.1
  have hD0 := h
  clear hr
  go_enter Tryd.func32, Tryd.ntmps32
  go_upto_region 1 with (fail)
  have XR := (Bo.newAt w (g := w.heap.size) (by simp) #[.int .i64 0, .bool false, .int .u64 0, .int .i64 0] 30)
  have HB := Lib.hid (bel1 w (.cells #[.int .i64 0, .bool false, .int .u64 0, .int .i64 0] 30))
  replace h := h.below HB.out
  generalize hW1 : (w.alloc (.cells #[.int .i64 0, .bool false, .int .u64 0, .int .i64 0] 30)) = w1 at *
  clear hW1
  go_wp2_with fail
  refine (yInf (s := true) rfl).mono ?_
  rintro ee w2 ⟨K1, s1, M1, E1, rfl, q1, B⟩
  replace XR := XR.below B
  replace h := h.below B
  replace HB := Lib.hid (bt HB.out B)
  clear B
  go_upto_region 2 with (fail)
  have hg3 := XR.lt
  have lX3 := Nat.le_refl (World.heap w2).size
  have nX3XR := XR.lt
  replace XR := XR.below (bel1 _ (.cells #[.int .i64 K1, .bool s1, .int .u64 M1, .int .i64 E1] 30))
  replace h := h.below (bel1 _ (.cells #[.int .i64 K1, .bool s1, .int .u64 M1, .int .i64 E1] 30))
  replace HB := Lib.hid (bt HB.out (bel1 _ (.cells #[.int .i64 K1, .bool s1, .int .u64 M1, .int .i64 E1] 30)))
  have X3 := Bo.new w2 #[.int .i64 K1, .bool s1, .int .u64 M1, .int .i64 E1] 30
  generalize hWn : World.alloc w2 (.cells #[.int .i64 K1, .bool s1, .int .u64 M1, .int .i64 E1] 30) = w3 at *
  clear hWn
  go_wp2_with fail
  generalize w2.heap.size = g3 at *
  clear h w1
  go_loopw [4] (fun i wr => ∃ k : Nat, k ≤ n ∧ i = .int .i64 k ∧ NInv w g3 (mxp (l.take k)) wr) (fun i _ => n - (intOf i).toNat)
  case atStart => exact ⟨0, Nat.zero_le _, rfl, _, _, _, _, XR, X3, q1, HB.out⟩
  case round =>
    obtain ⟨k, hk, rfl, hI⟩ := hrel
    obtain ⟨K1, s1, M1, E1, XR, X3, q1, hB⟩ := hI
    have HB := Lib.hid hB
    have h := hD0.below hB
    clear hB
    by_cases hlt : k < n
    · obtain ⟨b, o, rfl, hcell⟩ := h.2.2.2 (by omega)
      obtain ⟨D, s, M, E, c0, c1, c2, c3, hM, hx⟩ := hcell k hlt
      clear hcell h hD0
      have ht := mxp_take (l := l) (k := k) (by rw [HLn.out]; exact hlt)
      rw [← hx] at ht
      generalize mxp (l.take k) = R at *
      obtain ⟨x, hX⟩ : ∃ x, rk D s M E = x := ⟨_, rfl⟩
      rw [hX] at ht
      have HX := Lib.hid hX
      have HT := Lib.hid ht
      obtain ⟨z, hz⟩ : ∃ z, cmpI x R = z := ⟨_, rfl⟩
      have HZ := Lib.hid (show cmpI (rk D s M E) (rk K1 s1 M1 E1) = z by rw [hX, q1.rk]; exact hz)
      clear ht hX hx
      have i1 : (k : Int) < n := by omega
      have i2 : (0 : Int) ≤ k := by omega
      go_upto_region 5 with (fail)
      refine Jo.region_joint (T := [0, 1, 2, 3, 4, 5, 6]) (ds := [some 12, some 13, some 14, some 15, some 16, some 17, some 18]) (ls := [[], [], [0, 1], [2], [], [3, 4], [5]]) (k := 7) (L := [(some 12, 0), (some 13, 1), (some 14, 2), (some 15, 3), (some 16, 4), (some 17, 5), (some 18, 6)]) (fuel := 0) (J := fun wj => Below (World.heap wr).size wr wj)
        (F := [Jo.Fact.eq (.slice (some ⟨b, o, none⟩) n c), Jo.Fact.eq (.int .i64 k), Jo.Fact.eq (.pointer (some ⟨b, o + k * 4, none⟩)), Jo.Fact.eq (.agg #[.int .i64 D, .bool s, .int .u64 M, .int .i64 E]), Jo.Fact.eq (.agg #[.int .i64 K1, .bool s1, .int .u64 M1, .int .i64 E1]), Jo.Fact.eq (.int .i64 z), Jo.Fact.eq (.bool (decide (0 < z)))])
        (by kernel_rfl) (by kernel_rfl) (by decide) rfl rfl (fun _ _ h b => bt h b) ((Below.refl _ _).drew) ?_ (fun vs w4 hJ hd => ?_)
      · refine Jo.jcons (i := 0) (o := ⟨some 12, _, _, _, _, _⟩) (di := some 12) (L := []) (f := Jo.Fact.eq (.slice (some ⟨b, o, none⟩) n c)) rfl rfl rfl rfl (fun vs wj hJ hd K hK => ?_) ?_
        · clear hd
          simp only [Jo.putl, List.foldl_nil, Act.put, List.setIfInBounds_toArray, List.set_cons_zero, List.set_cons_succ] at hK ⊢
          go_simp
          exact hK.out _ _ rfl (Below.refl _ _)
        refine Jo.jcons (i := 1) (o := ⟨some 13, _, _, _, _, _⟩) (di := some 13) (L := []) (f := Jo.Fact.eq (.int .i64 k)) rfl rfl rfl rfl (fun vs wj hJ hd K hK => ?_) ?_
        · clear hd
          simp only [Jo.putl, List.foldl_nil, Act.put, List.setIfInBounds_toArray, List.set_cons_zero, List.set_cons_succ] at hK ⊢
          go_simp
          exact hK.out _ _ rfl (Below.refl _ _)
        refine Jo.jcons (i := 2) (o := ⟨some 14, _, _, _, _, _⟩) (di := some 14) (L := [(some 12, 0), (some 13, 1)]) (f := Jo.Fact.eq (.pointer (some ⟨b, o + k * 4, none⟩))) rfl rfl rfl rfl (fun vs wj hJ hd K hK => ?_) ?_
        · have d0 : (Jo.Fact.eq (.slice (some ⟨b, o, none⟩) n c)).P (vs 0) wj := hd 0 (by decide)
          have d1 : (Jo.Fact.eq (.int .i64 k)).P (vs 1) wj := hd 1 (by decide)
          clear hd
          simp only [Jo.putl, List.foldl_cons, List.foldl_nil, Act.put, List.setIfInBounds_toArray, List.set_cons_zero, List.set_cons_succ] at hK ⊢
          generalize vs 0 = u0 at hK d0 ⊢
          generalize vs 1 = u1 at hK d1 ⊢
          replace d0 : u0 = _ := d0
          subst d0
          replace d1 : u1 = _ := d1
          subst d1
          go_simp
          exact hK.out _ _ rfl (Below.refl _ _)
        refine Jo.jcons (i := 3) (o := ⟨some 15, _, _, _, _, _⟩) (di := some 15) (L := [(some 14, 2)]) (f := Jo.Fact.eq (.agg #[.int .i64 D, .bool s, .int .u64 M, .int .i64 E])) rfl rfl rfl rfl (fun vs wj hJ hd K hK => ?_) ?_
        · have d2 : (Jo.Fact.eq (.pointer (some ⟨b, o + k * 4, none⟩))).P (vs 2) wj := hd 2 (by decide)
          clear hd
          simp only [Jo.putl, List.foldl_cons, List.foldl_nil, Act.put, List.setIfInBounds_toArray, List.set_cons_zero, List.set_cons_succ] at hK ⊢
          generalize vs 2 = u2 at hK d2 ⊢
          replace d2 : u2 = _ := d2
          subst d2
          have c0' := (hJ.cell (p := ⟨b, _, none⟩) (block_lt_of_cell c0)).trans c0
          have c1' := (hJ.cell (p := ⟨b, _, none⟩) (block_lt_of_cell c1)).trans c1
          have c2' := (hJ.cell (p := ⟨b, _, none⟩) (block_lt_of_cell c2)).trans c2
          have c3' := (hJ.cell (p := ⟨b, _, none⟩) (block_lt_of_cell c3)).trans c3
          go_simp
          exact hK.out _ _ rfl (Below.refl _ _)
        refine Jo.jcons (i := 4) (o := ⟨some 16, _, _, _, _, _⟩) (di := some 16) (L := []) (f := Jo.Fact.eq (.agg #[.int .i64 K1, .bool s1, .int .u64 M1, .int .i64 E1])) rfl rfl rfl rfl (fun vs wj hJ hd K hK => ?_) ?_
        · clear hd
          simp only [Jo.putl, List.foldl_nil, Act.put, List.setIfInBounds_toArray, List.set_cons_zero, List.set_cons_succ] at hK ⊢
          have xX30 : World.cell? wj ⟨g3, 0, none⟩ = some (.int .i64 K1) := (X3.below hJ).cell 0
          have xX31 : World.cell? wj ⟨g3, 1, none⟩ = some (.bool s1) := (X3.below hJ).cell 1
          have xX32 : World.cell? wj ⟨g3, 2, none⟩ = some (.int .u64 M1) := (X3.below hJ).cell 2
          have xX33 : World.cell? wj ⟨g3, 3, none⟩ = some (.int .i64 E1) := (X3.below hJ).cell 3
          go_simp
          exact hK.out _ _ rfl (Below.refl _ _)
        refine Jo.jcons (i := 5) (o := ⟨some 17, _, _, _, _, _⟩) (di := some 17) (L := [(some 15, 3), (some 16, 4)]) (f := Jo.Fact.eq (.int .i64 z)) rfl rfl rfl rfl (fun vs wj hJ hd K hK => ?_) ?_
        · have d3 : (Jo.Fact.eq (.agg #[.int .i64 D, .bool s, .int .u64 M, .int .i64 E])).P (vs 3) wj := hd 3 (by decide)
          have d4 : (Jo.Fact.eq (.agg #[.int .i64 K1, .bool s1, .int .u64 M1, .int .i64 E1])).P (vs 4) wj := hd 4 (by decide)
          clear hd
          simp only [Jo.putl, List.foldl_cons, List.foldl_nil, Act.put, List.setIfInBounds_toArray, List.set_cons_zero, List.set_cons_succ] at hK ⊢
          generalize vs 3 = u3 at hK d3 ⊢
          generalize vs 4 = u4 at hK d4 ⊢
          replace d3 : u3 = _ := d3
          subst d3
          replace d4 : u4 = _ := d4
          subst d4
          go_simp
          refine (yCmp hM q1.top HZ.out).mono ?_
          rintro ee wk ⟨rfl, B⟩
          exact hK.out _ _ rfl B
        refine Jo.jcons (i := 6) (o := ⟨some 18, _, _, _, _, _⟩) (di := some 18) (L := [(some 17, 5)]) (f := Jo.Fact.eq (.bool (decide (0 < z)))) rfl rfl rfl rfl (fun vs wj hJ hd K hK => ?_) ?_
        · have d5 : (Jo.Fact.eq (.int .i64 z)).P (vs 5) wj := hd 5 (by decide)
          clear hd
          simp only [Jo.putl, List.foldl_cons, List.foldl_nil, Act.put, List.setIfInBounds_toArray, List.set_cons_zero, List.set_cons_succ] at hK ⊢
          generalize vs 5 = u5 at hK d5 ⊢
          replace d5 : u5 = _ := d5
          subst d5
          go_simp
          exact hK.out _ _ rfl (Below.refl _ _)
        exact Jo.Steps.nil
      have d0 : (Jo.Fact.eq (.slice (some ⟨b, o, none⟩) n c)).P (vs 0) w4 := hd 0 (by decide)
      have d1 : (Jo.Fact.eq (.int .i64 k)).P (vs 1) w4 := hd 1 (by decide)
      have d2 : (Jo.Fact.eq (.pointer (some ⟨b, o + k * 4, none⟩))).P (vs 2) w4 := hd 2 (by decide)
      have d3 : (Jo.Fact.eq (.agg #[.int .i64 D, .bool s, .int .u64 M, .int .i64 E])).P (vs 3) w4 := hd 3 (by decide)
      have d4 : (Jo.Fact.eq (.agg #[.int .i64 K1, .bool s1, .int .u64 M1, .int .i64 E1])).P (vs 4) w4 := hd 4 (by decide)
      have d5 : (Jo.Fact.eq (.int .i64 z)).P (vs 5) w4 := hd 5 (by decide)
      have d6 : (Jo.Fact.eq (.bool (decide (0 < z)))).P (vs 6) w4 := hd 6 (by decide)
      clear hd
      simp only [Jo.putl, List.foldl_cons, List.foldl_nil, Act.put, List.setIfInBounds_toArray, List.set_cons_zero, List.set_cons_succ]
      generalize vs 0 = u0 at d0 ⊢
      generalize vs 1 = u1 at d1 ⊢
      generalize vs 2 = u2 at d2 ⊢
      generalize vs 3 = u3 at d3 ⊢
      generalize vs 4 = u4 at d4 ⊢
      generalize vs 5 = u5 at d5 ⊢
      generalize vs 6 = u6 at d6 ⊢
      clear vs
      replace d0 : u0 = _ := d0
      subst d0
      replace d1 : u1 = _ := d1
      subst d1
      replace d2 : u2 = _ := d2
      subst d2
      replace d3 : u3 = _ := d3
      subst d3
      replace d4 : u4 = _ := d4
      subst d4
      replace d5 : u5 = _ := d5
      subst d5
      replace d6 : u6 = _ := d6
      subst d6
      replace XR := XR.below hJ
      replace X3 := X3.below hJ
      replace HB := Lib.hid (bt HB.out hJ)
      refine Jo.jdone (by kernel_rfl) ?_
      replace c0 := (hJ.cell (p := ⟨b, _, none⟩) (block_lt_of_cell c0)).trans c0
      replace c1 := (hJ.cell (p := ⟨b, _, none⟩) (block_lt_of_cell c1)).trans c1
      replace c2 := (hJ.cell (p := ⟨b, _, none⟩) (block_lt_of_cell c2)).trans c2
      replace c3 := (hJ.cell (p := ⟨b, _, none⟩) (block_lt_of_cell c3)).trans c3
      by_cases hb : R < x
      · obtain rfl : 1 = z := by rw [← hz, cmpI_gt hb]
        have hT2 := HT.out
        rw [show max R x = x by omega] at hT2
        go_wp2_with fail
        refine (yTaken hM HX.out).mono ?_
        rintro ee w5 ⟨K2, s2, M2, E2, rfl, q2, B⟩
        replace XR := XR.below B
        replace X3 := X3.below B
        replace HB := Lib.hid (bt HB.out B)
        clear B
        have xX30 := X3.at (i := 0) (v := .int .i64 K1) rfl
        have zX30 := X3.frozen 0
        have xX31 := X3.at (i := 1) (v := .bool s1) rfl
        have zX31 := X3.frozen 1
        have xX32 := X3.at (i := 2) (v := .int .u64 M1) rfl
        have zX32 := X3.frozen 2
        have xX33 := X3.at (i := 3) (v := .int .i64 E1) rfl
        have zX33 := X3.frozen 3
        go_upto_region 4 with (fail)
        clear xX30 zX30 xX31 zX31 xX32 zX32 xX33 zX33
        have SX := StN.mk4 X3 (.int .i64 K2) (.bool s2) (.int .u64 M2) (.int .i64 E2)
        replace XR := XR.stn SX (by omega)
        replace HB := Lib.hid (SX.below HB.out (by omega))
        replace X3 := SX.box
        clear SX
        generalize (World.setCell (World.setCell (World.setCell (World.setCell w5 ⟨g3, 0, none⟩ (.int .i64 K2)) ⟨g3, 1, none⟩ (.bool s2)) ⟨g3, 2, none⟩ (.int .u64 M2)) ⟨g3, 3, none⟩ (.int .i64 E2)) = w6 at *
        go_wp2
        go_roundw
        case rel =>
          refine ⟨k + 1, by omega, by go_num, K2, s2, M2, E2, XR, X3, ?_, HB.out⟩
          rw [hT2]; exact q2
        case measure => simp [intOf]; omega
      · have hT2 := HT.out
        rw [show max R x = R by omega] at hT2
        have hz0 : ¬ 0 < z := by
          rw [← hz]
          rcases cmpI_tri x R with ⟨a1, a2⟩ | ⟨a1, a2⟩ | ⟨a1, a2⟩ <;> rw [a2] <;> omega
        have e0 : decide (0 < z) = false := decide_eq_false hz0
        go_wp2
        go_roundw
        case rel =>
          refine ⟨k + 1, by omega, by go_num, K1, s1, M1, E1, XR, X3, ?_, HB.out⟩
          rw [hT2]; exact q1
        case measure => simp [intOf]; omega
    · obtain rfl : k = n := by omega
      rw [List.take_of_length_le (by rw [HLn.out]; omega), HR.out] at q1
      have xXR0 := XR.at (i := 0) (v := .int .i64 0) rfl
      have zXR0 := XR.frozen 0
      have xXR1 := XR.at (i := 1) (v := .bool false) rfl
      have zXR1 := XR.frozen 1
      have xXR2 := XR.at (i := 2) (v := .int .u64 0) rfl
      have zXR2 := XR.frozen 2
      have xXR3 := XR.at (i := 3) (v := .int .i64 0) rfl
      have zXR3 := XR.frozen 3
      have xX30 := X3.at (i := 0) (v := .int .i64 K1) rfl
      have xX31 := X3.at (i := 1) (v := .bool s1) rfl
      have xX32 := X3.at (i := 2) (v := .int .u64 M1) rfl
      have xX33 := X3.at (i := 3) (v := .int .i64 E1) rfl
      go_wp2
      clear xXR0 zXR0 xXR1 zXR1 xXR2 zXR2 xXR3 zXR3 xX30 xX31 xX32 xX33
      have SX := StN.mk4 XR (.int .i64 K1) (.bool s1) (.int .u64 M1) (.int .i64 E1)
      replace X3 := X3.stn SX (by omega)
      replace HB := Lib.hid (SX.below HB.out (by omega))
      replace XR := SX.box
      clear SX
      generalize (World.setCell (World.setCell (World.setCell (World.setCell wr ⟨w.heap.size, 0, none⟩ (.int .i64 K1)) ⟨w.heap.size, 1, none⟩ (.bool s1)) ⟨w.heap.size, 2, none⟩ (.int .u64 M1)) ⟨w.heap.size, 3, none⟩ (.int .i64 E1)) = w5 at *
      have r0 := XR.cell 0
      have r1 := XR.cell 1
      have r2 := XR.cell 2
      have r3 := XR.cell 3
      exact bodyPost_ret (v := .agg #[.int .i64 K1, .bool s1, .int .u64 M1, .int .i64 E1]) (by simp [results, Tryd.results32, go_sem, r0, r1, r2, r3]) rfl ⟨_, _, _, _, rfl, q1, HB.out⟩
end Go.Proofs.YthibemmhgdbiiaaDoor

/-
  The joint rule for a region with a store that may come before or behind other operations: the stored box is as it was or as it is to be, all other blocks are as they were. No Go text.
-/
namespace Go.Proofs.YthibemmhgdbiiaaDoor.Jo
open Go Go.RowKit
set_option linter.unusedVariables false

/-- All blocks but g are as they were; g is as it was, or just the cells new. -/
structure Off (g : Nat) (new : Array Value) (R : TypeId) (w w' : World) : Prop where
  os : w'.os = w.os
  tape : w'.tape = w.tape
  output : w'.output = w.output
  size : w.heap.size ≤ w'.heap.size
  block : ∀ k, k < w.heap.size → k ≠ g → w'.heap[k]? = w.heap[k]?
  own : w'.heap[g]? = w.heap[g]? ∨ w'.heap[g]? = some (.cells new R (0, 0))

section
variable {g : Nat} {new : Array Value} {R : TypeId} {w w' w'' : World}
theorem Off.refl (g : Nat) (new : Array Value) (R : TypeId) (w : World) : Off g new R w w := ⟨rfl, rfl, rfl, Nat.le_refl _, fun _ _ _ => rfl, .inl rfl⟩
theorem Off.drew (w : World) : Off g new R w w.drew := ⟨rfl, rfl, rfl, Nat.le_refl _, fun _ _ _ => rfl, .inl rfl⟩
theorem Off.trans (h : Off g new R w w') (k : Off g new R w' w'') : Off g new R w w'' :=
  ⟨k.os.trans h.os, k.tape.trans h.tape, k.output.trans h.output, Nat.le_trans h.size k.size, fun i hi hn => (k.block i (Nat.lt_of_lt_of_le hi h.size) hn).trans (h.block i hi hn), by
    rcases k.own with e | e
    · rcases h.own with f | f
      · exact .inl (e.trans f)
      · exact .inr (e.trans f)
    · exact .inr e⟩
theorem Off.of_below (h : Below w.heap.size w w') (hg : g < w.heap.size) : Off g new R w w' := ⟨h.os, h.tape, h.output, h.size, fun k hk _ => h.block k hk, .inl (h.block g hg)⟩
theorem Off.of_stn {old : Array Value} (S : StN w w' g old new R) : Off g new R w w' := by
  have hb := S.2.2.2 0 w (Nat.zero_le _) (Below.refl 0 w)
  exact ⟨hb.os, hb.tape, hb.output, hb.size, fun k _ hn => S.2.2.1 k hn, .inr S.2.1⟩
theorem Off.below {B : Nat} {a : World} (O : Off g new R w w') (h : Below B a w) (hB : B ≤ g) (hg : g < w.heap.size) : Below B a w' :=
  ⟨O.os.trans h.os, O.tape.trans h.tape, O.output.trans h.output, Nat.le_trans h.size O.size, fun k hk => (O.block k (by omega) (by omega)).trans (h.block k hk)⟩
theorem _root_.Go.Proofs.YthibemmhgdbiiaaDoor.Bo.off {k : Nat} {cs : Array Value} {T : TypeId} (X : Bo w k cs T) (hk : k ≠ g) (O : Off g new R w w') : Bo w' k cs T := X.keep (O.block k X.lt hk)
theorem _root_.Go.Proofs.YthibemmhgdbiiaaDoor.Nm.off {old : Array Value} {B : Option Addr} {m d a : Nat} (h : Nm w B m d a) (X : Bo w g old R) (hn : old.all no32 = true) (O : Off g new R w w') : Nm w' B m d a := by
  obtain ⟨b, h⟩ := h
  exact ⟨b, h.keep fun hm => O.block b (h.lt hm) (fun e => by
    obtain ⟨o, _, hc⟩ := h.at hm
    have := hc 0 hm
    rw [e] at this
    exact X.no hn this)⟩
theorem _root_.Go.Proofs.YthibemmhgdbiiaaDoor.Rd.off {old : Array Value} {B : Option Addr} {m d a : Nat} (h : Rd w B m d a) (X : Bo w g old R) (hn : old.all no32 = true) (O : Off g new R w w') : Rd w' B m d a := by
  obtain ⟨b, xs, h, e⟩ := h
  exact ⟨b, xs, h.keep fun hm => O.block b (h.lt hm) (fun e => by
    obtain ⟨o, _, hc⟩ := h.at hm
    have := hc 0 hm
    rw [e] at this
    exact X.no hn this), e⟩
end

/-- What is known of a value, kept by what such a region does. -/
structure LFact (g : Nat) (new : Array Value) (R : TypeId) where
  P : Value → World → Prop
  keep : ∀ v w w', P v w → Off g new R w w' → P v w'
section
variable {g : Nat} {new : Array Value} {R : TypeId}
def LFact.any : LFact g new R := ⟨fun _ _ => True, fun _ _ _ h _ => h⟩
def LFact.eq (u : Value) : LFact g new R := ⟨fun v _ => v = u, fun _ _ _ h _ => h⟩
/-- The store is done. -/
def LFact.done : LFact g new R := ⟨fun _ w => Bo w g new R, fun v w w' h o => by
  rcases o.own with e | e
  · exact h.keep e
  · exact e⟩
def lphi (F : List (LFact g new R)) (i : Nat) (v : Value) (w : World) : Prop := (F.getD i LFact.any).P v w
variable {P : Program} {ops : Array Oper} {Q : Exit → Act → World → Prop} {a0 : Act} {T : List Nat} {ds : List (Option Tmp)} {ls : List (List Nat)} {k : Nat} {F : List (LFact g new R)} {J : World → Prop}
theorem lcons {i : Nat} {o : Oper} {r : List Nat} {di : Option Tmp} {L : List (Option Tmp × Nat)} {f : LFact g new R} (ho : ops[i]? = some o) (hdi : ds.getD i none = di) (hL : ((ls.getD i []).map fun j => (ds.getD j none, j)) = L) (hf : F.getD i LFact.any = f)
    (h : ∀ vs w, J w → (∀ j ∈ ls.getD i [], lphi F j (vs j) w) → ∀ K : Act → World → Prop, Shut (∀ v w', f.P v w' → Off g new R w w' → K ((putl vs L a0).put di v) w') →
      if Region.wanted o (yielded ops (putl vs L a0).tmps) = true then Oper.wp P o (putl vs L a0) w K Q else K ((putl vs L a0).put o.dst undef) w)
    (hs : Steps P ops Q a0 (dstOf ds) (depOf ls) (lphi F) J (Off g new R) r) : Steps P ops Q a0 (dstOf ds) (depOf ls) (lphi F) J (Off g new R) (i :: r) := by
  refine Steps.cons ho (fun vs w hJ hd K hK => ?_) hs
  have e : base (dstOf ds) vs (depOf ls i) a0 = putl vs L a0 := by
    rw [base_putl, ← hL]
    rfl
  rw [e] at hK ⊢
  refine h vs w hJ hd K ?_
  intro v w' h1 h2
  have := hK.out v w' (by unfold lphi; rw [hf]; exact h1) h2
  rwa [show dstOf ds i = di from hdi] at this
theorem region_late {id fuel : Nat} {w : World} {L : List (Option Tmp × Nat)} (hm : P.follows .mixedOrders = true) (hok : ok .any ops T (dstOf ds) (depOf ls) k a0.tmps.size = true) (hnd : T.Nodup)
    (hL : (T.map fun j => (ds.getD j none, j)) = L) (hfu : ops.size - T.length = fuel)
    (step : Steps P ops (NoPanic Q) a0 (dstOf ds) (depOf ls) (lphi F) (fun wj => Off g new R w wj) (Off g new R) T)
    (fin : ∀ vs wj, Off g new R w wj → (∀ j ∈ T, lphi F j (vs j) wj) → wpAny P .any ops (NoPanic Q) fuel (mark T ops.size) (putl vs L a0) wj) :
    (Code.region id ops true).wp P Q a0 w := by
  refine wp_region_noPanic ?_
  refine wp_region_joint (T := T) (dst := dstOf ds) (D := depOf ls) (k := k) (Φ := lphi F) (J := fun wj => Off g new R w wj) (St := Off g new R) hm hok hnd (fun _ _ _ _ h => h) (fun i _ v w w' h b => (F.getD i LFact.any).keep v w w' h b) (fun _ _ h b => h.trans b) (Off.drew w) step ?_
  intro vs w hJ hd
  have e : base (dstOf ds) vs T a0 = putl vs L a0 := by
    rw [base_putl, ← hL]
    rfl
  rw [e, hfu]
  exact fin vs w hJ hd
end
end Go.Proofs.YthibemmhgdbiiaaDoor.Jo

/-
  What dy.times and dy.highest do.
-/
namespace Go.Proofs.YthibemmhgdbiiaaDoor
open Go.RowKit
set_option linter.unusedVariables false

set_option maxHeartbeats 2000000 in
theorem dTimes {w : World} {A : Option Addr} {n c : Nat} {s : Bool} {N E low r : Int} (h : Wn w s A n c N) (hn : n ≤ 100000) (h0 : low ≤ E) (h1 : E - low ≤ 8388608) (hr : N * ((2 ^ (E - low).toNat : Nat) : Int) = r) :
    Calls Tryd.prog 64 #[.agg #[.bool s, .slice A n c, .int .i64 E], .int .i64 low] w (W1 w (n + (E - low).toNat / 32 + 1) r) := by
  have HR := Lib.hid hr
  clear hr
  obtain ⟨d, hd⟩ : ∃ d, E - low = d := ⟨_, rfl⟩
  have HW : Hid (IntKind.i64.wrap (E - low) = d) := Lib.hid (by rw [hd]; exact IntWalk.i64_in _ (by omega))
  rw [hd] at h1
  have hd0 : 0 ≤ d := by omega
  rw [hd] at HR ⊢
  clear hd h0
  go_enter Tryd.func64, Tryd.ntmps64
  go_wp2_with fail
  have X1 := (Bo.new w #[.bool s, .slice A n c, .int .i64 E] 26).below (bel1 _ (.cells #[.bool false, .slice none 0 0] 24))
  have XR := Bo.newAt (w.alloc (.cells #[.bool s, .slice A n c, .int .i64 E] 26)) (g := w.heap.size + 1) (by simp) #[.bool false, .slice none 0 0] 24
  replace h := h.below (bel2 w (.cells #[.bool s, .slice A n c, .int .i64 E] 26) (.cells #[.bool false, .slice none 0 0] 24))
  have HB := Lib.hid (bel2 w (.cells #[.bool s, .slice A n c, .int .i64 E] 26) (.cells #[.bool false, .slice none 0 0] 24))
  generalize hW1 : (w.alloc (.cells #[.bool s, .slice A n c, .int .i64 E] 26)).alloc (.cells #[.bool false, .slice none 0 0] 24) = w1 at *
  clear hW1
  go_wp2
  refine Jo.region_joint (T := [0, 1, 2, 3, 4, 5, 6, 7, 8, 9, 10, 11]) (ds := [some 5, some 6, some 7, some 8, some 9, some 10, some 11, some 12, some 13, some 14, some 15, some 16, none]) (ls := [[], [0], [1], [], [3], [4], [], [6], [], [7, 8], [5, 9], [2, 10], []]) (k := 13) (L := [(some 5, 0), (some 6, 1), (some 7, 2), (some 8, 3), (some 9, 4), (some 10, 5), (some 11, 6), (some 12, 7), (some 13, 8), (some 14, 9), (some 15, 10), (some 16, 11)]) (fuel := 1) (J := fun wj => Below (World.heap w1).size w1 wj)
    (F := [Jo.Fact.eq (.pointer (some ⟨w.heap.size, 0, none⟩)), Jo.Fact.eq (.pointer (some ⟨w.heap.size, 0, none⟩)), Jo.Fact.eq (.bool s), Jo.Fact.eq (.pointer (some ⟨w.heap.size, 0, none⟩)), Jo.Fact.eq (.pointer (some ⟨w.heap.size, 1, none⟩)), Jo.Fact.eq (.slice A n c), Jo.Fact.eq (.pointer (some ⟨w.heap.size, 2, none⟩)), Jo.Fact.eq (.int .i64 E), Jo.Fact.eq (.int .i64 low), Jo.Fact.eq (.int .i64 d), Jo.Fact.nm (N.natAbs * 2 ^ d.toNat) (n + d.toNat / 32 + 1), Jo.Fact.wn r (n + d.toNat / 32 + 1), Jo.Fact.any])
    (by kernel_rfl) (by kernel_rfl) (by decide) rfl rfl (fun _ _ h b => bt h b) ((Below.refl _ _).drew) ?_ (fun vs w2 hJ hd => ?_)
  · refine Jo.jcons (i := 0) (o := ⟨some 5, _, _, _, _, _⟩) (di := some 5) (L := []) (f := Jo.Fact.eq (.pointer (some ⟨w.heap.size, 0, none⟩))) rfl rfl rfl rfl (fun vs wj hJ hd K hK => ?_) ?_
    · clear hd
      simp only [Jo.putl, List.foldl_nil, Act.put, List.setIfInBounds_toArray, List.set_cons_zero, List.set_cons_succ] at hK ⊢
      go_simp
      exact hK.out _ _ rfl (Below.refl _ _)
    refine Jo.jcons (i := 1) (o := ⟨some 6, _, _, _, _, _⟩) (di := some 6) (L := [(some 5, 0)]) (f := Jo.Fact.eq (.pointer (some ⟨w.heap.size, 0, none⟩))) rfl rfl rfl rfl (fun vs wj hJ hd K hK => ?_) ?_
    · have d0 : (Jo.Fact.eq (.pointer (some ⟨w.heap.size, 0, none⟩))).P (vs 0) wj := hd 0 (by decide)
      clear hd
      simp only [Jo.putl, List.foldl_cons, List.foldl_nil, Act.put, List.setIfInBounds_toArray, List.set_cons_zero, List.set_cons_succ] at hK ⊢
      generalize vs 0 = u0 at hK d0 ⊢
      replace d0 : u0 = _ := d0
      subst d0
      go_simp
      exact hK.out _ _ rfl (Below.refl _ _)
    refine Jo.jcons (i := 2) (o := ⟨some 7, _, _, _, _, _⟩) (di := some 7) (L := [(some 6, 1)]) (f := Jo.Fact.eq (.bool s)) rfl rfl rfl rfl (fun vs wj hJ hd K hK => ?_) ?_
    · have d1 : (Jo.Fact.eq (.pointer (some ⟨w.heap.size, 0, none⟩))).P (vs 1) wj := hd 1 (by decide)
      clear hd
      simp only [Jo.putl, List.foldl_cons, List.foldl_nil, Act.put, List.setIfInBounds_toArray, List.set_cons_zero, List.set_cons_succ] at hK ⊢
      generalize vs 1 = u1 at hK d1 ⊢
      replace d1 : u1 = _ := d1
      subst d1
      have xX10 : World.cell? wj ⟨w.heap.size, 0, none⟩ = some (.bool s) := (X1.below hJ).cell 0
      have xX11 : World.cell? wj ⟨w.heap.size, 1, none⟩ = some (.slice A n c) := (X1.below hJ).cell 1
      have xX12 : World.cell? wj ⟨w.heap.size, 2, none⟩ = some (.int .i64 E) := (X1.below hJ).cell 2
      go_simp
      exact hK.out _ _ rfl (Below.refl _ _)
    refine Jo.jcons (i := 3) (o := ⟨some 8, _, _, _, _, _⟩) (di := some 8) (L := []) (f := Jo.Fact.eq (.pointer (some ⟨w.heap.size, 0, none⟩))) rfl rfl rfl rfl (fun vs wj hJ hd K hK => ?_) ?_
    · clear hd
      simp only [Jo.putl, List.foldl_nil, Act.put, List.setIfInBounds_toArray, List.set_cons_zero, List.set_cons_succ] at hK ⊢
      go_simp
      exact hK.out _ _ rfl (Below.refl _ _)
    refine Jo.jcons (i := 4) (o := ⟨some 9, _, _, _, _, _⟩) (di := some 9) (L := [(some 8, 3)]) (f := Jo.Fact.eq (.pointer (some ⟨w.heap.size, 1, none⟩))) rfl rfl rfl rfl (fun vs wj hJ hd K hK => ?_) ?_
    · have d3 : (Jo.Fact.eq (.pointer (some ⟨w.heap.size, 0, none⟩))).P (vs 3) wj := hd 3 (by decide)
      clear hd
      simp only [Jo.putl, List.foldl_cons, List.foldl_nil, Act.put, List.setIfInBounds_toArray, List.set_cons_zero, List.set_cons_succ] at hK ⊢
      generalize vs 3 = u3 at hK d3 ⊢
      replace d3 : u3 = _ := d3
      subst d3
      go_simp
      exact hK.out _ _ rfl (Below.refl _ _)
    refine Jo.jcons (i := 5) (o := ⟨some 10, _, _, _, _, _⟩) (di := some 10) (L := [(some 9, 4)]) (f := Jo.Fact.eq (.slice A n c)) rfl rfl rfl rfl (fun vs wj hJ hd K hK => ?_) ?_
    · have d4 : (Jo.Fact.eq (.pointer (some ⟨w.heap.size, 1, none⟩))).P (vs 4) wj := hd 4 (by decide)
      clear hd
      simp only [Jo.putl, List.foldl_cons, List.foldl_nil, Act.put, List.setIfInBounds_toArray, List.set_cons_zero, List.set_cons_succ] at hK ⊢
      generalize vs 4 = u4 at hK d4 ⊢
      replace d4 : u4 = _ := d4
      subst d4
      have xX10 : World.cell? wj ⟨w.heap.size, 0, none⟩ = some (.bool s) := (X1.below hJ).cell 0
      have xX11 : World.cell? wj ⟨w.heap.size, 1, none⟩ = some (.slice A n c) := (X1.below hJ).cell 1
      have xX12 : World.cell? wj ⟨w.heap.size, 2, none⟩ = some (.int .i64 E) := (X1.below hJ).cell 2
      go_simp
      exact hK.out _ _ rfl (Below.refl _ _)
    refine Jo.jcons (i := 6) (o := ⟨some 11, _, _, _, _, _⟩) (di := some 11) (L := []) (f := Jo.Fact.eq (.pointer (some ⟨w.heap.size, 2, none⟩))) rfl rfl rfl rfl (fun vs wj hJ hd K hK => ?_) ?_
    · clear hd
      simp only [Jo.putl, List.foldl_nil, Act.put, List.setIfInBounds_toArray, List.set_cons_zero, List.set_cons_succ] at hK ⊢
      go_simp
      exact hK.out _ _ rfl (Below.refl _ _)
    refine Jo.jcons (i := 7) (o := ⟨some 12, _, _, _, _, _⟩) (di := some 12) (L := [(some 11, 6)]) (f := Jo.Fact.eq (.int .i64 E)) rfl rfl rfl rfl (fun vs wj hJ hd K hK => ?_) ?_
    · have d6 : (Jo.Fact.eq (.pointer (some ⟨w.heap.size, 2, none⟩))).P (vs 6) wj := hd 6 (by decide)
      clear hd
      simp only [Jo.putl, List.foldl_cons, List.foldl_nil, Act.put, List.setIfInBounds_toArray, List.set_cons_zero, List.set_cons_succ] at hK ⊢
      generalize vs 6 = u6 at hK d6 ⊢
      replace d6 : u6 = _ := d6
      subst d6
      have xX10 : World.cell? wj ⟨w.heap.size, 0, none⟩ = some (.bool s) := (X1.below hJ).cell 0
      have xX11 : World.cell? wj ⟨w.heap.size, 1, none⟩ = some (.slice A n c) := (X1.below hJ).cell 1
      have xX12 : World.cell? wj ⟨w.heap.size, 2, none⟩ = some (.int .i64 E) := (X1.below hJ).cell 2
      go_simp
      exact hK.out _ _ rfl (Below.refl _ _)
    refine Jo.jcons (i := 8) (o := ⟨some 13, _, _, _, _, _⟩) (di := some 13) (L := []) (f := Jo.Fact.eq (.int .i64 low)) rfl rfl rfl rfl (fun vs wj hJ hd K hK => ?_) ?_
    · clear hd
      simp only [Jo.putl, List.foldl_nil, Act.put, List.setIfInBounds_toArray, List.set_cons_zero, List.set_cons_succ] at hK ⊢
      go_simp
      exact hK.out _ _ rfl (Below.refl _ _)
    refine Jo.jcons (i := 9) (o := ⟨some 14, _, _, _, _, _⟩) (di := some 14) (L := [(some 12, 7), (some 13, 8)]) (f := Jo.Fact.eq (.int .i64 d)) rfl rfl rfl rfl (fun vs wj hJ hd K hK => ?_) ?_
    · have d7 : (Jo.Fact.eq (.int .i64 E)).P (vs 7) wj := hd 7 (by decide)
      have d8 : (Jo.Fact.eq (.int .i64 low)).P (vs 8) wj := hd 8 (by decide)
      clear hd
      simp only [Jo.putl, List.foldl_cons, List.foldl_nil, Act.put, List.setIfInBounds_toArray, List.set_cons_zero, List.set_cons_succ] at hK ⊢
      generalize vs 7 = u7 at hK d7 ⊢
      generalize vs 8 = u8 at hK d8 ⊢
      replace d7 : u7 = _ := d7
      subst d7
      replace d8 : u8 = _ := d8
      subst d8
      have hw := HW.out
      go_simp
      exact hK.out _ _ rfl (Below.refl _ _)
    refine Jo.jcons (i := 10) (o := ⟨some 15, _, _, _, _, _⟩) (di := some 15) (L := [(some 10, 5), (some 14, 9)]) (f := Jo.Fact.nm (N.natAbs * 2 ^ d.toNat) (n + d.toNat / 32 + 1)) rfl rfl rfl rfl (fun vs wj hJ hd K hK => ?_) ?_
    · have d5 : (Jo.Fact.eq (.slice A n c)).P (vs 5) wj := hd 5 (by decide)
      have d9 : (Jo.Fact.eq (.int .i64 d)).P (vs 9) wj := hd 9 (by decide)
      clear hd
      simp only [Jo.putl, List.foldl_cons, List.foldl_nil, Act.put, List.setIfInBounds_toArray, List.set_cons_zero, List.set_cons_succ] at hK ⊢
      generalize vs 5 = u5 at hK d5 ⊢
      generalize vs 9 = u9 at hK d9 ⊢
      replace d5 : u5 = _ := d5
      subst d5
      replace d9 : u9 = _ := d9
      subst d9
      go_simp
      refine (vShlZ (h.below hJ).1.rd (by omega) hd0 (by omega) rfl).mono ?_
      rintro ee wk ⟨A3, n3, c3, rfl, p3, k3, B⟩
      exact hK.out _ _ ⟨A3, n3, c3, rfl, p3, k3⟩ B
    refine Jo.jcons (i := 11) (o := ⟨some 16, _, _, _, _, _⟩) (di := some 16) (L := [(some 7, 2), (some 15, 10)]) (f := Jo.Fact.wn r (n + d.toNat / 32 + 1)) rfl rfl rfl rfl (fun vs wj hJ hd K hK => ?_) ?_
    · have d2 : (Jo.Fact.eq (.bool s)).P (vs 2) wj := hd 2 (by decide)
      have d10 : (Jo.Fact.nm (N.natAbs * 2 ^ d.toNat) (n + d.toNat / 32 + 1)).P (vs 10) wj := hd 10 (by decide)
      clear hd
      simp only [Jo.putl, List.foldl_cons, List.foldl_nil, Act.put, List.setIfInBounds_toArray, List.set_cons_zero, List.set_cons_succ] at hK ⊢
      generalize vs 2 = u2 at hK d2 ⊢
      generalize vs 10 = u10 at hK d10 ⊢
      replace d2 : u2 = _ := d2
      subst d2
      obtain ⟨A3, n3, c3, rfl, p3, k3⟩ := d10
      go_simp
      exact hK.out _ _ ⟨s, A3, n3, c3, rfl, HR.out ▸ sg_times h (Nat.pow_pos (by decide)) p3, k3⟩ (Below.refl _ _)
    exact Jo.Steps.nil
  have d0 : (Jo.Fact.eq (.pointer (some ⟨w.heap.size, 0, none⟩))).P (vs 0) w2 := hd 0 (by decide)
  have d1 : (Jo.Fact.eq (.pointer (some ⟨w.heap.size, 0, none⟩))).P (vs 1) w2 := hd 1 (by decide)
  have d2 : (Jo.Fact.eq (.bool s)).P (vs 2) w2 := hd 2 (by decide)
  have d3 : (Jo.Fact.eq (.pointer (some ⟨w.heap.size, 0, none⟩))).P (vs 3) w2 := hd 3 (by decide)
  have d4 : (Jo.Fact.eq (.pointer (some ⟨w.heap.size, 1, none⟩))).P (vs 4) w2 := hd 4 (by decide)
  have d5 : (Jo.Fact.eq (.slice A n c)).P (vs 5) w2 := hd 5 (by decide)
  have d6 : (Jo.Fact.eq (.pointer (some ⟨w.heap.size, 2, none⟩))).P (vs 6) w2 := hd 6 (by decide)
  have d7 : (Jo.Fact.eq (.int .i64 E)).P (vs 7) w2 := hd 7 (by decide)
  have d8 : (Jo.Fact.eq (.int .i64 low)).P (vs 8) w2 := hd 8 (by decide)
  have d9 : (Jo.Fact.eq (.int .i64 d)).P (vs 9) w2 := hd 9 (by decide)
  have d10 : (Jo.Fact.nm (N.natAbs * 2 ^ d.toNat) (n + d.toNat / 32 + 1)).P (vs 10) w2 := hd 10 (by decide)
  have d11 : (Jo.Fact.wn r (n + d.toNat / 32 + 1)).P (vs 11) w2 := hd 11 (by decide)
  clear hd
  simp only [Jo.putl, List.foldl_cons, List.foldl_nil, Act.put, List.setIfInBounds_toArray, List.set_cons_zero, List.set_cons_succ]
  generalize vs 0 = u0 at d0 ⊢
  generalize vs 1 = u1 at d1 ⊢
  generalize vs 2 = u2 at d2 ⊢
  generalize vs 3 = u3 at d3 ⊢
  generalize vs 4 = u4 at d4 ⊢
  generalize vs 5 = u5 at d5 ⊢
  generalize vs 6 = u6 at d6 ⊢
  generalize vs 7 = u7 at d7 ⊢
  generalize vs 8 = u8 at d8 ⊢
  generalize vs 9 = u9 at d9 ⊢
  generalize vs 10 = u10 at d10 ⊢
  generalize vs 11 = u11 at d11 ⊢
  clear vs
  replace d0 : u0 = _ := d0
  subst d0
  replace d1 : u1 = _ := d1
  subst d1
  replace d2 : u2 = _ := d2
  subst d2
  replace d3 : u3 = _ := d3
  subst d3
  replace d4 : u4 = _ := d4
  subst d4
  replace d5 : u5 = _ := d5
  subst d5
  replace d6 : u6 = _ := d6
  subst d6
  replace d7 : u7 = _ := d7
  subst d7
  replace d8 : u8 = _ := d8
  subst d8
  replace d9 : u9 = _ := d9
  subst d9
  obtain ⟨A3, n3, c3, rfl, p3, k3⟩ := d10
  obtain ⟨s4, A4, n4, c4, rfl, p4, k4⟩ := d11
  replace X1 := X1.below hJ
  replace XR := XR.below hJ
  replace h := h.below hJ
  replace HB := Lib.hid (bt HB.out hJ)
  have xXR0 := XR.at (i := 0) (v := .bool false) rfl
  have zXR0 := XR.frozen 0
  have xXR1 := XR.at (i := 1) (v := .slice none 0 0) rfl
  have zXR1 := XR.frozen 1
  refine Jo.jnext (i := 12) (o := ⟨none, _, _, _, _, _⟩) (by kernel_rfl) rfl (fun K hK => ?_)
  go_simp
  refine hK.out _ _ ?_
  clear hK K xXR0 zXR0 xXR1 zXR1
  have SX := StN.mk2 XR (.bool s4) (.slice A4 n4 c4)
  replace X1 := X1.stn SX (by omega)
  replace h := h.stn SX (by simp [no32])
  replace p4 := p4.stn SX (by simp [no32])
  replace HB := Lib.hid (SX.below HB.out (by omega))
  replace XR := SX.box
  clear SX
  generalize (World.setCell (World.setCell w2 ⟨w.heap.size + 1, 0, none⟩ (.bool s4)) ⟨w.heap.size + 1, 1, none⟩ (.slice A4 n4 c4)) = w3 at *
  refine Jo.jdone (by kernel_rfl) ?_
  go_wp2
  have r0 := XR.cell 0
  have r1 := XR.cell 1
  exact bodyPost_ret (v := .agg #[.bool s4, .slice A4 n4 c4]) (by simp [results, Tryd.results64, go_sem, r0, r1]) rfl ⟨s4, A4, n4, c4, rfl, p4, k4, HB.out⟩
end Go.Proofs.YthibemmhgdbiiaaDoor

/-
  What dy.highest, Neg, Move and Mul do.
-/
namespace Go.Proofs.YthibemmhgdbiiaaDoor
open Go.RowKit
set_option linter.unusedVariables false

set_option maxHeartbeats 2000000 in
theorem dHighest {w : World} {A : Option Addr} {n c : Nat} {s : Bool} {N E r : Int} (h : Wn w s A n c N) (hn : n ≤ 100000) (h0 : -4194304 ≤ E) (h1 : E ≤ 4194304) (hr : ((blen N.natAbs : Nat) : Int) + E = r) :
    Calls Tryd.prog 62 #[.agg #[.bool s, .slice A n c, .int .i64 E]] w (PI w r) := by
  have hb := h.1.rd.blen_le
  obtain ⟨b, hb1⟩ : ∃ b, ((blen N.natAbs : Nat) : Int) = b := ⟨_, rfl⟩
  have hb0 : 0 ≤ b := by omega
  have hb2 : b ≤ 3200000 := by omega
  rw [hb1] at hr
  have HV := Lib.hid hb1
  have HW : Hid (IntKind.i64.wrap (b + E) = r) := Lib.hid (by rw [hr]; exact IntWalk.i64_in _ (by omega))
  clear hb hb1 hr
  go_enter Tryd.func62, Tryd.ntmps62
  go_upto_region 1 with (fail)
  have X1 := (Bo.newAt w (g := w.heap.size) (by simp) #[.bool s, .slice A n c, .int .i64 E] 26)
  have HB := Lib.hid (bel1 w (.cells #[.bool s, .slice A n c, .int .i64 E] 26))
  replace h := h.below HB.out
  generalize hW1 : (w.alloc (.cells #[.bool s, .slice A n c, .int .i64 E] 26)) = w1 at *
  clear hW1
  refine Jo.region_joint (T := [0, 1, 2, 3, 4, 5, 6, 7]) (ds := [some 3, some 4, some 5, some 6, some 7, some 8, some 9, some 2]) (ls := [[], [0], [1], [2], [], [4], [3, 5], [6]]) (k := 8) (L := [(some 3, 0), (some 4, 1), (some 5, 2), (some 6, 3), (some 7, 4), (some 8, 5), (some 9, 6), (some 2, 7)]) (fuel := 0) (J := fun wj => Below (World.heap w1).size w1 wj)
    (F := [Jo.Fact.eq (.pointer (some ⟨w.heap.size, 0, none⟩)), Jo.Fact.eq (.pointer (some ⟨w.heap.size, 1, none⟩)), Jo.Fact.eq (.slice A n c), Jo.Fact.eq (.int .i64 b), Jo.Fact.eq (.pointer (some ⟨w.heap.size, 2, none⟩)), Jo.Fact.eq (.int .i64 E), Jo.Fact.eq (.int .i64 r), Jo.Fact.eq (.int .i64 r)])
    (by kernel_rfl) (by kernel_rfl) (by decide) rfl rfl (fun _ _ h b => bt h b) ((Below.refl _ _).drew) ?_ (fun vs w2 hJ hd => ?_)
  · refine Jo.jcons (i := 0) (o := ⟨some 3, _, _, _, _, _⟩) (di := some 3) (L := []) (f := Jo.Fact.eq (.pointer (some ⟨w.heap.size, 0, none⟩))) rfl rfl rfl rfl (fun vs wj hJ hd K hK => ?_) ?_
    · clear hd
      simp only [Jo.putl, List.foldl_nil, Act.put, List.setIfInBounds_toArray, List.set_cons_zero, List.set_cons_succ] at hK ⊢
      go_simp
      exact hK.out _ _ rfl (Below.refl _ _)
    refine Jo.jcons (i := 1) (o := ⟨some 4, _, _, _, _, _⟩) (di := some 4) (L := [(some 3, 0)]) (f := Jo.Fact.eq (.pointer (some ⟨w.heap.size, 1, none⟩))) rfl rfl rfl rfl (fun vs wj hJ hd K hK => ?_) ?_
    · have d0 : (Jo.Fact.eq (.pointer (some ⟨w.heap.size, 0, none⟩))).P (vs 0) wj := hd 0 (by decide)
      clear hd
      simp only [Jo.putl, List.foldl_cons, List.foldl_nil, Act.put, List.setIfInBounds_toArray, List.set_cons_zero, List.set_cons_succ] at hK ⊢
      generalize vs 0 = u0 at hK d0 ⊢
      replace d0 : u0 = _ := d0
      subst d0
      go_simp
      exact hK.out _ _ rfl (Below.refl _ _)
    refine Jo.jcons (i := 2) (o := ⟨some 5, _, _, _, _, _⟩) (di := some 5) (L := [(some 4, 1)]) (f := Jo.Fact.eq (.slice A n c)) rfl rfl rfl rfl (fun vs wj hJ hd K hK => ?_) ?_
    · have d1 : (Jo.Fact.eq (.pointer (some ⟨w.heap.size, 1, none⟩))).P (vs 1) wj := hd 1 (by decide)
      clear hd
      simp only [Jo.putl, List.foldl_cons, List.foldl_nil, Act.put, List.setIfInBounds_toArray, List.set_cons_zero, List.set_cons_succ] at hK ⊢
      generalize vs 1 = u1 at hK d1 ⊢
      replace d1 : u1 = _ := d1
      subst d1
      have xX10 : World.cell? wj ⟨w.heap.size, 0, none⟩ = some (.bool s) := (X1.below hJ).cell 0
      have xX11 : World.cell? wj ⟨w.heap.size, 1, none⟩ = some (.slice A n c) := (X1.below hJ).cell 1
      have xX12 : World.cell? wj ⟨w.heap.size, 2, none⟩ = some (.int .i64 E) := (X1.below hJ).cell 2
      go_simp
      exact hK.out _ _ rfl (Below.refl _ _)
    refine Jo.jcons (i := 3) (o := ⟨some 6, _, _, _, _, _⟩) (di := some 6) (L := [(some 5, 2)]) (f := Jo.Fact.eq (.int .i64 b)) rfl rfl rfl rfl (fun vs wj hJ hd K hK => ?_) ?_
    · have d2 : (Jo.Fact.eq (.slice A n c)).P (vs 2) wj := hd 2 (by decide)
      clear hd
      simp only [Jo.putl, List.foldl_cons, List.foldl_nil, Act.put, List.setIfInBounds_toArray, List.set_cons_zero, List.set_cons_succ] at hK ⊢
      generalize vs 2 = u2 at hK d2 ⊢
      replace d2 : u2 = _ := d2
      subst d2
      go_simp
      refine (vLenE (h.below hJ).1.rd HV.out).mono ?_
      rintro ee wk ⟨rfl, B⟩
      exact hK.out _ _ rfl B
    refine Jo.jcons (i := 4) (o := ⟨some 7, _, _, _, _, _⟩) (di := some 7) (L := []) (f := Jo.Fact.eq (.pointer (some ⟨w.heap.size, 2, none⟩))) rfl rfl rfl rfl (fun vs wj hJ hd K hK => ?_) ?_
    · clear hd
      simp only [Jo.putl, List.foldl_nil, Act.put, List.setIfInBounds_toArray, List.set_cons_zero, List.set_cons_succ] at hK ⊢
      go_simp
      exact hK.out _ _ rfl (Below.refl _ _)
    refine Jo.jcons (i := 5) (o := ⟨some 8, _, _, _, _, _⟩) (di := some 8) (L := [(some 7, 4)]) (f := Jo.Fact.eq (.int .i64 E)) rfl rfl rfl rfl (fun vs wj hJ hd K hK => ?_) ?_
    · have d4 : (Jo.Fact.eq (.pointer (some ⟨w.heap.size, 2, none⟩))).P (vs 4) wj := hd 4 (by decide)
      clear hd
      simp only [Jo.putl, List.foldl_cons, List.foldl_nil, Act.put, List.setIfInBounds_toArray, List.set_cons_zero, List.set_cons_succ] at hK ⊢
      generalize vs 4 = u4 at hK d4 ⊢
      replace d4 : u4 = _ := d4
      subst d4
      have xX10 : World.cell? wj ⟨w.heap.size, 0, none⟩ = some (.bool s) := (X1.below hJ).cell 0
      have xX11 : World.cell? wj ⟨w.heap.size, 1, none⟩ = some (.slice A n c) := (X1.below hJ).cell 1
      have xX12 : World.cell? wj ⟨w.heap.size, 2, none⟩ = some (.int .i64 E) := (X1.below hJ).cell 2
      go_simp
      exact hK.out _ _ rfl (Below.refl _ _)
    refine Jo.jcons (i := 6) (o := ⟨some 9, _, _, _, _, _⟩) (di := some 9) (L := [(some 6, 3), (some 8, 5)]) (f := Jo.Fact.eq (.int .i64 r)) rfl rfl rfl rfl (fun vs wj hJ hd K hK => ?_) ?_
    · have d3 : (Jo.Fact.eq (.int .i64 b)).P (vs 3) wj := hd 3 (by decide)
      have d5 : (Jo.Fact.eq (.int .i64 E)).P (vs 5) wj := hd 5 (by decide)
      clear hd
      simp only [Jo.putl, List.foldl_cons, List.foldl_nil, Act.put, List.setIfInBounds_toArray, List.set_cons_zero, List.set_cons_succ] at hK ⊢
      generalize vs 3 = u3 at hK d3 ⊢
      generalize vs 5 = u5 at hK d5 ⊢
      replace d3 : u3 = _ := d3
      subst d3
      replace d5 : u5 = _ := d5
      subst d5
      have hw := HW.out
      go_simp
      exact hK.out _ _ rfl (Below.refl _ _)
    refine Jo.jcons (i := 7) (o := ⟨some 2, _, _, _, _, _⟩) (di := some 2) (L := [(some 9, 6)]) (f := Jo.Fact.eq (.int .i64 r)) rfl rfl rfl rfl (fun vs wj hJ hd K hK => ?_) ?_
    · have d6 : (Jo.Fact.eq (.int .i64 r)).P (vs 6) wj := hd 6 (by decide)
      clear hd
      simp only [Jo.putl, List.foldl_cons, List.foldl_nil, Act.put, List.setIfInBounds_toArray, List.set_cons_zero, List.set_cons_succ] at hK ⊢
      generalize vs 6 = u6 at hK d6 ⊢
      replace d6 : u6 = _ := d6
      subst d6
      go_simp
      exact hK.out _ _ rfl (Below.refl _ _)
    exact Jo.Steps.nil
  have d0 : (Jo.Fact.eq (.pointer (some ⟨w.heap.size, 0, none⟩))).P (vs 0) w2 := hd 0 (by decide)
  have d1 : (Jo.Fact.eq (.pointer (some ⟨w.heap.size, 1, none⟩))).P (vs 1) w2 := hd 1 (by decide)
  have d2 : (Jo.Fact.eq (.slice A n c)).P (vs 2) w2 := hd 2 (by decide)
  have d3 : (Jo.Fact.eq (.int .i64 b)).P (vs 3) w2 := hd 3 (by decide)
  have d4 : (Jo.Fact.eq (.pointer (some ⟨w.heap.size, 2, none⟩))).P (vs 4) w2 := hd 4 (by decide)
  have d5 : (Jo.Fact.eq (.int .i64 E)).P (vs 5) w2 := hd 5 (by decide)
  have d6 : (Jo.Fact.eq (.int .i64 r)).P (vs 6) w2 := hd 6 (by decide)
  have d7 : (Jo.Fact.eq (.int .i64 r)).P (vs 7) w2 := hd 7 (by decide)
  clear hd
  simp only [Jo.putl, List.foldl_cons, List.foldl_nil, Act.put, List.setIfInBounds_toArray, List.set_cons_zero, List.set_cons_succ]
  generalize vs 0 = u0 at d0 ⊢
  generalize vs 1 = u1 at d1 ⊢
  generalize vs 2 = u2 at d2 ⊢
  generalize vs 3 = u3 at d3 ⊢
  generalize vs 4 = u4 at d4 ⊢
  generalize vs 5 = u5 at d5 ⊢
  generalize vs 6 = u6 at d6 ⊢
  generalize vs 7 = u7 at d7 ⊢
  clear vs
  replace d0 : u0 = _ := d0
  subst d0
  replace d1 : u1 = _ := d1
  subst d1
  replace d2 : u2 = _ := d2
  subst d2
  replace d3 : u3 = _ := d3
  subst d3
  replace d4 : u4 = _ := d4
  subst d4
  replace d5 : u5 = _ := d5
  subst d5
  replace d6 : u6 = _ := d6
  subst d6
  replace d7 : u7 = _ := d7
  subst d7
  replace X1 := X1.below hJ
  replace h := h.below hJ
  replace HB := Lib.hid (bt HB.out hJ)
  refine Jo.jdone (by kernel_rfl) ?_
  go_wp2
  go_ret
  exact ⟨rfl, HB.out⟩

end Go.Proofs.YthibemmhgdbiiaaDoor

/-
  What dy.Add and Sub do.
-/
namespace Go.Proofs.YthibemmhgdbiiaaDoor
open Go.RowKit
set_option linter.unusedVariables false

def DAddInv (w : World) (g3 : Nat) (l : List (Int × Int)) (k : Nat) (wr : World) : Prop :=
  ∃ s A n c, Bo wr w.heap.size #[.bool false, .slice none 0 0, .int .i64 0] 26 ∧ Bo wr g3 #[.bool s, .slice A n c, .int .i64 (smd (l.take k)).2] 26 ∧ Wn wr s A n c (smd (l.take k)).1 ∧ Below w.heap.size w wr
theorem smd_two (a b : Int × Int) : smd [a, b] = pl (mk a.1 a.2) (mk b.1 b.2) := rfl
end Go.Proofs.YthibemmhgdbiiaaDoor
