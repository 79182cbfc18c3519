/-
  Contracts and words that the statements' proofs rest on, several texts in one: Tn, To.
-/
import Derived.Test.YtdfnjhkcicnkpaaGreatDoorZar
import Derived.Test.YtdfnjhkcicnkpaaGreatDoorZau
/-
  What decimal.read answers.
-/
namespace Go.Proofs.YtdfnjhkcicnkpaaGreatDoor
open Go.RowKit
set_option linter.unusedVariables false
set_option linter.unusedSimpArgs false
set_option maxRecDepth 100000

theorem sCutE {l x : List UInt8} {c : UInt8} {p : Bool} (w : World) (h1 : Lib.trimPrefix l [c] = x) (h2 : Lib.hasPrefix l [c] = p) : Calls Tryz.prog 60 #[.string (st l), .string ⟨#[c]⟩] w fun e w' => e = .returned (.tuple #[.string (st x), .bool p]) ∧ Below w.heap.size w w' := by
  subst h1; subst h2
  exact (sCut l [c] w).mono fun e w' h => ⟨h.1, h.2 ▸ Below.refl _ _⟩
theorem dCutE {l x y : List UInt8} (w : World) (hl : l.length ≤ 1000) (h1 : l.take (runL l) = x) (h2 : l.drop (runL l) = y) : Calls Tryz.prog 61 #[.string (st l)] w fun e w' => e = .returned (.tuple #[.string (st x), .string (st y)]) ∧ Below w.heap.size w w' := by
  subst h1; subst h2
  exact dCutDigits l w hl
theorem dLeadE {l : List UInt8} {p : Bool} (w : World) (h : leadB l = p) : Calls Tryz.prog 62 #[.string (st l)] w (PB w p) := by
  subst h
  exact (dMayLead l w).mono fun e w' h => ⟨h.1, h.2 ▸ Below.refl _ _⟩
theorem dFracE {l x y : List UInt8} {p : Bool} (w : World) (hl : l.length ≤ 1000) (h : fracA l = (x, y, p)) : Calls Tryz.prog 63 #[.string (st l)] w fun e w' => e = .returned (.tuple #[.string (st x), .string (st y), .bool p]) ∧ Below w.heap.size w w' := by
  have := dCutFraction l w hl
  rw [h] at this
  exact this
theorem dPowE {l y : List UInt8} {z : Int} {p : Bool} (w : World) (hl : l.length ≤ 1000) (h : powA l = (z, y, p)) : Calls Tryz.prog 64 #[.string (st l)] w fun e w' => e = .returned (.tuple #[.int .i64 z, .string (st y), .bool p]) ∧ Below w.heap.size w w' := by
  have := dCutPower l w hl
  rw [h] at this
  exact this

set_option maxHeartbeats 4000000 in
theorem dRead_a {l l1 F R : List UInt8} {s : Bool} (w : World) (H1 : Lib.trimPrefix l [45] = l1) (H2 : Lib.hasPrefix l [45] = s) (hl1 : l1.length ≤ 1000) (H3 : l1.take (runL l1) = F) (H4 : l1.drop (runL l1) = R) (H5 : leadB F = false) :
    Calls Tryz.prog 25 #[.string (st l)] w fun e w' => e = .returned (.tuple #[.agg #[.bool false, .string ⟨#[]⟩, .int .i64 0], .bool false]) ∧ Below w.heap.size w w' := by
  go_enter Tryz.func25, Tryz.ntmps25
  go_upto_region 1 with (fail)
  have X1 := (Bo.newAt w (g := w.heap.size) (by simp) #[.bool false, .string ⟨#[]⟩, .int .i64 0] 45)
  have HB := Lib.hid (bel1 w (.cells #[.bool false, .string ⟨#[]⟩, .int .i64 0] 45))
  generalize hW1 : (w.alloc (.cells #[.bool false, .string ⟨#[]⟩, .int .i64 0] 45)) = w1 at *
  clear hW1
  go_wp2_with fail
  refine (sCutE _ H1 H2).mono ?_
  rintro ee w2 ⟨rfl, B⟩
  replace X1 := X1.below B
  replace HB := Lib.hid (bt HB.out B)
  clear B
  go_wp2_with fail
  refine (dCutE _ hl1 H3 H4).mono ?_
  rintro ee w3 ⟨rfl, B⟩
  replace X1 := X1.below B
  replace HB := Lib.hid (bt HB.out B)
  clear B
  go_wp2_with fail
  refine (dLeadE _ H5).mono ?_
  rintro ee w4 ⟨rfl, B⟩
  replace X1 := X1.below B
  replace HB := Lib.hid (bt HB.out B)
  clear B
  have xX10 := X1.at (i := 0) (v := .bool false) rfl
  have zX10 := X1.frozen 0
  have xX11 := X1.at (i := 1) (v := .string ⟨#[]⟩) rfl
  have zX11 := X1.frozen 1
  have xX12 := X1.at (i := 2) (v := .int .i64 0) rfl
  have zX12 := X1.frozen 2
  go_wp2
  clear xX10 zX10 xX11 zX11 xX12 zX12
  have SX := StN.mk3 X1 (.bool false) (.string ⟨#[]⟩) (.int .i64 0)
  replace HB := Lib.hid (SX.below HB.out (by omega))
  replace X1 := SX.box
  clear SX
  generalize (World.setCell (World.setCell (World.setCell w4 ⟨w.heap.size, 0, none⟩ (.bool false)) ⟨w.heap.size, 1, none⟩ (.string ⟨#[]⟩)) ⟨w.heap.size, 2, none⟩ (.int .i64 0)) = w5 at *
  go_wp2
  have r0 := X1.cell 0
  have r1 := X1.cell 1
  have r2 := X1.cell 2
  exact bodyPost_ret (v := .tuple #[.agg #[.bool false, .string ⟨#[]⟩, .int .i64 0], .bool false]) (by simp [results, Tryz.results25, go_sem, r0, r1, r2]) rfl ⟨rfl, HB.out⟩

set_option maxHeartbeats 4000000 in
theorem dRead_b {l l1 F R b l2 : List UInt8} {s : Bool} (w : World) (H1 : Lib.trimPrefix l [45] = l1) (H2 : Lib.hasPrefix l [45] = s) (hl1 : l1.length ≤ 1000) (H3 : l1.take (runL l1) = F) (H4 : l1.drop (runL l1) = R) (H5 : leadB F = true) (hR : R.length ≤ 1000) (H6 : fracA R = (b, l2, false)) :
    Calls Tryz.prog 25 #[.string (st l)] w fun e w' => e = .returned (.tuple #[.agg #[.bool false, .string ⟨#[]⟩, .int .i64 0], .bool false]) ∧ Below w.heap.size w w' := by
  go_enter Tryz.func25, Tryz.ntmps25
  go_upto_region 1 with (fail)
  have X1 := (Bo.newAt w (g := w.heap.size) (by simp) #[.bool false, .string ⟨#[]⟩, .int .i64 0] 45)
  have HB := Lib.hid (bel1 w (.cells #[.bool false, .string ⟨#[]⟩, .int .i64 0] 45))
  generalize hW1 : (w.alloc (.cells #[.bool false, .string ⟨#[]⟩, .int .i64 0] 45)) = w1 at *
  clear hW1
  go_wp2_with fail
  refine (sCutE _ H1 H2).mono ?_
  rintro ee w2 ⟨rfl, B⟩
  replace X1 := X1.below B
  replace HB := Lib.hid (bt HB.out B)
  clear B
  go_wp2_with fail
  refine (dCutE _ hl1 H3 H4).mono ?_
  rintro ee w3 ⟨rfl, B⟩
  replace X1 := X1.below B
  replace HB := Lib.hid (bt HB.out B)
  clear B
  go_wp2_with fail
  refine (dLeadE _ H5).mono ?_
  rintro ee w4 ⟨rfl, B⟩
  replace X1 := X1.below B
  replace HB := Lib.hid (bt HB.out B)
  clear B
  go_wp2_with fail
  refine (dFracE _ hR H6).mono ?_
  rintro ee w5 ⟨rfl, B⟩
  replace X1 := X1.below B
  replace HB := Lib.hid (bt HB.out B)
  clear B
  have xX10 := X1.at (i := 0) (v := .bool false) rfl
  have zX10 := X1.frozen 0
  have xX11 := X1.at (i := 1) (v := .string ⟨#[]⟩) rfl
  have zX11 := X1.frozen 1
  have xX12 := X1.at (i := 2) (v := .int .i64 0) rfl
  have zX12 := X1.frozen 2
  go_wp2
  clear xX10 zX10 xX11 zX11 xX12 zX12
  have SX := StN.mk3 X1 (.bool false) (.string ⟨#[]⟩) (.int .i64 0)
  replace HB := Lib.hid (SX.below HB.out (by omega))
  replace X1 := SX.box
  clear SX
  generalize (World.setCell (World.setCell (World.setCell w5 ⟨w.heap.size, 0, none⟩ (.bool false)) ⟨w.heap.size, 1, none⟩ (.string ⟨#[]⟩)) ⟨w.heap.size, 2, none⟩ (.int .i64 0)) = w6 at *
  go_wp2
  have r0 := X1.cell 0
  have r1 := X1.cell 1
  have r2 := X1.cell 2
  exact bodyPost_ret (v := .tuple #[.agg #[.bool false, .string ⟨#[]⟩, .int .i64 0], .bool false]) (by simp [results, Tryz.results25, go_sem, r0, r1, r2]) rfl ⟨rfl, HB.out⟩

set_option maxHeartbeats 4000000 in
theorem dRead_c {l l1 F R b l2 : List UInt8} {s : Bool} (w : World) (H1 : Lib.trimPrefix l [45] = l1) (H2 : Lib.hasPrefix l [45] = s) (hl1 : l1.length ≤ 1000) (H3 : l1.take (runL l1) = F) (H4 : l1.drop (runL l1) = R) (H5 : leadB F = true) (hR : R.length ≤ 1000) (H6 : fracA R = (b, l2, true)) (h40 : 40 < F.length + b.length) (hF : F.length ≤ 1000) (hb : b.length ≤ 1000) :
    Calls Tryz.prog 25 #[.string (st l)] w fun e w' => e = .returned (.tuple #[.agg #[.bool false, .string ⟨#[]⟩, .int .i64 0], .bool false]) ∧ Below w.heap.size w w' := by
  obtain ⟨d, hd⟩ : ∃ d, F.length = d := ⟨_, rfl⟩
  obtain ⟨q, hq⟩ : ∃ q, b.length = q := ⟨_, rfl⟩
  have s1 : (st F).size = d := (st_size F).trans hd
  have s2 : (st b).size = q := (st_size b).trans hq
  rw [hd, hq] at h40
  rw [hd] at hF
  rw [hq] at hb
  clear hd hq
  have t40 : decide ((40 : Int) < (d : Int) + (q : Int)) = true := by simp; omega
  go_enter Tryz.func25, Tryz.ntmps25
  go_upto_region 1 with (fail)
  have X1 := (Bo.newAt w (g := w.heap.size) (by simp) #[.bool false, .string ⟨#[]⟩, .int .i64 0] 45)
  have HB := Lib.hid (bel1 w (.cells #[.bool false, .string ⟨#[]⟩, .int .i64 0] 45))
  generalize hW1 : (w.alloc (.cells #[.bool false, .string ⟨#[]⟩, .int .i64 0] 45)) = w1 at *
  clear hW1
  go_wp2_with fail
  refine (sCutE _ H1 H2).mono ?_
  rintro ee w2 ⟨rfl, B⟩
  replace X1 := X1.below B
  replace HB := Lib.hid (bt HB.out B)
  clear B
  go_wp2_with fail
  refine (dCutE _ hl1 H3 H4).mono ?_
  rintro ee w3 ⟨rfl, B⟩
  replace X1 := X1.below B
  replace HB := Lib.hid (bt HB.out B)
  clear B
  go_wp2_with fail
  refine (dLeadE _ H5).mono ?_
  rintro ee w4 ⟨rfl, B⟩
  replace X1 := X1.below B
  replace HB := Lib.hid (bt HB.out B)
  clear B
  go_wp2_with fail
  refine (dFracE _ hR H6).mono ?_
  rintro ee w5 ⟨rfl, B⟩
  replace X1 := X1.below B
  replace HB := Lib.hid (bt HB.out B)
  clear B
  have xX10 := X1.at (i := 0) (v := .bool false) rfl
  have zX10 := X1.frozen 0
  have xX11 := X1.at (i := 1) (v := .string ⟨#[]⟩) rfl
  have zX11 := X1.frozen 1
  have xX12 := X1.at (i := 2) (v := .int .i64 0) rfl
  have zX12 := X1.frozen 2
  go_wp2
  clear xX10 zX10 xX11 zX11 xX12 zX12
  have SX := StN.mk3 X1 (.bool false) (.string ⟨#[]⟩) (.int .i64 0)
  replace HB := Lib.hid (SX.below HB.out (by omega))
  replace X1 := SX.box
  clear SX
  generalize (World.setCell (World.setCell (World.setCell w5 ⟨w.heap.size, 0, none⟩ (.bool false)) ⟨w.heap.size, 1, none⟩ (.string ⟨#[]⟩)) ⟨w.heap.size, 2, none⟩ (.int .i64 0)) = w6 at *
  go_wp2
  have r0 := X1.cell 0
  have r1 := X1.cell 1
  have r2 := X1.cell 2
  exact bodyPost_ret (v := .tuple #[.agg #[.bool false, .string ⟨#[]⟩, .int .i64 0], .bool false]) (by simp [results, Tryz.results25, go_sem, r0, r1, r2]) rfl ⟨rfl, HB.out⟩

set_option maxHeartbeats 4000000 in
theorem dRead_d {l l1 F R b l2 l3 : List UInt8} {s : Bool} {z : Int} (w : World) (H1 : Lib.trimPrefix l [45] = l1) (H2 : Lib.hasPrefix l [45] = s) (hl1 : l1.length ≤ 1000) (H3 : l1.take (runL l1) = F) (H4 : l1.drop (runL l1) = R) (H5 : leadB F = true) (hR : R.length ≤ 1000) (H6 : fracA R = (b, l2, true)) (h40 : F.length + b.length ≤ 40) (hl2 : l2.length ≤ 1000) (H7 : powA l2 = (z, l3, false)) :
    Calls Tryz.prog 25 #[.string (st l)] w fun e w' => e = .returned (.tuple #[.agg #[.bool false, .string ⟨#[]⟩, .int .i64 0], .bool false]) ∧ Below w.heap.size w w' := by
  obtain ⟨d, hd⟩ : ∃ d, F.length = d := ⟨_, rfl⟩
  obtain ⟨q, hq⟩ : ∃ q, b.length = q := ⟨_, rfl⟩
  have s1 : (st F).size = d := (st_size F).trans hd
  have s2 : (st b).size = q := (st_size b).trans hq
  rw [hd, hq] at h40
  clear hd hq
  have t40 : decide ((40 : Int) < (d : Int) + (q : Int)) = false := by simp; omega
  go_enter Tryz.func25, Tryz.ntmps25
  go_upto_region 1 with (fail)
  have X1 := (Bo.newAt w (g := w.heap.size) (by simp) #[.bool false, .string ⟨#[]⟩, .int .i64 0] 45)
  have HB := Lib.hid (bel1 w (.cells #[.bool false, .string ⟨#[]⟩, .int .i64 0] 45))
  generalize hW1 : (w.alloc (.cells #[.bool false, .string ⟨#[]⟩, .int .i64 0] 45)) = w1 at *
  clear hW1
  go_wp2_with fail
  refine (sCutE _ H1 H2).mono ?_
  rintro ee w2 ⟨rfl, B⟩
  replace X1 := X1.below B
  replace HB := Lib.hid (bt HB.out B)
  clear B
  go_wp2_with fail
  refine (dCutE _ hl1 H3 H4).mono ?_
  rintro ee w3 ⟨rfl, B⟩
  replace X1 := X1.below B
  replace HB := Lib.hid (bt HB.out B)
  clear B
  go_wp2_with fail
  refine (dLeadE _ H5).mono ?_
  rintro ee w4 ⟨rfl, B⟩
  replace X1 := X1.below B
  replace HB := Lib.hid (bt HB.out B)
  clear B
  go_wp2_with fail
  refine (dFracE _ hR H6).mono ?_
  rintro ee w5 ⟨rfl, B⟩
  replace X1 := X1.below B
  replace HB := Lib.hid (bt HB.out B)
  clear B
  go_wp2_with fail
  refine (dPowE _ hl2 H7).mono ?_
  rintro ee w6 ⟨rfl, B⟩
  replace X1 := X1.below B
  replace HB := Lib.hid (bt HB.out B)
  clear B
  have xX10 := X1.at (i := 0) (v := .bool false) rfl
  have zX10 := X1.frozen 0
  have xX11 := X1.at (i := 1) (v := .string ⟨#[]⟩) rfl
  have zX11 := X1.frozen 1
  have xX12 := X1.at (i := 2) (v := .int .i64 0) rfl
  have zX12 := X1.frozen 2
  go_wp2
  clear xX10 zX10 xX11 zX11 xX12 zX12
  have SX := StN.mk3 X1 (.bool false) (.string ⟨#[]⟩) (.int .i64 0)
  replace HB := Lib.hid (SX.below HB.out (by omega))
  replace X1 := SX.box
  clear SX
  generalize (World.setCell (World.setCell (World.setCell w6 ⟨w.heap.size, 0, none⟩ (.bool false)) ⟨w.heap.size, 1, none⟩ (.string ⟨#[]⟩)) ⟨w.heap.size, 2, none⟩ (.int .i64 0)) = w7 at *
  go_wp2
  have r0 := X1.cell 0
  have r1 := X1.cell 1
  have r2 := X1.cell 2
  exact bodyPost_ret (v := .tuple #[.agg #[.bool false, .string ⟨#[]⟩, .int .i64 0], .bool false]) (by simp [results, Tryz.results25, go_sem, r0, r1, r2]) rfl ⟨rfl, HB.out⟩

set_option maxHeartbeats 4000000 in
theorem dRead_e {l l1 F R b l2 l3 : List UInt8} {s : Bool} {z : Int} (w : World) (H1 : Lib.trimPrefix l [45] = l1) (H2 : Lib.hasPrefix l [45] = s) (hl1 : l1.length ≤ 1000) (H3 : l1.take (runL l1) = F) (H4 : l1.drop (runL l1) = R) (H5 : leadB F = true) (hR : R.length ≤ 1000) (H6 : fracA R = (b, l2, true)) (h40 : F.length + b.length ≤ 40) (hl2 : l2.length ≤ 1000) (H7 : powA l2 = (z, l3, true)) (h3 : l3.isEmpty = false) :
    Calls Tryz.prog 25 #[.string (st l)] w fun e w' => e = .returned (.tuple #[.agg #[.bool false, .string ⟨#[]⟩, .int .i64 0], .bool false]) ∧ Below w.heap.size w w' := by
  obtain ⟨d, hd⟩ : ∃ d, F.length = d := ⟨_, rfl⟩
  obtain ⟨q, hq⟩ : ∃ q, b.length = q := ⟨_, rfl⟩
  have s1 : (st F).size = d := (st_size F).trans hd
  have s2 : (st b).size = q := (st_size b).trans hq
  rw [hd, hq] at h40
  clear hd hq
  have t40 : decide ((40 : Int) < (d : Int) + (q : Int)) = false := by simp; omega
  go_enter Tryz.func25, Tryz.ntmps25
  go_upto_region 1 with (fail)
  have X1 := (Bo.newAt w (g := w.heap.size) (by simp) #[.bool false, .string ⟨#[]⟩, .int .i64 0] 45)
  have HB := Lib.hid (bel1 w (.cells #[.bool false, .string ⟨#[]⟩, .int .i64 0] 45))
  generalize hW1 : (w.alloc (.cells #[.bool false, .string ⟨#[]⟩, .int .i64 0] 45)) = w1 at *
  clear hW1
  go_wp2_with fail
  refine (sCutE _ H1 H2).mono ?_
  rintro ee w2 ⟨rfl, B⟩
  replace X1 := X1.below B
  replace HB := Lib.hid (bt HB.out B)
  clear B
  go_wp2_with fail
  refine (dCutE _ hl1 H3 H4).mono ?_
  rintro ee w3 ⟨rfl, B⟩
  replace X1 := X1.below B
  replace HB := Lib.hid (bt HB.out B)
  clear B
  go_wp2_with fail
  refine (dLeadE _ H5).mono ?_
  rintro ee w4 ⟨rfl, B⟩
  replace X1 := X1.below B
  replace HB := Lib.hid (bt HB.out B)
  clear B
  go_wp2_with fail
  refine (dFracE _ hR H6).mono ?_
  rintro ee w5 ⟨rfl, B⟩
  replace X1 := X1.below B
  replace HB := Lib.hid (bt HB.out B)
  clear B
  go_wp2_with fail
  refine (dPowE _ hl2 H7).mono ?_
  rintro ee w6 ⟨rfl, B⟩
  replace X1 := X1.below B
  replace HB := Lib.hid (bt HB.out B)
  clear B
  have xX10 := X1.at (i := 0) (v := .bool false) rfl
  have zX10 := X1.frozen 0
  have xX11 := X1.at (i := 1) (v := .string ⟨#[]⟩) rfl
  have zX11 := X1.frozen 1
  have xX12 := X1.at (i := 2) (v := .int .i64 0) rfl
  have zX12 := X1.frozen 2
  go_wp2
  clear xX10 zX10 xX11 zX11 xX12 zX12
  have SX := StN.mk3 X1 (.bool false) (.string ⟨#[]⟩) (.int .i64 0)
  replace HB := Lib.hid (SX.below HB.out (by omega))
  replace X1 := SX.box
  clear SX
  generalize (World.setCell (World.setCell (World.setCell w6 ⟨w.heap.size, 0, none⟩ (.bool false)) ⟨w.heap.size, 1, none⟩ (.string ⟨#[]⟩)) ⟨w.heap.size, 2, none⟩ (.int .i64 0)) = w7 at *
  go_wp2
  have r0 := X1.cell 0
  have r1 := X1.cell 1
  have r2 := X1.cell 2
  exact bodyPost_ret (v := .tuple #[.agg #[.bool false, .string ⟨#[]⟩, .int .i64 0], .bool false]) (by simp [results, Tryz.results25, go_sem, r0, r1, r2]) rfl ⟨rfl, HB.out⟩

set_option maxHeartbeats 4000000 in
theorem dRead_y {l l1 F R b l2 : List UInt8} {s : Bool} {z : Int} (w : World) (H1 : Lib.trimPrefix l [45] = l1) (H2 : Lib.hasPrefix l [45] = s) (hl1 : l1.length ≤ 1000) (H3 : l1.take (runL l1) = F) (H4 : l1.drop (runL l1) = R) (H5 : leadB F = true) (hR : R.length ≤ 1000) (H6 : fracA R = (b, l2, true)) (h40 : F.length + b.length ≤ 40) (hl2 : l2.length ≤ 1000) (H7 : powA l2 = (z, [], true)) (hz1 : -999 ≤ z) (hz2 : z ≤ 999) :
    Calls Tryz.prog 25 #[.string (st l)] w fun e w' => e = .returned (.tuple #[.agg #[.bool s, .string (st (F ++ b)), .int .i64 (z - (b.length : Int))], .bool true]) ∧ Below w.heap.size w w' := by
  obtain ⟨d, hd⟩ : ∃ d, F.length = d := ⟨_, rfl⟩
  obtain ⟨q, hq⟩ : ∃ q, b.length = q := ⟨_, rfl⟩
  have s1 : (st F).size = d := (st_size F).trans hd
  have s2 : (st b).size = q := (st_size b).trans hq
  rw [hd, hq] at h40
  rw [hq]
  clear hd hq
  have t40 : decide ((40 : Int) < (d : Int) + (q : Int)) = false := by simp; omega
  have hcat : (st F) ++ (st b) = st (F ++ b) := by
    apply ByteArray.ext
    simp
  go_enter Tryz.func25, Tryz.ntmps25
  go_upto_region 1 with (fail)
  have X1 := (Bo.newAt w (g := w.heap.size) (by simp) #[.bool false, .string ⟨#[]⟩, .int .i64 0] 45)
  have HB := Lib.hid (bel1 w (.cells #[.bool false, .string ⟨#[]⟩, .int .i64 0] 45))
  generalize hW1 : (w.alloc (.cells #[.bool false, .string ⟨#[]⟩, .int .i64 0] 45)) = w1 at *
  clear hW1
  go_wp2_with fail
  refine (sCutE _ H1 H2).mono ?_
  rintro ee w2 ⟨rfl, B⟩
  replace X1 := X1.below B
  replace HB := Lib.hid (bt HB.out B)
  clear B
  go_wp2_with fail
  refine (dCutE _ hl1 H3 H4).mono ?_
  rintro ee w3 ⟨rfl, B⟩
  replace X1 := X1.below B
  replace HB := Lib.hid (bt HB.out B)
  clear B
  go_wp2_with fail
  refine (dLeadE _ H5).mono ?_
  rintro ee w4 ⟨rfl, B⟩
  replace X1 := X1.below B
  replace HB := Lib.hid (bt HB.out B)
  clear B
  go_wp2_with fail
  refine (dFracE _ hR H6).mono ?_
  rintro ee w5 ⟨rfl, B⟩
  replace X1 := X1.below B
  replace HB := Lib.hid (bt HB.out B)
  clear B
  go_wp2_with fail
  refine (dPowE _ hl2 H7).mono ?_
  rintro ee w6 ⟨rfl, B⟩
  replace X1 := X1.below B
  replace HB := Lib.hid (bt HB.out B)
  clear B
  have xX10 := X1.at (i := 0) (v := .bool false) rfl
  have zX10 := X1.frozen 0
  have xX11 := X1.at (i := 1) (v := .string ⟨#[]⟩) rfl
  have zX11 := X1.frozen 1
  have xX12 := X1.at (i := 2) (v := .int .i64 0) rfl
  have zX12 := X1.frozen 2
  go_wp2
  clear xX10 zX10 xX11 zX11 xX12 zX12
  have SX := StN.mk3 X1 (.bool s) (.string (st (F ++ b))) (.int .i64 (z - (q : Int)))
  replace HB := Lib.hid (SX.below HB.out (by omega))
  replace X1 := SX.box
  clear SX
  generalize (World.setCell (World.setCell (World.setCell w6 ⟨w.heap.size, 0, none⟩ (.bool s)) ⟨w.heap.size, 1, none⟩ (.string (st (F ++ b)))) ⟨w.heap.size, 2, none⟩ (.int .i64 (z - (q : Int)))) = w7 at *
  go_wp2
  have r0 := X1.cell 0
  have r1 := X1.cell 1
  have r2 := X1.cell 2
  exact bodyPost_ret (v := .tuple #[.agg #[.bool s, .string (st (F ++ b)), .int .i64 (z - (q : Int))], .bool true]) (by simp [results, Tryz.results25, go_sem, r0, r1, r2]) rfl ⟨rfl, HB.out⟩
end Go.Proofs.YtdfnjhkcicnkpaaGreatDoor

/-
  What decimal.read answers, told of the text.
-/
namespace Go.Proofs.YtdfnjhkcicnkpaaGreatDoor
open Go.RowKit
set_option linter.unusedVariables false
set_option linter.unusedSimpArgs false
set_option maxRecDepth 100000

theorem lead_iff (l : List UInt8) : leadB (l.take (runL l)) = false ↔ (runL l = 0 ∨ (1 < runL l ∧ l.head? = some 48)) := by
  have hle := runL_le l
  cases l with
  | nil => simp [leadB, runL]
  | cons c l =>
    by_cases h0 : runL (c :: l) = 0
    · simp [h0, leadB]
    · obtain ⟨n, hn⟩ : ∃ n, runL (c :: l) = n + 1 := ⟨runL (c :: l) - 1, by omega⟩
      rw [hn] at hle ⊢
      simp only [List.take_succ_cons, List.head?_cons, Option.some.injEq]
      simp only [List.length_cons, Nat.add_le_add_iff_right] at hle
      by_cases h1 : n = 0
      · subst h1
        simp [leadB]
      · have hne : l.take n ≠ [] := by
          intro e
          have := congrArg List.length e
          rw [List.length_take, List.length_nil] at this
          omega
        have h2 : 1 < n + 1 := by omega
        by_cases hc : c = 48
        · subst hc
          simp [leadB, hne, h2]
        · simp [leadB, hc]
theorem frac_cons (c : UInt8) (r : List UInt8) (h : c ≠ 46) : fracA (c :: r) = ([], c :: r, true) ∧ tfrac (c :: r) = some ([], c :: r) := by
  refine ⟨?_, by simp [tfrac, h]⟩
  unfold fracA
  rw [(pre_no (l := c :: r) (c := 46) (by simpa using h)).1]
  rfl
theorem frac_point (r : List UInt8) : fracA (46 :: r) = (r.take (runL r), r.drop (runL r), !(r.take (runL r)).isEmpty) ∧ tfrac (46 :: r) = if runL r = 0 then none else some (r.take (runL r), r.drop (runL r)) := by
  obtain ⟨e1, e2⟩ := pre_yes r 46
  refine ⟨by unfold fracA; rw [e1, e2, if_pos rfl], by simp [tfrac]⟩
theorem take_empty (l : List UInt8) : (l.take (runL l)).isEmpty = decide (runL l = 0) := by
  cases l with
  | nil => simp [runL]
  | cons c l =>
    by_cases h : runL (c :: l) = 0
    · simp [h]
    · obtain ⟨n, hn⟩ : ∃ n, runL (c :: l) = n + 1 := ⟨runL (c :: l) - 1, by omega⟩
      rw [hn]
      simp
theorem frac_eq (l : List UInt8) : (∃ b r, fracA l = (b, r, false) ∧ tfrac l = none) ∨ (∃ b r, fracA l = (b, r, true) ∧ tfrac l = some (b, r) ∧ b.length ≤ l.length ∧ r.length ≤ l.length) := by
  cases l with
  | nil => exact .inr ⟨[], [], rfl, rfl, by simp, by simp⟩
  | cons c r =>
    by_cases h : c = 46
    · subst h
      obtain ⟨e1, e2⟩ := frac_point r
      rw [take_empty] at e1
      by_cases h0 : runL r = 0
      · exact .inl ⟨_, _, by rw [e1, show (!decide (runL r = 0)) = false by simp [h0]], by rw [e2, if_pos h0]⟩
      · exact .inr ⟨_, _, by rw [e1, show (!decide (runL r = 0)) = true by simp [h0]], by rw [e2, if_neg h0], by simp; omega, by simp; omega⟩
    · obtain ⟨e1, e2⟩ := frac_cons c r h
      exact .inr ⟨_, _, e1, e2, by simp, by simp⟩
theorem pow_eq (l : List UInt8) : (tpow l = none ∧ ((∃ z r, powA l = (z, r, false)) ∨ ∃ z r, powA l = (z, r, true) ∧ r.isEmpty = false)) ∨ (∃ z, tpow l = some z ∧ powA l = (z, [], true) ∧ -999 ≤ z ∧ z ≤ 999) := by
  cases l with
  | nil => exact .inr ⟨0, rfl, rfl, by omega, by omega⟩
  | cons c r =>
    by_cases h : c = 101
    · subst h
      obtain ⟨e1, e2⟩ := pre_yes r 101
      unfold powA
      rw [e1, e2, if_pos rfl]
      simp only [tpow, if_true]
      obtain ⟨l2, hl2⟩ : ∃ x, Lib.trimPrefix r [45] = x := ⟨_, rfl⟩
      obtain ⟨p, hp⟩ : ∃ x, Lib.hasPrefix r [45] = x := ⟨_, rfl⟩
      rw [hl2, hp]
      unfold powB
      rw [take_empty]
      have hle := runL_le l2
      have hlen : (l2.take (runL l2)).length = runL l2 := by simp; omega
      rw [hlen]
      by_cases h0 : runL l2 = 0
      · exact .inl ⟨by rw [if_neg (by omega)], .inl ⟨_, _, by rw [if_pos (by simp [h0])]⟩⟩
      · by_cases h3 : 3 < runL l2
        · exact .inl ⟨by rw [if_neg (by omega)], .inl ⟨_, _, by rw [if_pos (by simp [h3])]⟩⟩
        · by_cases he : runL l2 = l2.length
          · have ht : l2.take (runL l2) = l2 := by rw [he, List.take_of_length_le (Nat.le_refl _)]
            have hd : l2.drop (runL l2) = [] := by rw [he]; simp
            have hv : dval l2 < 1000 := by
              have h1 := dval_lt l2 (by have := runL_take l2; rw [ht] at this; exact this)
              have h2 := Nat.pow_le_pow_right (by decide : 0 < 10) (show l2.length ≤ 3 by omega)
              omega
            refine .inr ⟨if p then -(dval l2 : Int) else dval l2, by rw [if_pos ⟨by omega, by omega, he⟩], ?_, ?_, ?_⟩
            · rw [if_neg (by simp; omega), ht, hd]
            · split <;> omega
            · split <;> omega
          · refine .inl ⟨by rw [if_neg (by omega)], .inr ⟨_, _, by rw [if_neg (by simp; omega)], ?_⟩⟩
            rw [List.isEmpty_eq_false_iff]
            intro e
            have := congrArg List.length e
            simp at this
            omega
    · have e : Lib.hasPrefix (c :: r) [101] = false := (pre_no (l := c :: r) (c := 101) (by simpa using h)).1
      refine .inl ⟨by simp [tpow, h], .inr ⟨0, c :: r, ?_, rfl⟩⟩
      unfold powA
      rw [e]
      rfl
/-- What read hands back. -/
def readV (o : Option (Bool × List UInt8 × Int)) : Value := match o with
  | none => .tuple #[.agg #[.bool false, .string ⟨#[]⟩, .int .i64 0], .bool false]
  | some (s, ds, t) => .tuple #[.agg #[.bool s, .string (st ds), .int .i64 t], .bool true]
theorem dRead (l : List UInt8) (w : World) (hl : l.length ≤ 1000) : Calls Tryz.prog 25 #[.string (st l)] w fun e w' => e = .returned (readV (tread l)) ∧ Below w.heap.size w w' := by
  obtain ⟨l1, H1⟩ : ∃ x, Lib.trimPrefix l [45] = x := ⟨_, rfl⟩
  obtain ⟨s, H2⟩ : ∃ x, Lib.hasPrefix l [45] = x := ⟨_, rfl⟩
  have hl1 : l1.length ≤ 1000 := by
    have := Lib.trimPrefix_le l [45]
    rw [H1] at this
    omega
  have hlead := lead_iff l1
  have hrle := runL_le l1
  obtain ⟨F, H3⟩ : ∃ x, l1.take (runL l1) = x := ⟨_, rfl⟩
  obtain ⟨R, H4⟩ : ∃ x, l1.drop (runL l1) = x := ⟨_, rfl⟩
  have hFl : F.length = runL l1 := by rw [← H3]; simp; omega
  have hRl : R.length ≤ 1000 := by rw [← H4]; simp; omega
  unfold tread
  rw [H1, H2, H4, H3]
  rw [H3] at hlead
  cases H5 : leadB F
  · rw [if_pos (hlead.1 H5)]
    exact dRead_a w H1 H2 hl1 H3 H4 H5
  · rw [if_neg (fun h => by rw [hlead.2 h] at H5; cases H5)]
    rcases frac_eq R with ⟨b, r, H6, e6⟩ | ⟨b, r, H6, e6, hb, hr⟩
    · rw [e6]
      exact dRead_b w H1 H2 hl1 H3 H4 H5 hRl H6
    · rw [e6]
      simp only
      by_cases h40 : F.length + b.length ≤ 40
      · rcases pow_eq r with ⟨e7, ⟨z, q, H7⟩ | ⟨z, q, H7, hq⟩⟩ | ⟨z, e7, H7, hz1, hz2⟩
        · rw [e7]
          exact dRead_d w H1 H2 hl1 H3 H4 H5 hRl H6 h40 (by omega) H7
        · rw [e7]
          exact dRead_e w H1 H2 hl1 H3 H4 H5 hRl H6 h40 (by omega) H7 hq
        · rw [e7]
          simp only
          rw [← hFl, if_pos h40]
          exact dRead_y w H1 H2 hl1 H3 H4 H5 hRl H6 h40 (by omega) H7 hz1 hz2
      · have hc := dRead_c w H1 H2 hl1 H3 H4 H5 hRl H6 (by omega) (by omega) (by omega)
        rcases pow_eq r with ⟨e7, _⟩ | ⟨z, e7, _⟩
        · rw [e7]
          exact hc
        · rw [e7]
          simp only
          rw [← hFl, if_neg h40]
          exact hc
theorem tread_dig {l : List UInt8} {s : Bool} {ds : List UInt8} {t : Int} (h : tread l = some (s, ds, t)) : (∀ c ∈ ds, isDig c = true) ∧ ds.length ≤ 40 ∧ -1100 ≤ t ∧ t ≤ 999 := by
  unfold tread at h
  split at h
  · cases h
  · split at h
    · cases h
    · rename_i b l2 hfr
      split at h
      · cases h
      · rename_i e hpw
        split at h
        · rename_i hlen
          simp only [Option.some.injEq, Prod.mk.injEq] at h
          obtain ⟨rfl, rfl, rfl⟩ := h
          have hb : ∀ c ∈ b, isDig c = true := by
            intro c hc
            cases hr : (Lib.trimPrefix l [45]).drop (runL (Lib.trimPrefix l [45])) with
            | nil => rw [hr] at hfr; simp [tfrac] at hfr; rw [hfr.1] at hc; cases hc
            | cons x r =>
              rw [hr] at hfr
              by_cases hx : x = 46
              · subst hx
                rw [(frac_point r).2] at hfr
                split at hfr
                · cases hfr
                · simp only [Option.some.injEq, Prod.mk.injEq] at hfr
                  rw [← hfr.1] at hc
                  exact runL_take r c hc
              · rw [(frac_cons x r hx).2] at hfr
                simp only [Option.some.injEq, Prod.mk.injEq] at hfr
                rw [← hfr.1] at hc
                cases hc
          have hz : -999 ≤ e ∧ e ≤ 999 := by
            rcases pow_eq l2 with ⟨e7, _⟩ | ⟨z, e7, _, h1, h2⟩
            · rw [e7] at hpw; cases hpw
            · rw [e7] at hpw
              cases hpw
              exact ⟨h1, h2⟩
          refine ⟨fun c hc => ?_, ?_, by omega, by omega⟩
          · rcases List.mem_append.1 hc with hc | hc
            · exact runL_take _ c hc
            · exact hb c hc
          · have := runL_le (Lib.trimPrefix l [45])
            simp
            omega
        · cases h
end Go.Proofs.YtdfnjhkcicnkpaaGreatDoor
