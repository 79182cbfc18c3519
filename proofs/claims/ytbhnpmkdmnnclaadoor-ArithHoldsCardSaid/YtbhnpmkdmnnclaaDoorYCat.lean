/-
  Contracts and words that the statement's proof rests on, several texts in one: Ex, Gn, Gq, Gr, Ha, Hb, Ga, Kk.
-/
import Derived.Below
import Derived.BigQuiet
import Derived.Carry
import Derived.Deep.DeepCutAuto
import Derived.Deep.Draws
import Derived.Deep.MidRow
import Derived.Deep.QuietTactic
import Derived.Deep.RegionHeld3
import Derived.Deep.RegionWith
import Derived.IntWalk
import Derived.Laws.CopyOwn
import Derived.Laws.MakeOwn
import Derived.Laws.OwnMore
import Derived.Laws.Rows
import Derived.Lib.BitFns
import Derived.Lib.Hide
import Derived.Maps.AppendAt
import Derived.StillTailTactics
import Derived.Test.YtbhnpmkdmnnclaaDoorRows
import Derived.WalkKit
import Derived.WalkLawsBesides
import Derived.WalkSpells
import Derived.Test.YtbhnpmkdmnnclaaDoorYCag
import Derived.Test.YtbhnpmkdmnnclaaDoorYCai
import Derived.Test.YtbhnpmkdmnnclaaDoorYCaj
import Derived.Test.YtbhnpmkdmnnclaaDoorYCan
import Derived.Test.YtbhnpmkdmnnclaaDoorYCao
import Derived.Test.YtbhnpmkdmnnclaaDoorYCaq
import Derived.Test.YtbhnpmkdmnnclaaDoorYCar
import Derived.Test.YtbhnpmkdmnnclaaDoorYCas
/-
  What dy.plus and Add do with short numbers whose exponents may be as far apart as those of numbers of 64 bits.
-/
namespace Go.Proofs.YtbhnpmkdmnnclaaDoor
open Go.RowKit
set_option linter.unusedVariables false
set_option maxRecDepth 100000

def LmF (c : Nat) (z : Int) : Prop := ∃ L, L ≤ c ∧ z.natAbs < 4294967296 ^ L
theorem Wn.lmF {w : World} {s : Bool} {A : Option Addr} {n c : Nat} {z : Int} {k : Nat} (h : Wn w s A n c z) (hz : LmF k z) : n ≤ k := by
  obtain ⟨L, h1, h2⟩ := hz
  exact Nat.le_trans (h.len_le h2) h1
def NearF (p q : Int × Int) : Prop := p.1 ≠ 0 → q.1 ≠ 0 → p.2 - q.2 ≤ 2240000 ∧ q.2 - p.2 ≤ 2240000
def CanF (l : List (Int × Int)) : Prop := ∀ k, k < l.length → LmF 10 (smd (l.take k)).1 ∧ NearF (smd (l.take k)) (mk (l.getD k (0, 0)).1 (l.getD k (0, 0)).2) ∧ LmF 70030 (smd (l.take (k + 1))).1

set_option maxHeartbeats 2000000 in
theorem dplus_lF {w : World} {A B : Option Addr} {n c m d : Nat} {s t : Bool} {N2 E1 E2 : Int} (hT : Tab w) (h : Wn w s A n c 0) (k : Wn w t B m d N2) (hm : m ≤ 100000) (HN : Hid ((mk N2 E2).1 = N2)) (HE : Hid ((mk N2 E2).2 = E2)) :
    Calls Tryd.prog 52 #[.agg #[.bool s, .slice A n c, .int .i64 E1], .agg #[.bool t, .slice B m d, .int .i64 E2]] w (D1 w m N2 E2) := by
  go_enter Tryd.func52, Tryd.ntmps52
  go_upto_region 1 with (fail)
  have X1 := (Bo.newAt w (g := w.heap.size) (by simp) #[.bool s, .slice A n c, .int .i64 E1] 39).below (bel2 _ (.cells #[.bool t, .slice B m d, .int .i64 E2] 39) (.cells #[.bool false, .slice none 0 0, .int .i64 0] 39))
  have X2 := (Bo.newAt (w.alloc (.cells #[.bool s, .slice A n c, .int .i64 E1] 39)) (g := w.heap.size + 1) (by simp) #[.bool t, .slice B m d, .int .i64 E2] 39).below (bel1 _ (.cells #[.bool false, .slice none 0 0, .int .i64 0] 39))
  have XR := (Bo.newAt ((w.alloc (.cells #[.bool s, .slice A n c, .int .i64 E1] 39)).alloc (.cells #[.bool t, .slice B m d, .int .i64 E2] 39)) (g := w.heap.size + 1 + 1) (by simp) #[.bool false, .slice none 0 0, .int .i64 0] 39)
  have HB := Lib.hid (bel3 w (.cells #[.bool s, .slice A n c, .int .i64 E1] 39) (.cells #[.bool t, .slice B m d, .int .i64 E2] 39) (.cells #[.bool false, .slice none 0 0, .int .i64 0] 39))
  replace hT := hT.below HB.out
  replace h := h.below HB.out
  replace k := k.below HB.out
  generalize hW1 : (((w.alloc (.cells #[.bool s, .slice A n c, .int .i64 E1] 39)).alloc (.cells #[.bool t, .slice B m d, .int .i64 E2] 39)).alloc (.cells #[.bool false, .slice none 0 0, .int .i64 0] 39)) = w1 at *
  clear hW1
  have xX10 := X1.at (i := 0) (v := .bool s) rfl
  have xX11 := X1.at (i := 1) (v := .slice A n c) rfl
  have xX12 := X1.at (i := 2) (v := .int .i64 E1) rfl
  go_wp2_with fail
  refine (wSign (r := 0) h.wr (cmpI_eq rfl)).mono ?_
  rintro ee w2 ⟨rfl, B⟩
  clear xX10 xX11 xX12
  replace X1 := X1.below B
  replace X2 := X2.below B
  replace XR := XR.below B
  replace hT := hT.below B
  replace h := h.below B
  replace k := k.below B
  replace HB := Lib.hid (bt HB.out B)
  clear B
  have xX20 := X2.at (i := 0) (v := .bool t) rfl
  have xX21 := X2.at (i := 1) (v := .slice B m d) rfl
  have xX22 := X2.at (i := 2) (v := .int .i64 E2) rfl
  go_wp2_with fail
  refine (dMake hT k.wr (by omega) HN.out HE.out).mono ?_
  rintro ee w4 ⟨s4, A4, n4, c4, rfl, p4, k4, B⟩
  clear xX20 xX21 xX22
  replace X1 := X1.below B
  replace X2 := X2.below B
  replace XR := XR.below B
  replace hT := hT.below B
  replace h := h.below B
  replace k := k.below B
  replace HB := Lib.hid (bt HB.out B)
  clear B
  have xXR0 := XR.at (i := 0) (v := .bool false) rfl
  have zXR0 := XR.frozen 0
  have xXR1 := XR.at (i := 1) (v := .slice none 0 0) rfl
  have zXR1 := XR.frozen 1
  have xXR2 := XR.at (i := 2) (v := .int .i64 0) rfl
  have zXR2 := XR.frozen 2
  go_wp2
  clear xXR0 zXR0 xXR1 zXR1 xXR2 zXR2
  have SX := StN.mk3 XR (.bool s4) (.slice A4 n4 c4) (.int .i64 E2)
  replace X1 := X1.stn SX (by omega)
  replace X2 := X2.stn SX (by omega)
  replace p4 := p4.stn SX (by simp [no32])
  replace HB := Lib.hid (SX.below HB.out (by omega))
  replace XR := SX.box
  clear SX
  generalize (World.setCell (World.setCell (World.setCell w4 ⟨w.heap.size + 1 + 1, 0, none⟩ (.bool s4)) ⟨w.heap.size + 1 + 1, 1, none⟩ (.slice A4 n4 c4)) ⟨w.heap.size + 1 + 1, 2, none⟩ (.int .i64 E2)) = w5 at *
  have r0 := XR.cell 0
  have r1 := XR.cell 1
  have r2 := XR.cell 2
  exact bodyPost_ret (v := .agg #[.bool s4, .slice A4 n4 c4, .int .i64 E2]) (by simp [results, Tryd.results52, go_sem, r0, r1, r2]) rfl ⟨s4, A4, n4, c4, rfl, p4, k4, HB.out⟩

set_option maxHeartbeats 2000000 in
theorem dplus_rF {w : World} {A B : Option Addr} {n c m d : Nat} {s t : Bool} {N1 E1 E2 : Int} (hT : Tab w) (h : Wn w s A n c N1) (k : Wn w t B m d 0) (hn : n ≤ 100000) (h1 : N1 ≠ 0) (HN : Hid ((mk N1 E1).1 = N1)) (HE : Hid ((mk N1 E1).2 = E1)) :
    Calls Tryd.prog 52 #[.agg #[.bool s, .slice A n c, .int .i64 E1], .agg #[.bool t, .slice B m d, .int .i64 E2]] w (D1 w n N1 E1) := by
  obtain ⟨σ, hσ⟩ : ∃ x, cmpI N1 0 = x := ⟨_, rfl⟩
  have q1 : (σ == 0) = false := by
    have : σ ≠ 0 := fun e => h1 (cmpI_zero.1 (hσ.trans e))
    simpa using this
  have HS := Lib.hid hσ
  clear hσ h1
  go_enter Tryd.func52, Tryd.ntmps52
  go_upto_region 1 with (fail)
  have X1 := (Bo.newAt w (g := w.heap.size) (by simp) #[.bool s, .slice A n c, .int .i64 E1] 39).below (bel2 _ (.cells #[.bool t, .slice B m d, .int .i64 E2] 39) (.cells #[.bool false, .slice none 0 0, .int .i64 0] 39))
  have X2 := (Bo.newAt (w.alloc (.cells #[.bool s, .slice A n c, .int .i64 E1] 39)) (g := w.heap.size + 1) (by simp) #[.bool t, .slice B m d, .int .i64 E2] 39).below (bel1 _ (.cells #[.bool false, .slice none 0 0, .int .i64 0] 39))
  have XR := (Bo.newAt ((w.alloc (.cells #[.bool s, .slice A n c, .int .i64 E1] 39)).alloc (.cells #[.bool t, .slice B m d, .int .i64 E2] 39)) (g := w.heap.size + 1 + 1) (by simp) #[.bool false, .slice none 0 0, .int .i64 0] 39)
  have HB := Lib.hid (bel3 w (.cells #[.bool s, .slice A n c, .int .i64 E1] 39) (.cells #[.bool t, .slice B m d, .int .i64 E2] 39) (.cells #[.bool false, .slice none 0 0, .int .i64 0] 39))
  replace hT := hT.below HB.out
  replace h := h.below HB.out
  replace k := k.below HB.out
  generalize hW1 : (((w.alloc (.cells #[.bool s, .slice A n c, .int .i64 E1] 39)).alloc (.cells #[.bool t, .slice B m d, .int .i64 E2] 39)).alloc (.cells #[.bool false, .slice none 0 0, .int .i64 0] 39)) = w1 at *
  clear hW1
  have xX10 := X1.at (i := 0) (v := .bool s) rfl
  have xX11 := X1.at (i := 1) (v := .slice A n c) rfl
  have xX12 := X1.at (i := 2) (v := .int .i64 E1) rfl
  go_wp2_with fail
  refine (wSign h.wr HS.out).mono ?_
  rintro ee w2 ⟨rfl, B⟩
  clear xX10 xX11 xX12
  replace X1 := X1.below B
  replace X2 := X2.below B
  replace XR := XR.below B
  replace hT := hT.below B
  replace h := h.below B
  replace k := k.below B
  replace HB := Lib.hid (bt HB.out B)
  clear B
  have xX20 := X2.at (i := 0) (v := .bool t) rfl
  have xX21 := X2.at (i := 1) (v := .slice B m d) rfl
  have xX22 := X2.at (i := 2) (v := .int .i64 E2) rfl
  go_wp2_with fail
  refine (wSign (r := 0) k.wr (cmpI_eq rfl)).mono ?_
  rintro ee w3 ⟨rfl, B⟩
  clear xX20 xX21 xX22
  replace X1 := X1.below B
  replace X2 := X2.below B
  replace XR := XR.below B
  replace hT := hT.below B
  replace h := h.below B
  replace k := k.below B
  replace HB := Lib.hid (bt HB.out B)
  clear B
  have xX10 := X1.at (i := 0) (v := .bool s) rfl
  have xX11 := X1.at (i := 1) (v := .slice A n c) rfl
  have xX12 := X1.at (i := 2) (v := .int .i64 E1) rfl
  go_wp2_with fail
  refine (dMake hT h.wr (by omega) HN.out HE.out).mono ?_
  rintro ee w4 ⟨s4, A4, n4, c4, rfl, p4, k4, B⟩
  clear xX10 xX11 xX12
  replace X1 := X1.below B
  replace X2 := X2.below B
  replace XR := XR.below B
  replace hT := hT.below B
  replace h := h.below B
  replace k := k.below B
  replace HB := Lib.hid (bt HB.out B)
  clear B
  have xXR0 := XR.at (i := 0) (v := .bool false) rfl
  have zXR0 := XR.frozen 0
  have xXR1 := XR.at (i := 1) (v := .slice none 0 0) rfl
  have zXR1 := XR.frozen 1
  have xXR2 := XR.at (i := 2) (v := .int .i64 0) rfl
  have zXR2 := XR.frozen 2
  go_wp2
  clear xXR0 zXR0 xXR1 zXR1 xXR2 zXR2
  have SX := StN.mk3 XR (.bool s4) (.slice A4 n4 c4) (.int .i64 E1)
  replace X1 := X1.stn SX (by omega)
  replace X2 := X2.stn SX (by omega)
  replace p4 := p4.stn SX (by simp [no32])
  replace HB := Lib.hid (SX.below HB.out (by omega))
  replace XR := SX.box
  clear SX
  generalize (World.setCell (World.setCell (World.setCell w4 ⟨w.heap.size + 1 + 1, 0, none⟩ (.bool s4)) ⟨w.heap.size + 1 + 1, 1, none⟩ (.slice A4 n4 c4)) ⟨w.heap.size + 1 + 1, 2, none⟩ (.int .i64 E1)) = w5 at *
  have r0 := XR.cell 0
  have r1 := XR.cell 1
  have r2 := XR.cell 2
  exact bodyPost_ret (v := .agg #[.bool s4, .slice A4 n4 c4, .int .i64 E1]) (by simp [results, Tryd.results52, go_sem, r0, r1, r2]) rfl ⟨s4, A4, n4, c4, rfl, p4, k4, HB.out⟩

set_option maxHeartbeats 4000000 in
theorem dplus_upF {w : World} {A B : Option Addr} {n c m d : Nat} {s t : Bool} {N1 N2 E1 E2 N E : Int} (hT : Tab w) (h : Wn w s A n c N1) (k : Wn w t B m d N2) (hn : n ≤ 10) (hm : m ≤ 10) (h1 : N1 ≠ 0) (h2 : N2 ≠ 0) (hle : E1 ≤ E2) (hf1 : E1 - E2 ≤ 2240000) (hf2 : E2 - E1 ≤ 2240000)
    (HN : Hid ((mk (N1 * ((2 ^ (E1 - E1).toNat : Nat) : Int) + N2 * ((2 ^ (E2 - E1).toNat : Nat) : Int)) E1).1 = N)) (HE : Hid ((mk (N1 * ((2 ^ (E1 - E1).toNat : Nat) : Int) + N2 * ((2 ^ (E2 - E1).toNat : Nat) : Int)) E1).2 = E)) :
    Calls Tryd.prog 52 #[.agg #[.bool s, .slice A n c, .int .i64 E1], .agg #[.bool t, .slice B m d, .int .i64 E2]] w (D1 w (n + m + 70010) N E) := by
  obtain ⟨σ, hσ⟩ : ∃ x, cmpI N1 0 = x := ⟨_, rfl⟩
  have q1 : (σ == 0) = false := by
    have : σ ≠ 0 := fun e => h1 (cmpI_zero.1 (hσ.trans e))
    simpa using this
  have HS := Lib.hid hσ
  obtain ⟨τ, hτ⟩ : ∃ x, cmpI N2 0 = x := ⟨_, rfl⟩
  have q2 : (τ == 0) = false := by
    have : τ ≠ 0 := fun e => h2 (cmpI_zero.1 (hτ.trans e))
    simpa using this
  have HS2 := Lib.hid hτ
  clear hσ hτ h1 h2
  have lt : decide (E2 < E1) = false := by simp; omega
  have HL := Lib.hid lt
  clear lt
  go_enter Tryd.func52, Tryd.ntmps52
  go_upto_region 1 with (fail)
  have X1 := (Bo.newAt w (g := w.heap.size) (by simp) #[.bool s, .slice A n c, .int .i64 E1] 39).below (bel2 _ (.cells #[.bool t, .slice B m d, .int .i64 E2] 39) (.cells #[.bool false, .slice none 0 0, .int .i64 0] 39))
  have X2 := (Bo.newAt (w.alloc (.cells #[.bool s, .slice A n c, .int .i64 E1] 39)) (g := w.heap.size + 1) (by simp) #[.bool t, .slice B m d, .int .i64 E2] 39).below (bel1 _ (.cells #[.bool false, .slice none 0 0, .int .i64 0] 39))
  have XR := (Bo.newAt ((w.alloc (.cells #[.bool s, .slice A n c, .int .i64 E1] 39)).alloc (.cells #[.bool t, .slice B m d, .int .i64 E2] 39)) (g := w.heap.size + 1 + 1) (by simp) #[.bool false, .slice none 0 0, .int .i64 0] 39)
  have HB := Lib.hid (bel3 w (.cells #[.bool s, .slice A n c, .int .i64 E1] 39) (.cells #[.bool t, .slice B m d, .int .i64 E2] 39) (.cells #[.bool false, .slice none 0 0, .int .i64 0] 39))
  replace hT := hT.below HB.out
  replace h := h.below HB.out
  replace k := k.below HB.out
  generalize hW1 : (((w.alloc (.cells #[.bool s, .slice A n c, .int .i64 E1] 39)).alloc (.cells #[.bool t, .slice B m d, .int .i64 E2] 39)).alloc (.cells #[.bool false, .slice none 0 0, .int .i64 0] 39)) = w1 at *
  clear hW1
  have xX10 := X1.at (i := 0) (v := .bool s) rfl
  have xX11 := X1.at (i := 1) (v := .slice A n c) rfl
  have xX12 := X1.at (i := 2) (v := .int .i64 E1) rfl
  go_wp2_with fail
  refine (wSign h.wr HS.out).mono ?_
  rintro ee w2 ⟨rfl, B⟩
  clear xX10 xX11 xX12
  replace X1 := X1.below B
  replace X2 := X2.below B
  replace XR := XR.below B
  replace hT := hT.below B
  replace h := h.below B
  replace k := k.below B
  replace HB := Lib.hid (bt HB.out B)
  clear B
  have xX20 := X2.at (i := 0) (v := .bool t) rfl
  have xX21 := X2.at (i := 1) (v := .slice B m d) rfl
  have xX22 := X2.at (i := 2) (v := .int .i64 E2) rfl
  go_wp2_with fail
  refine (wSign k.wr HS2.out).mono ?_
  rintro ee w3 ⟨rfl, B⟩
  clear xX20 xX21 xX22
  replace X1 := X1.below B
  replace X2 := X2.below B
  replace XR := XR.below B
  replace hT := hT.below B
  replace h := h.below B
  replace k := k.below B
  replace HB := Lib.hid (bt HB.out B)
  clear B
  have xX10 := X1.at (i := 0) (v := .bool s) rfl
  have xX11 := X1.at (i := 1) (v := .slice A n c) rfl
  have xX12 := X1.at (i := 2) (v := .int .i64 E1) rfl
  have xX20 := X2.at (i := 0) (v := .bool t) rfl
  have xX21 := X2.at (i := 1) (v := .slice B m d) rfl
  have xX22 := X2.at (i := 2) (v := .int .i64 E2) rfl
  go_upto_region 6 with (fail)
  clear xX10 xX11 xX12 xX20 xX21 xX22
  refine Jo.region_joint (T := [0, 1, 2, 3, 4, 5, 6, 7, 8]) (ds := [some 29, some 30, some 31, some 32, some 33, some 34, some 35, some 36, some 37, none]) (ls := [[], [], [0, 1], [], [], [3, 4], [2, 5], [], [6, 7], []]) (k := 10) (L := [(some 29, 0), (some 30, 1), (some 31, 2), (some 32, 3), (some 33, 4), (some 34, 5), (some 35, 6), (some 36, 7), (some 37, 8)]) (fuel := 1) (J := fun wj => Below (World.heap w3).size w3 wj)
    (F := [Jo.Fact.eq (.agg #[.bool s, .slice A n c, .int .i64 E1]), Jo.Fact.eq (.int .i64 E1), Jo.Fact.wn (N1 * ((2 ^ (E1 - E1).toNat : Nat) : Int)) (n + (E1 - E1).toNat / 32 + 1), Jo.Fact.eq (.agg #[.bool t, .slice B m d, .int .i64 E2]), Jo.Fact.eq (.int .i64 E1), Jo.Fact.wn (N2 * ((2 ^ (E2 - E1).toNat : Nat) : Int)) (m + (E2 - E1).toNat / 32 + 1), Jo.Fact.wn (N1 * ((2 ^ (E1 - E1).toNat : Nat) : Int) + N2 * ((2 ^ (E2 - E1).toNat : Nat) : Int)) (n + m + 70010), Jo.Fact.eq (.int .i64 E1), Jo.Fact.dy N E (n + m + 70010), Jo.Fact.any])
    (by kernel_rfl) (by kernel_rfl) (by decide) rfl rfl (fun _ _ h b => bt h b) ((Below.refl _ _).drew) ?_ (fun vs w4 hJ hd => ?_)
  · refine Jo.jcons (i := 0) (o := ⟨some 29, _, _, _, _, _⟩) (di := some 29) (L := []) (f := Jo.Fact.eq (.agg #[.bool s, .slice A n c, .int .i64 E1])) rfl rfl rfl rfl (fun vs wj hJ hd K hK => ?_) ?_
    · clear hd
      simp only [Jo.putl, List.foldl_nil, Act.put, List.setIfInBounds_toArray, List.set_cons_zero, List.set_cons_succ] at hK ⊢
      have xX10 : World.cell? wj ⟨w.heap.size, 0, none⟩ = some (.bool s) := (X1.below hJ).cell 0
      have xX11 : World.cell? wj ⟨w.heap.size, 1, none⟩ = some (.slice A n c) := (X1.below hJ).cell 1
      have xX12 : World.cell? wj ⟨w.heap.size, 2, none⟩ = some (.int .i64 E1) := (X1.below hJ).cell 2
      go_simp
      exact hK.out _ _ rfl (Below.refl _ _)
    refine Jo.jcons (i := 1) (o := ⟨some 30, _, _, _, _, _⟩) (di := some 30) (L := []) (f := Jo.Fact.eq (.int .i64 E1)) rfl rfl rfl rfl (fun vs wj hJ hd K hK => ?_) ?_
    · clear hd
      simp only [Jo.putl, List.foldl_nil, Act.put, List.setIfInBounds_toArray, List.set_cons_zero, List.set_cons_succ] at hK ⊢
      go_simp
      exact hK.out _ _ rfl (Below.refl _ _)
    refine Jo.jcons (i := 2) (o := ⟨some 31, _, _, _, _, _⟩) (di := some 31) (L := [(some 29, 0), (some 30, 1)]) (f := Jo.Fact.wn (N1 * ((2 ^ (E1 - E1).toNat : Nat) : Int)) (n + (E1 - E1).toNat / 32 + 1)) rfl rfl rfl rfl (fun vs wj hJ hd K hK => ?_) ?_
    · have d0 : (Jo.Fact.eq (.agg #[.bool s, .slice A n c, .int .i64 E1])).P (vs 0) wj := hd 0 (by decide)
      have d1 : (Jo.Fact.eq (.int .i64 E1)).P (vs 1) wj := hd 1 (by decide)
      clear hd
      simp only [Jo.putl, List.foldl_cons, List.foldl_nil, Act.put, List.setIfInBounds_toArray, List.set_cons_zero, List.set_cons_succ] at hK ⊢
      generalize vs 0 = u0 at hK d0 ⊢
      generalize vs 1 = u1 at hK d1 ⊢
      replace d0 : u0 = _ := d0
      subst d0
      replace d1 : u1 = _ := d1
      subst d1
      go_simp
      refine (dTimes (h.below hJ) (by omega) (by omega) (by omega) rfl).mono ?_
      rintro ee wk ⟨s5, A5, n5, c5, rfl, p5, k5, B⟩
      exact hK.out _ _ ⟨s5, A5, n5, c5, rfl, p5, k5⟩ B
    refine Jo.jcons (i := 3) (o := ⟨some 32, _, _, _, _, _⟩) (di := some 32) (L := []) (f := Jo.Fact.eq (.agg #[.bool t, .slice B m d, .int .i64 E2])) rfl rfl rfl rfl (fun vs wj hJ hd K hK => ?_) ?_
    · clear hd
      simp only [Jo.putl, List.foldl_nil, Act.put, List.setIfInBounds_toArray, List.set_cons_zero, List.set_cons_succ] at hK ⊢
      have xX20 : World.cell? wj ⟨w.heap.size + 1, 0, none⟩ = some (.bool t) := (X2.below hJ).cell 0
      have xX21 : World.cell? wj ⟨w.heap.size + 1, 1, none⟩ = some (.slice B m d) := (X2.below hJ).cell 1
      have xX22 : World.cell? wj ⟨w.heap.size + 1, 2, none⟩ = some (.int .i64 E2) := (X2.below hJ).cell 2
      go_simp
      exact hK.out _ _ rfl (Below.refl _ _)
    refine Jo.jcons (i := 4) (o := ⟨some 33, _, _, _, _, _⟩) (di := some 33) (L := []) (f := Jo.Fact.eq (.int .i64 E1)) rfl rfl rfl rfl (fun vs wj hJ hd K hK => ?_) ?_
    · clear hd
      simp only [Jo.putl, List.foldl_nil, Act.put, List.setIfInBounds_toArray, List.set_cons_zero, List.set_cons_succ] at hK ⊢
      go_simp
      exact hK.out _ _ rfl (Below.refl _ _)
    refine Jo.jcons (i := 5) (o := ⟨some 34, _, _, _, _, _⟩) (di := some 34) (L := [(some 32, 3), (some 33, 4)]) (f := Jo.Fact.wn (N2 * ((2 ^ (E2 - E1).toNat : Nat) : Int)) (m + (E2 - E1).toNat / 32 + 1)) rfl rfl rfl rfl (fun vs wj hJ hd K hK => ?_) ?_
    · have d3 : (Jo.Fact.eq (.agg #[.bool t, .slice B m d, .int .i64 E2])).P (vs 3) wj := hd 3 (by decide)
      have d4 : (Jo.Fact.eq (.int .i64 E1)).P (vs 4) wj := hd 4 (by decide)
      clear hd
      simp only [Jo.putl, List.foldl_cons, List.foldl_nil, Act.put, List.setIfInBounds_toArray, List.set_cons_zero, List.set_cons_succ] at hK ⊢
      generalize vs 3 = u3 at hK d3 ⊢
      generalize vs 4 = u4 at hK d4 ⊢
      replace d3 : u3 = _ := d3
      subst d3
      replace d4 : u4 = _ := d4
      subst d4
      go_simp
      refine (dTimes (k.below hJ) (by omega) (by omega) (by omega) rfl).mono ?_
      rintro ee wk ⟨s6, A6, n6, c6, rfl, p6, k6, B⟩
      exact hK.out _ _ ⟨s6, A6, n6, c6, rfl, p6, k6⟩ B
    refine Jo.jcons (i := 6) (o := ⟨some 35, _, _, _, _, _⟩) (di := some 35) (L := [(some 31, 2), (some 34, 5)]) (f := Jo.Fact.wn (N1 * ((2 ^ (E1 - E1).toNat : Nat) : Int) + N2 * ((2 ^ (E2 - E1).toNat : Nat) : Int)) (n + m + 70010)) rfl rfl rfl rfl (fun vs wj hJ hd K hK => ?_) ?_
    · have d2 : (Jo.Fact.wn (N1 * ((2 ^ (E1 - E1).toNat : Nat) : Int)) (n + (E1 - E1).toNat / 32 + 1)).P (vs 2) wj := hd 2 (by decide)
      have d5 : (Jo.Fact.wn (N2 * ((2 ^ (E2 - E1).toNat : Nat) : Int)) (m + (E2 - E1).toNat / 32 + 1)).P (vs 5) wj := hd 5 (by decide)
      clear hd
      simp only [Jo.putl, List.foldl_cons, List.foldl_nil, Act.put, List.setIfInBounds_toArray, List.set_cons_zero, List.set_cons_succ] at hK ⊢
      generalize vs 2 = u2 at hK d2 ⊢
      generalize vs 5 = u5 at hK d5 ⊢
      obtain ⟨s5, A5, n5, c5, rfl, p5, k5⟩ := d2
      obtain ⟨s6, A6, n6, c6, rfl, p6, k6⟩ := d5
      go_simp
      refine (wAdd p5.wr p6.wr (by omega) (by omega) rfl).mono ?_
      rintro ee wk ⟨s7, A7, n7, c7, rfl, p7, k7, B⟩
      exact hK.out _ _ ⟨s7, A7, n7, c7, rfl, p7, by omega⟩ B
    refine Jo.jcons (i := 7) (o := ⟨some 36, _, _, _, _, _⟩) (di := some 36) (L := []) (f := Jo.Fact.eq (.int .i64 E1)) rfl rfl rfl rfl (fun vs wj hJ hd K hK => ?_) ?_
    · clear hd
      simp only [Jo.putl, List.foldl_nil, Act.put, List.setIfInBounds_toArray, List.set_cons_zero, List.set_cons_succ] at hK ⊢
      go_simp
      exact hK.out _ _ rfl (Below.refl _ _)
    refine Jo.jcons (i := 8) (o := ⟨some 37, _, _, _, _, _⟩) (di := some 37) (L := [(some 35, 6), (some 36, 7)]) (f := Jo.Fact.dy N E (n + m + 70010)) rfl rfl rfl rfl (fun vs wj hJ hd K hK => ?_) ?_
    · have d6 : (Jo.Fact.wn (N1 * ((2 ^ (E1 - E1).toNat : Nat) : Int) + N2 * ((2 ^ (E2 - E1).toNat : Nat) : Int)) (n + m + 70010)).P (vs 6) wj := hd 6 (by decide)
      have d7 : (Jo.Fact.eq (.int .i64 E1)).P (vs 7) wj := hd 7 (by decide)
      clear hd
      simp only [Jo.putl, List.foldl_cons, List.foldl_nil, Act.put, List.setIfInBounds_toArray, List.set_cons_zero, List.set_cons_succ] at hK ⊢
      generalize vs 6 = u6 at hK d6 ⊢
      generalize vs 7 = u7 at hK d7 ⊢
      obtain ⟨s7, A7, n7, c7, rfl, p7, k7⟩ := d6
      replace d7 : u7 = _ := d7
      subst d7
      go_simp
      refine (dMake (hT.below hJ) p7.wr (by omega) HN.out HE.out).mono ?_
      rintro ee wk ⟨s4, A4, n4, c4, rfl, p4, k4, B⟩
      exact hK.out _ _ ⟨s4, A4, n4, c4, rfl, p4, Nat.le_trans k4 k7⟩ B
    exact Jo.Steps.nil
  have d0 : (Jo.Fact.eq (.agg #[.bool s, .slice A n c, .int .i64 E1])).P (vs 0) w4 := hd 0 (by decide)
  have d1 : (Jo.Fact.eq (.int .i64 E1)).P (vs 1) w4 := hd 1 (by decide)
  have d2 : (Jo.Fact.wn (N1 * ((2 ^ (E1 - E1).toNat : Nat) : Int)) (n + (E1 - E1).toNat / 32 + 1)).P (vs 2) w4 := hd 2 (by decide)
  have d3 : (Jo.Fact.eq (.agg #[.bool t, .slice B m d, .int .i64 E2])).P (vs 3) w4 := hd 3 (by decide)
  have d4 : (Jo.Fact.eq (.int .i64 E1)).P (vs 4) w4 := hd 4 (by decide)
  have d5 : (Jo.Fact.wn (N2 * ((2 ^ (E2 - E1).toNat : Nat) : Int)) (m + (E2 - E1).toNat / 32 + 1)).P (vs 5) w4 := hd 5 (by decide)
  have d6 : (Jo.Fact.wn (N1 * ((2 ^ (E1 - E1).toNat : Nat) : Int) + N2 * ((2 ^ (E2 - E1).toNat : Nat) : Int)) (n + m + 70010)).P (vs 6) w4 := hd 6 (by decide)
  have d7 : (Jo.Fact.eq (.int .i64 E1)).P (vs 7) w4 := hd 7 (by decide)
  have d8 : (Jo.Fact.dy N E (n + m + 70010)).P (vs 8) w4 := hd 8 (by decide)
  clear hd
  simp only [Jo.putl, List.foldl_cons, List.foldl_nil, Act.put, List.setIfInBounds_toArray, List.set_cons_zero, List.set_cons_succ]
  generalize vs 0 = u0 at d0 ⊢
  generalize vs 1 = u1 at d1 ⊢
  generalize vs 2 = u2 at d2 ⊢
  generalize vs 3 = u3 at d3 ⊢
  generalize vs 4 = u4 at d4 ⊢
  generalize vs 5 = u5 at d5 ⊢
  generalize vs 6 = u6 at d6 ⊢
  generalize vs 7 = u7 at d7 ⊢
  generalize vs 8 = u8 at d8 ⊢
  clear vs
  replace d0 : u0 = _ := d0
  subst d0
  replace d1 : u1 = _ := d1
  subst d1
  obtain ⟨s5, A5, n5, c5, rfl, _, _⟩ := d2
  replace d3 : u3 = _ := d3
  subst d3
  replace d4 : u4 = _ := d4
  subst d4
  obtain ⟨s6, A6, n6, c6, rfl, _, _⟩ := d5
  obtain ⟨s7, A7, n7, c7, rfl, _, _⟩ := d6
  replace d7 : u7 = _ := d7
  subst d7
  obtain ⟨s4, A4, n4, c4, rfl, p4, k4⟩ := d8
  replace X1 := X1.below hJ
  replace X2 := X2.below hJ
  replace XR := XR.below hJ
  replace hT := hT.below hJ
  replace h := h.below hJ
  replace k := k.below hJ
  replace HB := Lib.hid (bt HB.out hJ)
  have xXR0 := XR.at (i := 0) (v := .bool false) rfl
  have zXR0 := XR.frozen 0
  have xXR1 := XR.at (i := 1) (v := .slice none 0 0) rfl
  have zXR1 := XR.frozen 1
  have xXR2 := XR.at (i := 2) (v := .int .i64 0) rfl
  have zXR2 := XR.frozen 2
  refine Jo.jnext (i := 9) (o := ⟨none, _, _, _, _, _⟩) (by kernel_rfl) rfl (fun K hK => ?_)
  go_simp
  refine hK.out _ _ ?_
  clear hK K xXR0 zXR0 xXR1 zXR1 xXR2 zXR2
  have SX := StN.mk3 XR (.bool s4) (.slice A4 n4 c4) (.int .i64 E)
  replace X1 := X1.stn SX (by omega)
  replace X2 := X2.stn SX (by omega)
  replace p4 := p4.stn SX (by simp [no32])
  replace HB := Lib.hid (SX.below HB.out (by omega))
  replace XR := SX.box
  clear SX
  generalize (World.setCell (World.setCell (World.setCell w4 ⟨w.heap.size + 1 + 1, 0, none⟩ (.bool s4)) ⟨w.heap.size + 1 + 1, 1, none⟩ (.slice A4 n4 c4)) ⟨w.heap.size + 1 + 1, 2, none⟩ (.int .i64 E)) = w5 at *
  refine Jo.jdone (by kernel_rfl) ?_
  go_wp2
  have r0 := XR.cell 0
  have r1 := XR.cell 1
  have r2 := XR.cell 2
  exact bodyPost_ret (v := .agg #[.bool s4, .slice A4 n4 c4, .int .i64 E]) (by simp [results, Tryd.results52, go_sem, r0, r1, r2]) rfl ⟨s4, A4, n4, c4, rfl, p4, k4, HB.out⟩

set_option maxHeartbeats 4000000 in
theorem dplus_dnF {w : World} {A B : Option Addr} {n c m d : Nat} {s t : Bool} {N1 N2 E1 E2 N E : Int} (hT : Tab w) (h : Wn w s A n c N1) (k : Wn w t B m d N2) (hn : n ≤ 10) (hm : m ≤ 10) (h1 : N1 ≠ 0) (h2 : N2 ≠ 0) (hle : E2 < E1) (hf1 : E1 - E2 ≤ 2240000) (hf2 : E2 - E1 ≤ 2240000)
    (HN : Hid ((mk (N1 * ((2 ^ (E1 - E2).toNat : Nat) : Int) + N2 * ((2 ^ (E2 - E2).toNat : Nat) : Int)) E2).1 = N)) (HE : Hid ((mk (N1 * ((2 ^ (E1 - E2).toNat : Nat) : Int) + N2 * ((2 ^ (E2 - E2).toNat : Nat) : Int)) E2).2 = E)) :
    Calls Tryd.prog 52 #[.agg #[.bool s, .slice A n c, .int .i64 E1], .agg #[.bool t, .slice B m d, .int .i64 E2]] w (D1 w (n + m + 70010) N E) := by
  obtain ⟨σ, hσ⟩ : ∃ x, cmpI N1 0 = x := ⟨_, rfl⟩
  have q1 : (σ == 0) = false := by
    have : σ ≠ 0 := fun e => h1 (cmpI_zero.1 (hσ.trans e))
    simpa using this
  have HS := Lib.hid hσ
  obtain ⟨τ, hτ⟩ : ∃ x, cmpI N2 0 = x := ⟨_, rfl⟩
  have q2 : (τ == 0) = false := by
    have : τ ≠ 0 := fun e => h2 (cmpI_zero.1 (hτ.trans e))
    simpa using this
  have HS2 := Lib.hid hτ
  clear hσ hτ h1 h2
  have lt : decide (E2 < E1) = true := by simp; omega
  have HL := Lib.hid lt
  clear lt
  go_enter Tryd.func52, Tryd.ntmps52
  go_upto_region 1 with (fail)
  have X1 := (Bo.newAt w (g := w.heap.size) (by simp) #[.bool s, .slice A n c, .int .i64 E1] 39).below (bel2 _ (.cells #[.bool t, .slice B m d, .int .i64 E2] 39) (.cells #[.bool false, .slice none 0 0, .int .i64 0] 39))
  have X2 := (Bo.newAt (w.alloc (.cells #[.bool s, .slice A n c, .int .i64 E1] 39)) (g := w.heap.size + 1) (by simp) #[.bool t, .slice B m d, .int .i64 E2] 39).below (bel1 _ (.cells #[.bool false, .slice none 0 0, .int .i64 0] 39))
  have XR := (Bo.newAt ((w.alloc (.cells #[.bool s, .slice A n c, .int .i64 E1] 39)).alloc (.cells #[.bool t, .slice B m d, .int .i64 E2] 39)) (g := w.heap.size + 1 + 1) (by simp) #[.bool false, .slice none 0 0, .int .i64 0] 39)
  have HB := Lib.hid (bel3 w (.cells #[.bool s, .slice A n c, .int .i64 E1] 39) (.cells #[.bool t, .slice B m d, .int .i64 E2] 39) (.cells #[.bool false, .slice none 0 0, .int .i64 0] 39))
  replace hT := hT.below HB.out
  replace h := h.below HB.out
  replace k := k.below HB.out
  generalize hW1 : (((w.alloc (.cells #[.bool s, .slice A n c, .int .i64 E1] 39)).alloc (.cells #[.bool t, .slice B m d, .int .i64 E2] 39)).alloc (.cells #[.bool false, .slice none 0 0, .int .i64 0] 39)) = w1 at *
  clear hW1
  have xX10 := X1.at (i := 0) (v := .bool s) rfl
  have xX11 := X1.at (i := 1) (v := .slice A n c) rfl
  have xX12 := X1.at (i := 2) (v := .int .i64 E1) rfl
  go_wp2_with fail
  refine (wSign h.wr HS.out).mono ?_
  rintro ee w2 ⟨rfl, B⟩
  clear xX10 xX11 xX12
  replace X1 := X1.below B
  replace X2 := X2.below B
  replace XR := XR.below B
  replace hT := hT.below B
  replace h := h.below B
  replace k := k.below B
  replace HB := Lib.hid (bt HB.out B)
  clear B
  have xX20 := X2.at (i := 0) (v := .bool t) rfl
  have xX21 := X2.at (i := 1) (v := .slice B m d) rfl
  have xX22 := X2.at (i := 2) (v := .int .i64 E2) rfl
  go_wp2_with fail
  refine (wSign k.wr HS2.out).mono ?_
  rintro ee w3 ⟨rfl, B⟩
  clear xX20 xX21 xX22
  replace X1 := X1.below B
  replace X2 := X2.below B
  replace XR := XR.below B
  replace hT := hT.below B
  replace h := h.below B
  replace k := k.below B
  replace HB := Lib.hid (bt HB.out B)
  clear B
  have xX10 := X1.at (i := 0) (v := .bool s) rfl
  have xX11 := X1.at (i := 1) (v := .slice A n c) rfl
  have xX12 := X1.at (i := 2) (v := .int .i64 E1) rfl
  have xX20 := X2.at (i := 0) (v := .bool t) rfl
  have xX21 := X2.at (i := 1) (v := .slice B m d) rfl
  have xX22 := X2.at (i := 2) (v := .int .i64 E2) rfl
  go_upto_region 6 with (fail)
  clear xX10 xX11 xX12 xX20 xX21 xX22
  refine Jo.region_joint (T := [0, 1, 2, 3, 4, 5, 6, 7, 8]) (ds := [some 29, some 30, some 31, some 32, some 33, some 34, some 35, some 36, some 37, none]) (ls := [[], [], [0, 1], [], [], [3, 4], [2, 5], [], [6, 7], []]) (k := 10) (L := [(some 29, 0), (some 30, 1), (some 31, 2), (some 32, 3), (some 33, 4), (some 34, 5), (some 35, 6), (some 36, 7), (some 37, 8)]) (fuel := 1) (J := fun wj => Below (World.heap w3).size w3 wj)
    (F := [Jo.Fact.eq (.agg #[.bool s, .slice A n c, .int .i64 E1]), Jo.Fact.eq (.int .i64 E2), Jo.Fact.wn (N1 * ((2 ^ (E1 - E2).toNat : Nat) : Int)) (n + (E1 - E2).toNat / 32 + 1), Jo.Fact.eq (.agg #[.bool t, .slice B m d, .int .i64 E2]), Jo.Fact.eq (.int .i64 E2), Jo.Fact.wn (N2 * ((2 ^ (E2 - E2).toNat : Nat) : Int)) (m + (E2 - E2).toNat / 32 + 1), Jo.Fact.wn (N1 * ((2 ^ (E1 - E2).toNat : Nat) : Int) + N2 * ((2 ^ (E2 - E2).toNat : Nat) : Int)) (n + m + 70010), Jo.Fact.eq (.int .i64 E2), Jo.Fact.dy N E (n + m + 70010), Jo.Fact.any])
    (by kernel_rfl) (by kernel_rfl) (by decide) rfl rfl (fun _ _ h b => bt h b) ((Below.refl _ _).drew) ?_ (fun vs w4 hJ hd => ?_)
  · refine Jo.jcons (i := 0) (o := ⟨some 29, _, _, _, _, _⟩) (di := some 29) (L := []) (f := Jo.Fact.eq (.agg #[.bool s, .slice A n c, .int .i64 E1])) rfl rfl rfl rfl (fun vs wj hJ hd K hK => ?_) ?_
    · clear hd
      simp only [Jo.putl, List.foldl_nil, Act.put, List.setIfInBounds_toArray, List.set_cons_zero, List.set_cons_succ] at hK ⊢
      have xX10 : World.cell? wj ⟨w.heap.size, 0, none⟩ = some (.bool s) := (X1.below hJ).cell 0
      have xX11 : World.cell? wj ⟨w.heap.size, 1, none⟩ = some (.slice A n c) := (X1.below hJ).cell 1
      have xX12 : World.cell? wj ⟨w.heap.size, 2, none⟩ = some (.int .i64 E1) := (X1.below hJ).cell 2
      go_simp
      exact hK.out _ _ rfl (Below.refl _ _)
    refine Jo.jcons (i := 1) (o := ⟨some 30, _, _, _, _, _⟩) (di := some 30) (L := []) (f := Jo.Fact.eq (.int .i64 E2)) rfl rfl rfl rfl (fun vs wj hJ hd K hK => ?_) ?_
    · clear hd
      simp only [Jo.putl, List.foldl_nil, Act.put, List.setIfInBounds_toArray, List.set_cons_zero, List.set_cons_succ] at hK ⊢
      go_simp
      exact hK.out _ _ rfl (Below.refl _ _)
    refine Jo.jcons (i := 2) (o := ⟨some 31, _, _, _, _, _⟩) (di := some 31) (L := [(some 29, 0), (some 30, 1)]) (f := Jo.Fact.wn (N1 * ((2 ^ (E1 - E2).toNat : Nat) : Int)) (n + (E1 - E2).toNat / 32 + 1)) rfl rfl rfl rfl (fun vs wj hJ hd K hK => ?_) ?_
    · have d0 : (Jo.Fact.eq (.agg #[.bool s, .slice A n c, .int .i64 E1])).P (vs 0) wj := hd 0 (by decide)
      have d1 : (Jo.Fact.eq (.int .i64 E2)).P (vs 1) wj := hd 1 (by decide)
      clear hd
      simp only [Jo.putl, List.foldl_cons, List.foldl_nil, Act.put, List.setIfInBounds_toArray, List.set_cons_zero, List.set_cons_succ] at hK ⊢
      generalize vs 0 = u0 at hK d0 ⊢
      generalize vs 1 = u1 at hK d1 ⊢
      replace d0 : u0 = _ := d0
      subst d0
      replace d1 : u1 = _ := d1
      subst d1
      go_simp
      refine (dTimes (h.below hJ) (by omega) (by omega) (by omega) rfl).mono ?_
      rintro ee wk ⟨s5, A5, n5, c5, rfl, p5, k5, B⟩
      exact hK.out _ _ ⟨s5, A5, n5, c5, rfl, p5, k5⟩ B
    refine Jo.jcons (i := 3) (o := ⟨some 32, _, _, _, _, _⟩) (di := some 32) (L := []) (f := Jo.Fact.eq (.agg #[.bool t, .slice B m d, .int .i64 E2])) rfl rfl rfl rfl (fun vs wj hJ hd K hK => ?_) ?_
    · clear hd
      simp only [Jo.putl, List.foldl_nil, Act.put, List.setIfInBounds_toArray, List.set_cons_zero, List.set_cons_succ] at hK ⊢
      have xX20 : World.cell? wj ⟨w.heap.size + 1, 0, none⟩ = some (.bool t) := (X2.below hJ).cell 0
      have xX21 : World.cell? wj ⟨w.heap.size + 1, 1, none⟩ = some (.slice B m d) := (X2.below hJ).cell 1
      have xX22 : World.cell? wj ⟨w.heap.size + 1, 2, none⟩ = some (.int .i64 E2) := (X2.below hJ).cell 2
      go_simp
      exact hK.out _ _ rfl (Below.refl _ _)
    refine Jo.jcons (i := 4) (o := ⟨some 33, _, _, _, _, _⟩) (di := some 33) (L := []) (f := Jo.Fact.eq (.int .i64 E2)) rfl rfl rfl rfl (fun vs wj hJ hd K hK => ?_) ?_
    · clear hd
      simp only [Jo.putl, List.foldl_nil, Act.put, List.setIfInBounds_toArray, List.set_cons_zero, List.set_cons_succ] at hK ⊢
      go_simp
      exact hK.out _ _ rfl (Below.refl _ _)
    refine Jo.jcons (i := 5) (o := ⟨some 34, _, _, _, _, _⟩) (di := some 34) (L := [(some 32, 3), (some 33, 4)]) (f := Jo.Fact.wn (N2 * ((2 ^ (E2 - E2).toNat : Nat) : Int)) (m + (E2 - E2).toNat / 32 + 1)) rfl rfl rfl rfl (fun vs wj hJ hd K hK => ?_) ?_
    · have d3 : (Jo.Fact.eq (.agg #[.bool t, .slice B m d, .int .i64 E2])).P (vs 3) wj := hd 3 (by decide)
      have d4 : (Jo.Fact.eq (.int .i64 E2)).P (vs 4) wj := hd 4 (by decide)
      clear hd
      simp only [Jo.putl, List.foldl_cons, List.foldl_nil, Act.put, List.setIfInBounds_toArray, List.set_cons_zero, List.set_cons_succ] at hK ⊢
      generalize vs 3 = u3 at hK d3 ⊢
      generalize vs 4 = u4 at hK d4 ⊢
      replace d3 : u3 = _ := d3
      subst d3
      replace d4 : u4 = _ := d4
      subst d4
      go_simp
      refine (dTimes (k.below hJ) (by omega) (by omega) (by omega) rfl).mono ?_
      rintro ee wk ⟨s6, A6, n6, c6, rfl, p6, k6, B⟩
      exact hK.out _ _ ⟨s6, A6, n6, c6, rfl, p6, k6⟩ B
    refine Jo.jcons (i := 6) (o := ⟨some 35, _, _, _, _, _⟩) (di := some 35) (L := [(some 31, 2), (some 34, 5)]) (f := Jo.Fact.wn (N1 * ((2 ^ (E1 - E2).toNat : Nat) : Int) + N2 * ((2 ^ (E2 - E2).toNat : Nat) : Int)) (n + m + 70010)) rfl rfl rfl rfl (fun vs wj hJ hd K hK => ?_) ?_
    · have d2 : (Jo.Fact.wn (N1 * ((2 ^ (E1 - E2).toNat : Nat) : Int)) (n + (E1 - E2).toNat / 32 + 1)).P (vs 2) wj := hd 2 (by decide)
      have d5 : (Jo.Fact.wn (N2 * ((2 ^ (E2 - E2).toNat : Nat) : Int)) (m + (E2 - E2).toNat / 32 + 1)).P (vs 5) wj := hd 5 (by decide)
      clear hd
      simp only [Jo.putl, List.foldl_cons, List.foldl_nil, Act.put, List.setIfInBounds_toArray, List.set_cons_zero, List.set_cons_succ] at hK ⊢
      generalize vs 2 = u2 at hK d2 ⊢
      generalize vs 5 = u5 at hK d5 ⊢
      obtain ⟨s5, A5, n5, c5, rfl, p5, k5⟩ := d2
      obtain ⟨s6, A6, n6, c6, rfl, p6, k6⟩ := d5
      go_simp
      refine (wAdd p5.wr p6.wr (by omega) (by omega) rfl).mono ?_
      rintro ee wk ⟨s7, A7, n7, c7, rfl, p7, k7, B⟩
      exact hK.out _ _ ⟨s7, A7, n7, c7, rfl, p7, by omega⟩ B
    refine Jo.jcons (i := 7) (o := ⟨some 36, _, _, _, _, _⟩) (di := some 36) (L := []) (f := Jo.Fact.eq (.int .i64 E2)) rfl rfl rfl rfl (fun vs wj hJ hd K hK => ?_) ?_
    · clear hd
      simp only [Jo.putl, List.foldl_nil, Act.put, List.setIfInBounds_toArray, List.set_cons_zero, List.set_cons_succ] at hK ⊢
      go_simp
      exact hK.out _ _ rfl (Below.refl _ _)
    refine Jo.jcons (i := 8) (o := ⟨some 37, _, _, _, _, _⟩) (di := some 37) (L := [(some 35, 6), (some 36, 7)]) (f := Jo.Fact.dy N E (n + m + 70010)) rfl rfl rfl rfl (fun vs wj hJ hd K hK => ?_) ?_
    · have d6 : (Jo.Fact.wn (N1 * ((2 ^ (E1 - E2).toNat : Nat) : Int) + N2 * ((2 ^ (E2 - E2).toNat : Nat) : Int)) (n + m + 70010)).P (vs 6) wj := hd 6 (by decide)
      have d7 : (Jo.Fact.eq (.int .i64 E2)).P (vs 7) wj := hd 7 (by decide)
      clear hd
      simp only [Jo.putl, List.foldl_cons, List.foldl_nil, Act.put, List.setIfInBounds_toArray, List.set_cons_zero, List.set_cons_succ] at hK ⊢
      generalize vs 6 = u6 at hK d6 ⊢
      generalize vs 7 = u7 at hK d7 ⊢
      obtain ⟨s7, A7, n7, c7, rfl, p7, k7⟩ := d6
      replace d7 : u7 = _ := d7
      subst d7
      go_simp
      refine (dMake (hT.below hJ) p7.wr (by omega) HN.out HE.out).mono ?_
      rintro ee wk ⟨s4, A4, n4, c4, rfl, p4, k4, B⟩
      exact hK.out _ _ ⟨s4, A4, n4, c4, rfl, p4, Nat.le_trans k4 k7⟩ B
    exact Jo.Steps.nil
  have d0 : (Jo.Fact.eq (.agg #[.bool s, .slice A n c, .int .i64 E1])).P (vs 0) w4 := hd 0 (by decide)
  have d1 : (Jo.Fact.eq (.int .i64 E2)).P (vs 1) w4 := hd 1 (by decide)
  have d2 : (Jo.Fact.wn (N1 * ((2 ^ (E1 - E2).toNat : Nat) : Int)) (n + (E1 - E2).toNat / 32 + 1)).P (vs 2) w4 := hd 2 (by decide)
  have d3 : (Jo.Fact.eq (.agg #[.bool t, .slice B m d, .int .i64 E2])).P (vs 3) w4 := hd 3 (by decide)
  have d4 : (Jo.Fact.eq (.int .i64 E2)).P (vs 4) w4 := hd 4 (by decide)
  have d5 : (Jo.Fact.wn (N2 * ((2 ^ (E2 - E2).toNat : Nat) : Int)) (m + (E2 - E2).toNat / 32 + 1)).P (vs 5) w4 := hd 5 (by decide)
  have d6 : (Jo.Fact.wn (N1 * ((2 ^ (E1 - E2).toNat : Nat) : Int) + N2 * ((2 ^ (E2 - E2).toNat : Nat) : Int)) (n + m + 70010)).P (vs 6) w4 := hd 6 (by decide)
  have d7 : (Jo.Fact.eq (.int .i64 E2)).P (vs 7) w4 := hd 7 (by decide)
  have d8 : (Jo.Fact.dy N E (n + m + 70010)).P (vs 8) w4 := hd 8 (by decide)
  clear hd
  simp only [Jo.putl, List.foldl_cons, List.foldl_nil, Act.put, List.setIfInBounds_toArray, List.set_cons_zero, List.set_cons_succ]
  generalize vs 0 = u0 at d0 ⊢
  generalize vs 1 = u1 at d1 ⊢
  generalize vs 2 = u2 at d2 ⊢
  generalize vs 3 = u3 at d3 ⊢
  generalize vs 4 = u4 at d4 ⊢
  generalize vs 5 = u5 at d5 ⊢
  generalize vs 6 = u6 at d6 ⊢
  generalize vs 7 = u7 at d7 ⊢
  generalize vs 8 = u8 at d8 ⊢
  clear vs
  replace d0 : u0 = _ := d0
  subst d0
  replace d1 : u1 = _ := d1
  subst d1
  obtain ⟨s5, A5, n5, c5, rfl, _, _⟩ := d2
  replace d3 : u3 = _ := d3
  subst d3
  replace d4 : u4 = _ := d4
  subst d4
  obtain ⟨s6, A6, n6, c6, rfl, _, _⟩ := d5
  obtain ⟨s7, A7, n7, c7, rfl, _, _⟩ := d6
  replace d7 : u7 = _ := d7
  subst d7
  obtain ⟨s4, A4, n4, c4, rfl, p4, k4⟩ := d8
  replace X1 := X1.below hJ
  replace X2 := X2.below hJ
  replace XR := XR.below hJ
  replace hT := hT.below hJ
  replace h := h.below hJ
  replace k := k.below hJ
  replace HB := Lib.hid (bt HB.out hJ)
  have xXR0 := XR.at (i := 0) (v := .bool false) rfl
  have zXR0 := XR.frozen 0
  have xXR1 := XR.at (i := 1) (v := .slice none 0 0) rfl
  have zXR1 := XR.frozen 1
  have xXR2 := XR.at (i := 2) (v := .int .i64 0) rfl
  have zXR2 := XR.frozen 2
  refine Jo.jnext (i := 9) (o := ⟨none, _, _, _, _, _⟩) (by kernel_rfl) rfl (fun K hK => ?_)
  go_simp
  refine hK.out _ _ ?_
  clear hK K xXR0 zXR0 xXR1 zXR1 xXR2 zXR2
  have SX := StN.mk3 XR (.bool s4) (.slice A4 n4 c4) (.int .i64 E)
  replace X1 := X1.stn SX (by omega)
  replace X2 := X2.stn SX (by omega)
  replace p4 := p4.stn SX (by simp [no32])
  replace HB := Lib.hid (SX.below HB.out (by omega))
  replace XR := SX.box
  clear SX
  generalize (World.setCell (World.setCell (World.setCell w4 ⟨w.heap.size + 1 + 1, 0, none⟩ (.bool s4)) ⟨w.heap.size + 1 + 1, 1, none⟩ (.slice A4 n4 c4)) ⟨w.heap.size + 1 + 1, 2, none⟩ (.int .i64 E)) = w5 at *
  refine Jo.jdone (by kernel_rfl) ?_
  go_wp2
  have r0 := XR.cell 0
  have r1 := XR.cell 1
  have r2 := XR.cell 2
  exact bodyPost_ret (v := .agg #[.bool s4, .slice A4 n4 c4, .int .i64 E]) (by simp [results, Tryd.results52, go_sem, r0, r1, r2]) rfl ⟨s4, A4, n4, c4, rfl, p4, k4, HB.out⟩

theorem dPlusF {w : World} {A B : Option Addr} {n c m d : Nat} {s t : Bool} {N1 N2 E1 E2 N E : Int} (hT : Tab w) (h : Wn w s A n c N1) (k : Wn w t B m d N2) (hn : n ≤ 10) (hm : m ≤ 10) (f1 : Nf (N1, E1)) (f2 : Nf (N2, E2)) (hf : NearF (N1, E1) (N2, E2))
    (hN : (pl (N1, E1) (N2, E2)).1 = N) (hE : (pl (N1, E1) (N2, E2)).2 = E) :
    Calls Tryd.prog 52 #[.agg #[.bool s, .slice A n c, .int .i64 E1], .agg #[.bool t, .slice B m d, .int .i64 E2]] w (D1 w (n + m + 70010) N E) := by
  have mono : ∀ K, K ≤ n + m + 70010 → ∀ N E e w', D1 w K N E e w' → D1 w (n + m + 70010) N E e w' := fun K hK N E e w' ⟨s, A, n, c, e1, p, q, b⟩ => ⟨s, A, n, c, e1, p, Nat.le_trans q hK, b⟩
  unfold pl at hN hE
  simp only at hN hE
  by_cases h1 : N1 = 0
  · rw [if_pos h1] at hN hE
    subst hN; subst hE; subst h1
    exact (dplus_lF hT h k (by omega) (Lib.hid (congrArg Prod.fst f2)) (Lib.hid (congrArg Prod.snd f2))).mono (mono _ (by omega) _ _)
  · rw [if_neg h1] at hN hE
    by_cases h2 : N2 = 0
    · rw [if_pos h2] at hN hE
      subst hN; subst hE; subst h2
      exact (dplus_rF hT h k (by omega) h1 (Lib.hid (congrArg Prod.fst f1)) (Lib.hid (congrArg Prod.snd f1))).mono (mono _ (by omega) _ _)
    · rw [if_neg h2] at hN hE
      obtain ⟨g1, g2⟩ := hf h1 h2
      simp only at g1 g2
      by_cases hle : E1 ≤ E2
      · rw [Int.min_eq_left hle] at hN hE
        exact dplus_upF hT h k hn hm h1 h2 hle g1 g2 (Lib.hid (by simpa using hN)) (Lib.hid (by simpa using hE))
      · rw [Int.min_eq_right (by omega)] at hN hE
        exact dplus_dnF hT h k hn hm h1 h2 (by omega) g1 g2 (Lib.hid (by simpa using hN)) (Lib.hid (by simpa using hE))
def DAddInvF (w : World) (g3 : Nat) (l : List (Int × Int)) (k : Nat) (wr : World) : Prop :=
  ∃ s A n c, Bo wr w.heap.size #[.bool false, .slice none 0 0, .int .i64 0] 39 ∧ Bo wr g3 #[.bool s, .slice A n c, .int .i64 (smd (l.take k)).2] 39 ∧ Wn wr s A n c (smd (l.take k)).1 ∧ Below w.heap.size w wr
set_option maxRecDepth 20000 in
set_option maxHeartbeats 4000000 in
theorem dAddF {w : World} {A : Option Addr} {n c K : Nat} {l : List (Int × Int)} {N E : Int} (hT : Tab w) (h : Dl w A n c K l) (hK : K ≤ 10) (hC : CanF l) (hN : (smd l).1 = N) (hE : (smd l).2 = E) :
    Calls Tryd.prog 28 #[.slice A n c] w (D1 w 70030 N E) := by
  have HN := Lib.hid hN
  have HE := Lib.hid hE
  have HC := Lib.hid hC
  have HLn := Lib.hid h.1
  have hcap := h.2.1
  have hbig := h.2.2.1
  have hT0 := hT
  have hD0 := h
  clear hN hE hC
  go_enter Tryd.func28, Tryd.ntmps28
  go_upto_region 1 with (fail)
  have XR := (Bo.newAt w (g := w.heap.size) (by simp) #[.bool false, .slice none 0 0, .int .i64 0] 39)
  have HB := Lib.hid (bel1 w (.cells #[.bool false, .slice none 0 0, .int .i64 0] 39))
  replace hT := hT.below HB.out
  replace h := h.below HB.out
  generalize hW1 : (w.alloc (.cells #[.bool false, .slice none 0 0, .int .i64 0] 39)) = w1 at *
  clear hW1
  go_upto_region 2 with (fail)
  have hg3 := XR.lt
  replace XR := XR.below (bel1 _ (.cells #[.bool false, .slice none 0 0, .int .i64 0] 39))
  replace hT := hT.below (bel1 _ (.cells #[.bool false, .slice none 0 0, .int .i64 0] 39))
  replace h := h.below (bel1 _ (.cells #[.bool false, .slice none 0 0, .int .i64 0] 39))
  replace HB := Lib.hid (bt HB.out (bel1 _ (.cells #[.bool false, .slice none 0 0, .int .i64 0] 39)))
  have X3 := Bo.new w1 #[.bool false, .slice none 0 0, .int .i64 0] 39
  generalize hWn : w1.alloc (.cells #[.bool false, .slice none 0 0, .int .i64 0] 39) = w2 at *
  clear hWn
  go_wp2_with fail
  generalize w1.heap.size = g3 at *
  clear hT h w1
  go_loopw [9] (fun i wr => ∃ k : Nat, k ≤ n ∧ i = .int .i64 k ∧ DAddInvF w g3 l k wr) (fun i _ => n - (intOf i).toNat)
  case atStart => exact ⟨0, Nat.zero_le _, rfl, false, none, 0, 0, XR, X3, Wn.zero, HB.out⟩
  case round =>
    obtain ⟨k, hk, rfl, hI⟩ := hrel
    obtain ⟨s, B, p, d, XR, X3, hw, hB⟩ := hI
    have HB := Lib.hid hB
    have hT := hT0.below hB
    have h := hD0.below hB
    clear hB
    by_cases hlt : k < n
    · obtain ⟨b, o, rfl, hcell⟩ := h.2.2.2 (by omega)
      obtain ⟨t, D, q, e, c0, c1, c2, hv, hq⟩ := hcell k hlt
      clear hcell h hD0
      obtain ⟨l1, l2, l3⟩ := HC.out k (by rw [HLn.out]; exact hlt)
      have hp := hw.lmF l1
      have HT := Lib.hid (smd_take (by rw [HLn.out]; exact hlt : k < l.length))
      have HF1 := Lib.hid (smd_nf (l.take k))
      generalize hS : smd (l.take (k + 1)) = S at *
      generalize smd (l.take k) = R at *
      generalize hP : l.getD k (0, 0) = P at *
      obtain ⟨N1, E1⟩ := R
      obtain ⟨z2, e2⟩ := P
      simp only at hv c2 X3 hw l1 l2
      have HT := Lib.hid (show S = pl (N1, E1) (mk z2 e2) from HT.out)
      have hnf2 := mk_nf z2 e2
      obtain ⟨Q, hQ⟩ : ∃ x, mk z2 e2 = x := ⟨_, rfl⟩
      rw [hQ] at l2 hnf2
      have HT := Lib.hid (hQ ▸ HT.out)
      obtain ⟨N2, E2⟩ := Q
      have HQ1 := Lib.hid (congrArg Prod.fst hQ)
      have HQ2 := Lib.hid (congrArg Prod.snd hQ)
      have HF2 := Lib.hid hnf2
      clear hQ hnf2
      have HL2 := Lib.hid l2
      have HL3 := Lib.hid l3
      have HS := Lib.hid hS
      clear l1 l2 l3 hS hP
      have i1 : (k : Int) < n := by omega
      have i2 : (0 : Int) ≤ k := by omega
      go_upto_region 5 with (fail)
      have hgd := X3.lt
      replace XR := XR.below (bel1 _ (.cells #[.bool t, .slice D q e, .int .i64 e2] 39))
      replace X3 := X3.below (bel1 _ (.cells #[.bool t, .slice D q e, .int .i64 e2] 39))
      replace hT := hT.below (bel1 _ (.cells #[.bool t, .slice D q e, .int .i64 e2] 39))
      replace hw := hw.below (bel1 _ (.cells #[.bool t, .slice D q e, .int .i64 e2] 39))
      replace hv := hv.below (bel1 _ (.cells #[.bool t, .slice D q e, .int .i64 e2] 39))
      replace HB := Lib.hid (bt HB.out (bel1 _ (.cells #[.bool t, .slice D q e, .int .i64 e2] 39)))
      have X5 := Bo.new wr #[.bool t, .slice D q e, .int .i64 e2] 39
      generalize hWn : wr.alloc (.cells #[.bool t, .slice D q e, .int .i64 e2] 39) = w3 at *
      clear hWn
      clear c0 c1 c2
      refine Jo.region_joint (T := [0, 1, 2, 3]) (ds := [some 13, some 14, some 15, some 16, none]) (ls := [[], [], [1], [0, 2], []]) (k := 5) (L := [(some 13, 0), (some 14, 1), (some 15, 2), (some 16, 3)]) (fuel := 1) (J := fun wj => Below (World.heap w3).size w3 wj)
        (F := [Jo.Fact.eq (.agg #[.bool s, .slice B p d, .int .i64 E1]), Jo.Fact.eq (.agg #[.bool t, .slice D q e, .int .i64 e2]), Jo.Fact.dy N2 E2 q, Jo.Fact.dy S.1 S.2 70030, Jo.Fact.any])
        (by kernel_rfl) (by kernel_rfl) (by decide) rfl rfl (fun _ _ h b => bt h b) ((Below.refl _ _).drew) ?_ (fun vs w4 hJ hd => ?_)
      · refine Jo.jcons (i := 0) (o := ⟨some 13, _, _, _, _, _⟩) (di := some 13) (L := []) (f := Jo.Fact.eq (.agg #[.bool s, .slice B p d, .int .i64 E1])) rfl rfl rfl rfl (fun vs wj hJ hd K hK => ?_) ?_
        · clear hd
          simp only [Jo.putl, List.foldl_nil, Act.put, List.setIfInBounds_toArray, List.set_cons_zero, List.set_cons_succ] at hK ⊢
          have xX30 : World.cell? wj ⟨g3, 0, none⟩ = some (.bool s) := (X3.below hJ).cell 0
          have xX31 : World.cell? wj ⟨g3, 1, none⟩ = some (.slice B p d) := (X3.below hJ).cell 1
          have xX32 : World.cell? wj ⟨g3, 2, none⟩ = some (.int .i64 E1) := (X3.below hJ).cell 2
          go_simp
          exact hK.out _ _ rfl (Below.refl _ _)
        refine Jo.jcons (i := 1) (o := ⟨some 14, _, _, _, _, _⟩) (di := some 14) (L := []) (f := Jo.Fact.eq (.agg #[.bool t, .slice D q e, .int .i64 e2])) rfl rfl rfl rfl (fun vs wj hJ hd K hK => ?_) ?_
        · clear hd
          simp only [Jo.putl, List.foldl_nil, Act.put, List.setIfInBounds_toArray, List.set_cons_zero, List.set_cons_succ] at hK ⊢
          have xX50 : World.cell? wj ⟨wr.heap.size, 0, none⟩ = some (.bool t) := (X5.below hJ).cell 0
          have xX51 : World.cell? wj ⟨wr.heap.size, 1, none⟩ = some (.slice D q e) := (X5.below hJ).cell 1
          have xX52 : World.cell? wj ⟨wr.heap.size, 2, none⟩ = some (.int .i64 e2) := (X5.below hJ).cell 2
          go_simp
          exact hK.out _ _ rfl (Below.refl _ _)
        refine Jo.jcons (i := 2) (o := ⟨some 15, _, _, _, _, _⟩) (di := some 15) (L := [(some 14, 1)]) (f := Jo.Fact.dy N2 E2 q) rfl rfl rfl rfl (fun vs wj hJ hd K hK => ?_) ?_
        · have d1 : (Jo.Fact.eq (.agg #[.bool t, .slice D q e, .int .i64 e2])).P (vs 1) wj := hd 1 (by decide)
          clear hd
          simp only [Jo.putl, List.foldl_cons, List.foldl_nil, Act.put, List.setIfInBounds_toArray, List.set_cons_zero, List.set_cons_succ] at hK ⊢
          generalize vs 1 = u1 at hK d1 ⊢
          replace d1 : u1 = _ := d1
          subst d1
          go_simp
          refine (dTaken (hT.below hJ) (hv.below hJ) (by omega) HQ1.out HQ2.out).mono ?_
          rintro ee wk ⟨s2, A2, n2, c2, rfl, p2, k2, B⟩
          exact hK.out _ _ ⟨s2, A2, n2, c2, rfl, p2, k2⟩ B
        refine Jo.jcons (i := 3) (o := ⟨some 16, _, _, _, _, _⟩) (di := some 16) (L := [(some 13, 0), (some 15, 2)]) (f := Jo.Fact.dy S.1 S.2 70030) rfl rfl rfl rfl (fun vs wj hJ hd K hK => ?_) ?_
        · have d0 : (Jo.Fact.eq (.agg #[.bool s, .slice B p d, .int .i64 E1])).P (vs 0) wj := hd 0 (by decide)
          have d2 : (Jo.Fact.dy N2 E2 q).P (vs 2) wj := hd 2 (by decide)
          clear hd
          simp only [Jo.putl, List.foldl_cons, List.foldl_nil, Act.put, List.setIfInBounds_toArray, List.set_cons_zero, List.set_cons_succ] at hK ⊢
          generalize vs 0 = u0 at hK d0 ⊢
          generalize vs 2 = u2 at hK d2 ⊢
          replace d0 : u0 = _ := d0
          subst d0
          obtain ⟨s2, A2, n2, c2, rfl, p2, k2⟩ := d2
          go_simp
          refine (dPlusF (N := S.1) (E := S.2) (hT.below hJ) (hw.below hJ) p2 hp (by omega) HF1.out HF2.out HL2.out (congrArg Prod.fst HT.out.symm) (congrArg Prod.snd HT.out.symm)).mono ?_
          rintro ee wk ⟨s4, A4, n4, c4, rfl, p4, k4, B⟩
          exact hK.out _ _ ⟨s4, A4, n4, c4, rfl, p4, p4.lmF HL3.out⟩ B
        exact Jo.Steps.nil
      have d0 : (Jo.Fact.eq (.agg #[.bool s, .slice B p d, .int .i64 E1])).P (vs 0) w4 := hd 0 (by decide)
      have d1 : (Jo.Fact.eq (.agg #[.bool t, .slice D q e, .int .i64 e2])).P (vs 1) w4 := hd 1 (by decide)
      have d2 : (Jo.Fact.dy N2 E2 q).P (vs 2) w4 := hd 2 (by decide)
      have d3 : (Jo.Fact.dy S.1 S.2 70030).P (vs 3) w4 := hd 3 (by decide)
      clear hd
      simp only [Jo.putl, List.foldl_cons, List.foldl_nil, Act.put, List.setIfInBounds_toArray, List.set_cons_zero, List.set_cons_succ]
      generalize vs 0 = u0 at d0 ⊢
      generalize vs 1 = u1 at d1 ⊢
      generalize vs 2 = u2 at d2 ⊢
      generalize vs 3 = u3 at d3 ⊢
      clear vs
      replace d0 : u0 = _ := d0
      subst d0
      replace d1 : u1 = _ := d1
      subst d1
      obtain ⟨s2, A2, n2, c2, rfl, _, _⟩ := d2
      obtain ⟨s4, A4, n4, c4, rfl, p4, k4⟩ := d3
      replace XR := XR.below hJ
      replace X3 := X3.below hJ
      replace X5 := X5.below hJ
      replace hT := hT.below hJ
      replace hw := hw.below hJ
      replace hv := hv.below hJ
      replace HB := Lib.hid (bt HB.out hJ)
      have xX30 := X3.at (i := 0) (v := .bool s) rfl
      have zX30 := X3.frozen 0
      have xX31 := X3.at (i := 1) (v := .slice B p d) rfl
      have zX31 := X3.frozen 1
      have xX32 := X3.at (i := 2) (v := .int .i64 E1) rfl
      have zX32 := X3.frozen 2
      refine Jo.jnext (i := 4) (o := ⟨none, _, _, _, _, _⟩) (by kernel_rfl) rfl (fun K hK => ?_)
      go_simp
      refine hK.out _ _ ?_
      clear hK K xX30 zX30 xX31 zX31 xX32 zX32
      have SX := StN.mk3 X3 (.bool s4) (.slice A4 n4 c4) (.int .i64 S.2)
      replace XR := XR.stn SX (by omega)
      replace p4 := p4.stn SX (by simp [no32])
      replace HB := Lib.hid (SX.below HB.out (by omega))
      replace X3 := SX.box
      clear SX
      generalize (World.setCell (World.setCell (World.setCell w4 ⟨g3, 0, none⟩ (.bool s4)) ⟨g3, 1, none⟩ (.slice A4 n4 c4)) ⟨g3, 2, none⟩ (.int .i64 S.2)) = w5 at *
      refine Jo.jdone (by kernel_rfl) ?_
      go_wp2
      go_roundw
      case rel =>
        refine ⟨k + 1, by omega, by go_num, s4, A4, n4, c4, XR, ?_, ?_, HB.out⟩
        · rw [HS.out]; exact X3
        · rw [HS.out]; exact p4
      case measure => simp [intOf]; omega
    · obtain rfl : k = n := by omega
      have HR : Hid (smd (l.take k) = smd l) := Lib.hid (by rw [List.take_of_length_le (by rw [HLn.out]; omega)])
      have HL : Hid (LmF 70030 (smd l).1 ∨ k = 0) := Lib.hid (by
        rcases Nat.eq_zero_or_pos k with e | e
        · exact .inr e
        · have := (HC.out (k - 1) (by rw [HLn.out]; omega)).2.2
          rw [show k - 1 + 1 = k by omega, List.take_of_length_le (by rw [HLn.out]; omega)] at this
          exact .inl this)
      rw [HR.out, HN.out] at hw
      rw [HR.out, HE.out] at X3
      have hp : p ≤ 70030 := by
        rcases HL.out with e | e
        · rw [HN.out] at e; exact hw.lmF e
        · have e0 := HR.out
          rw [e] at e0
          have : N = 0 := by rw [← HN.out, ← e0]; rfl
          rw [this] at hw
          have := hw.1.pos
          simp at this
          omega
      have xX30 := X3.at (i := 0) (v := .bool s) rfl
      have xX31 := X3.at (i := 1) (v := .slice B p d) rfl
      have xX32 := X3.at (i := 2) (v := .int .i64 E) rfl
      have zXR0 := XR.frozen 0
      have zXR1 := XR.frozen 1
      have zXR2 := XR.frozen 2
      have y0 := XR.cell 0
      have y1 := XR.cell 1
      have y2 := XR.cell 2
      go_wp2
      clear xX30 xX31 xX32
      clear zXR0 zXR1 zXR2 y0 y1 y2
      have SX := StN.mk3 XR (.bool s) (.slice B p d) (.int .i64 E)
      replace X3 := X3.stn SX (by omega)
      replace hw := hw.stn SX (by simp [no32])
      replace HB := Lib.hid (SX.below HB.out (by omega))
      replace XR := SX.box
      clear SX
      generalize (World.setCell (World.setCell (World.setCell wr ⟨w.heap.size, 0, none⟩ (.bool s)) ⟨w.heap.size, 1, none⟩ (.slice B p d)) ⟨w.heap.size, 2, none⟩ (.int .i64 E)) = w5 at *
      have r0 := XR.cell 0
      have r1 := XR.cell 1
      have r2 := XR.cell 2
      exact bodyPost_ret (v := .agg #[.bool s, .slice B p d, .int .i64 E]) (by simp [results, Tryd.results28, go_sem, r0, r1, r2]) rfl ⟨s, B, p, d, rfl, hw, hp, HB.out⟩

end Go.Proofs.YtbhnpmkdmnnclaaDoor

/-
  More of sums and products of places: the product grows with a factor that is not below nought; what nought and one do; what dy.Add may be asked of two finite numbers. Plain arithmetic; no Go text.
-/
namespace Go.Proofs.YtbhnpmkdmnnclaaDoor
open Go.RowKit
set_option linter.unusedVariables false

theorem vr_pos {x : Int} (h : 0 < x) : 0 < vr x := by
  have := vr_lt h
  rwa [show vr 0 = 0 from rfl] at this
theorem vr_le {x y : Int} (h : x ≤ y) : vr x ≤ vr y := by
  rcases Int.lt_or_eq_of_le h with q | q
  · exact Int.le_of_lt (vr_lt q)
  · rw [q]; exact Int.le_refl _
/-- Rounding a finite place's own dyadic number gives the place. -/
theorem rnd_ep {r : Int} (up : Bool) (h1 : -19342822337206103650074625 < r) (h2 : r < 19342822337206103650074625) : rnd up (ep r).1 (ep r).2 = r := by
  obtain ⟨D, s, M, E, q⟩ := fq_of h1 h2
  obtain ⟨a, _⟩ := exq_vl q h1 h2
  rw [← exq_ep q a]
  exact rnd_back up q a
theorem ep_zero : ep 0 = (0, 0) := if_pos rfl
theorem infp_zero : infp 0 = false := by decide
theorem addp_zero {x : Int} (up : Bool) (x1 : -19342822337206103650074625 ≤ x) (x2 : x ≤ 19342822337206103650074625) : addp up x 0 = x := by
  cases hx : infp x
  · obtain ⟨x3, x4⟩ := infp_false x1 x2 hx
    rw [addp_ff up hx infp_zero, ep_zero]
    have : pl (ep x) (0, 0) = ep x := by
      unfold pl
      by_cases h : (ep x).1 = 0
      · rw [if_pos h]
        exact ((ep_nf x).zero h).symm
      · rw [if_neg h, if_pos rfl]
    rw [this]
    exact rnd_ep up x3 x4
  · exact addp_tf up hx infp_zero
/-- What dy.Add is asked of two finite places. -/
theorem canF_two {x y : Int} (x1 : -19342822337206103650074625 < x) (x2 : x < 19342822337206103650074625) (y1 : -19342822337206103650074625 < y) (y2 : y < 19342822337206103650074625) : CanF [ep x, ep y] ∧ smd [ep x, ep y] = pl (ep x) (ep y) := by
  obtain ⟨η, hη⟩ : ∃ η : Nat, η = 1048700 := ⟨_, rfl⟩
  have f := ep_fit x x1 x2 (h := η) (by omega) (by omega)
  have g := ep_fit y y1 y2 (h := η) (by omega) (by omega)
  obtain ⟨s, _⟩ := pl_fit (by omega) f g
  have big : ∀ {h : Nat} {p : Int × Int}, Fit h p → h ≤ 1048701 → LmF 70030 p.1 := fun {h p} fp hh => by
    refine ⟨h / 16 + 1, by omega, Nat.lt_of_lt_of_le fp.abs ?_⟩
    rw [show (4294967296 : Nat) = 2 ^ 32 by decide, ← Nat.pow_mul]
    exact Nat.pow_le_pow_right (by decide) (by omega)
  have short : ∀ r, LmF 10 (ep r).1 := fun r => by
    unfold ep
    split
    · exact ⟨0, by decide, by decide⟩
    · obtain ⟨z, hz⟩ : ∃ z, sgi (decide (r < 0)) (((r.natAbs : Int) - 1) % 9223372036854775808 + 9223372036854775808) = z := ⟨_, rfl⟩
      have hb : z.natAbs < 18446744073709551616 := by
        rw [← hz]
        cases decide (r < 0)
        · rw [show ∀ q, sgi false q = q from fun q => if_neg (by decide)]; omega
        · rw [show ∀ q, sgi true q = -q from fun q => if_pos rfl]; omega
      rw [hz]
      obtain ⟨e, he⟩ : ∃ e, ((r.natAbs : Int) - 1) / 9223372036854775808 - 1048576 = e := ⟨_, rfl⟩
      rw [he]
      refine ⟨2, by decide, ?_⟩
      rcases mk_cases z e with h | ⟨h0, _, _, _, _, _, h6⟩
      · rw [h]; decide
      · have := congrArg Int.natAbs h6
        rw [natAbs_mul_pow] at this
        have hp : 1 ≤ 2 ^ v2 z.natAbs := Nat.pow_pos (by decide)
        have := Nat.le_mul_of_pos_right (mk z e).1.natAbs hp
        omega
  have ex : mk (ep x).1 (ep x).2 = ep x := ep_nf x
  have ey : mk (ep y).1 (ep y).2 = ep y := ep_nf y
  have p0 : pl (0, 0) (ep x) = ep x := by
    unfold pl
    rw [if_pos rfl]
  have e1 : smd [ep x] = ep x := by
    show pl (0, 0) (mk (ep x).1 (ep x).2) = ep x
    rw [ex, p0]
  have e2 : smd [ep x, ep y] = pl (ep x) (ep y) := by
    show pl (pl (0, 0) (mk (ep x).1 (ep x).2)) (mk (ep y).1 (ep y).2) = pl (ep x) (ep y)
    rw [ex, ey, p0]
  refine ⟨fun k hk => ?_, e2⟩
  rcases (show k = 0 ∨ k = 1 by simp at hk; omega) with rfl | rfl
  · have s0 : smd (List.take 0 [ep x, ep y]) = (0, 0) := rfl
    rw [s0]
    refine ⟨⟨0, by decide, by decide⟩, fun h => absurd rfl h, ?_⟩
    show LmF 70030 (smd [ep x]).1
    rw [e1]
    exact big f (by omega)
  · refine ⟨?_, ?_, ?_⟩
    · show LmF 10 (smd [ep x]).1
      rw [e1]
      exact short x
    · show NearF (smd [ep x]) (mk (ep y).1 (ep y).2)
      rw [e1, ey]
      intro _ _
      have := f.lo
      have := f.hi
      have := g.lo
      have := g.hi
      omega
    · show LmF 70030 (smd [ep x, ep y]).1
      rw [e2]
      exact big s (by omega)
end Go.Proofs.YtbhnpmkdmnnclaaDoor

/-
  One and two as factors; numbers far apart; what is rounded to both sides lies beside the exact one. Plain arithmetic; no Go text.
-/
namespace Go.Proofs.YtbhnpmkdmnnclaaDoor
open Go.RowKit
set_option linter.unusedVariables false

theorem opl_pos {n : Int} (h : 0 < n) (h1 : n ≤ 9223372036854775807) : 0 < opl n ∧ opl n < 19342822337206103650074625 := by
  have e : opl n = lo n.natAbs 0 := by
    unfold opl
    rw [decide_eq_false (show ¬ n < 0 by omega)]
    exact if_neg (by decide)
  have hc := opl_cmp (a := n) (b := 0) (by omega) h1 (by decide) (by decide)
  rw [opl_zero, cmpI_gt h] at hc
  have := (lo_bd n.natAbs 0).2
  rw [← e] at this
  refine ⟨?_, by omega⟩
  rcases cmpI_tri (opl n) 0 with ⟨a, b⟩ | ⟨a, b⟩ | ⟨a, b⟩
  · rw [b] at hc; exact absurd hc (by decide)
  · rw [b] at hc; exact absurd hc (by decide)
  · exact a
theorem infp_fin {x : Int} (h1 : -19342822337206103650074625 < x) (h2 : x < 19342822337206103650074625) : infp x = false := by
  cases h : infp x
  · rfl
  · have := infp_true h; omega
/-- Between both sides of a number that is not too far there is no other one. -/
theorem tight {P : Int × Int} (hP : Nf P) (h1 : vr (-19342822337206103650074624) ≤ vl P) (h2 : vl P ≤ vr 19342822337206103650074624) :
    ∃ r r', rnd false P.1 P.2 = r ∧ rnd true P.1 P.2 = r' ∧ -19342822337206103650074625 < r ∧ r < 19342822337206103650074625 ∧ -19342822337206103650074625 < r' ∧ r' < 19342822337206103650074625 ∧ ((r' = r ∧ vr r = vl P) ∨ (r' = r + 1 ∧ vr r < vl P ∧ vl P < vr r')) := by
  obtain ⟨a, b⟩ := rnd_spec hP
  refine ⟨_, _, rfl, rfl, ?_⟩
  revert a b
  generalize rnd false P.1 P.2 = r
  generalize rnd true P.1 P.2 = r'
  intro a b
  have lo1 := (dn_self (r := -19342822337206103650074624) (by decide) (by decide)).mono a h1
  have hi1 := b.mono (up_self (r := 19342822337206103650074624) (by decide) (by decide)) h2
  obtain ⟨a1, a2, a3, a4⟩ := a
  obtain ⟨b1, b2, b3, b4⟩ := b
  have c1 := a3 (by omega)
  have n1 := vr_neg r'
  have c2 : vl P ≤ vr r' := by
    have := b3 (by omega)
    omega
  have hrr : r ≤ r' := by
    rcases Int.lt_or_le r' r with q | q
    · have := vr_lt q; omega
    · exact q
  by_cases e : vr r = vl P
  · have hu : Up (vl P) r := e ▸ up_self (by omega) (by omega)
    have := hu.uniq (show Up (vl P) r' from ⟨b1, b2, b3, b4⟩)
    subst this
    exact ⟨by omega, by omega, by omega, by omega, .inl ⟨rfl, e⟩⟩
  · have hlt : vr r < vl P := by omega
    have hne : r ≠ r' := fun c => by rw [← c] at c2; omega
    have c3 := a4 (by omega)
    have n2 := vr_neg (r' - 1)
    have c4 : r' ≤ r + 1 := by
      rcases Int.lt_or_le (r + 1) r' with q | q
      · have := b4 (by omega)
        rw [show -r' + 1 = -(r' - 1) by omega] at this
        have := vr_le (show r + 1 ≤ r' - 1 by omega)
        omega
      · exact q
    obtain rfl : r' = r + 1 := by omega
    exact ⟨by omega, by omega, by omega, by omega, .inr ⟨rfl, hlt, c3⟩⟩
/-- What is a little more, and a little less, than a place's worth. -/
theorem near_up {r X : Int} (h0 : 0 ≤ r) (h2 : r < 19342822337206103650074625) (hX : vr r < X) (hX2 : X < vr (r + 1)) : Dn X r ∧ Up X (r + 1) := by
  have n1 := vr_neg (r + 1)
  have n2 := vr_neg r
  refine ⟨⟨by omega, by omega, fun _ => Int.le_of_lt hX, fun _ => hX2⟩, ⟨by omega, by omega, fun _ => by omega, fun _ => ?_⟩⟩
  rw [show -(r + 1) + 1 = -r by omega]
  omega
theorem vr_gap {M E : Int} (h1 : 9223372036854775808 ≤ M) (h2 : M < 18446744073709551616) (h3 : -1048576 < E) :
    vr (M - 9223372036854775808 + 1 + (E + 1048576) * 9223372036854775808) = M * 2 ^ (E + KK).toNat ∧ vr (M - 9223372036854775808 + 1 + (E + 1048576) * 9223372036854775808 + 1) = M * 2 ^ (E + KK).toNat + 2 ^ (E + KK).toNat ∧ vr (M - 9223372036854775808 + 1 + (E + 1048576) * 9223372036854775808 - 1) ≤ M * 2 ^ (E + KK).toNat - 2 ^ (E - 1 + KK).toNat := by
  have hk := KK_eq
  have pv : ∀ {q : Int}, 0 < q → vr q = vp q := fun {q} hq => by
    unfold vr
    rw [if_neg (by omega)]
  have ep2 : (2 : Int) ^ (E + KK).toNat = 2 ^ (E - 1 + KK).toNat * 2 := by
    rw [← Int.pow_succ]
    congr 1
    omega
  have hpp := p2pos (E - 1 + KK).toNat
  refine ⟨?_, ?_, ?_⟩
  · rw [pv (by omega), vp_fin h1 h2 (by omega)]
  · rw [pv (by omega)]
    by_cases hc : M = 18446744073709551615
    · have := vp_fin (M := 9223372036854775808) (E := E + 1) (by decide) (by decide) (by omega)
      rw [show M - 9223372036854775808 + 1 + (E + 1048576) * 9223372036854775808 + 1 = (9223372036854775808 : Int) - 9223372036854775808 + 1 + (E + 1 + 1048576) * 9223372036854775808 by omega, this, show (E + 1 + (KK : Int)).toNat = (E + KK).toNat + 1 by omega, Int.pow_succ, hc]
      omega
    · have := vp_fin (M := M + 1) (E := E) (by omega) (by omega) (by omega)
      rw [show M - 9223372036854775808 + 1 + (E + 1048576) * 9223372036854775808 + 1 = M + 1 - 9223372036854775808 + 1 + (E + 1048576) * 9223372036854775808 by omega, this, Int.add_mul, Int.one_mul]
  · by_cases hc : M = 9223372036854775808
    · have := vp_fin (M := 18446744073709551615) (E := E - 1) (by decide) (by decide) (by omega)
      rw [show M - 9223372036854775808 + 1 + (E + 1048576) * 9223372036854775808 - 1 = (18446744073709551615 : Int) - 9223372036854775808 + 1 + (E - 1 + 1048576) * 9223372036854775808 by omega, pv (by omega), this, hc, ep2]
      omega
    · have := vp_fin (M := M - 1) (E := E) (by omega) (by omega) (by omega)
      rw [show M - 9223372036854775808 + 1 + (E + 1048576) * 9223372036854775808 - 1 = M - 1 - 9223372036854775808 + 1 + (E + 1048576) * 9223372036854775808 by omega, pv (by omega), this, Int.sub_mul, Int.one_mul, ep2]
      omega
end Go.Proofs.YtbhnpmkdmnnclaaDoor

/-
  Sums of numbers far apart; half of twice as much. Plain arithmetic; no Go text.
-/
namespace Go.Proofs.YtbhnpmkdmnnclaaDoor
open Go.RowKit
set_option linter.unusedVariables false

theorem addp_spec {x y : Int} (up : Bool) (x1 : -19342822337206103650074625 < x) (x2 : x < 19342822337206103650074625) (y1 : -19342822337206103650074625 < y) (y2 : y < 19342822337206103650074625) : Dn (vr x + vr y) (addp false x y) ∧ Up (vr x + vr y) (addp true x y) := by
  obtain ⟨n, v⟩ := sum_spec x1 x2 y1 y2
  obtain ⟨a, b⟩ := rnd_spec n
  rw [v] at a b
  rw [addp_ff _ (infp_fin x1 x2) (infp_fin y1 y2), addp_ff _ (infp_fin x1 x2) (infp_fin y1 y2)]
  exact ⟨a, b⟩
end Go.Proofs.YtbhnpmkdmnnclaaDoor

/-
  Sums and products of two numbers within 128 bits: what is rounded of them is what is rounded of the exact ones, though far bits are told by one alone. Plain arithmetic; no Go text.
-/
namespace Go.Proofs.YtbhnpmkdmnnclaaDoor
open Go.RowKit
set_option linter.unusedVariables false

theorem wsg_f (x : Int) : sgi false x = x := if_neg (by decide)
theorem wsg_t (x : Int) : sgi true x = -x := if_pos rfl
/-- No place lies between: both are rounded alike. -/
theorem Dn.sep {A B a b r : Int} (h : Dn A r) (hA1 : a < A) (hA2 : A < b) (hB1 : a < B) (hB2 : B < b) (hs : ∀ s, ¬ (a < vr s ∧ vr s < b)) : Dn B r := by
  obtain ⟨h1, h2, h3, h4⟩ := h
  refine ⟨h1, h2, fun k => ?_, fun k => ?_⟩
  · have := h3 k
    have := hs r
    omega
  · have := h4 k
    have := hs (r + 1)
    omega
theorem sep_rnd {P Q : Int × Int} (up : Bool) (hP : Nf P) (hQ : Nf Q) {a b : Int} (hA1 : a < vl P) (hA2 : vl P < b) (hB1 : a < vl Q) (hB2 : vl Q < b) (hs : ∀ s, ¬ (a < vr s ∧ vr s < b)) : rnd up P.1 P.2 = rnd up Q.1 Q.2 := by
  obtain ⟨p1, p2⟩ := rnd_spec hP
  obtain ⟨q1, q2⟩ := rnd_spec hQ
  cases up
  · exact (p1.sep hA1 hA2 hB1 hB2 hs).uniq q1
  · refine Up.uniq (X := vl Q) ?_ q2
    refine Dn.sep (a := -b) (b := -a) p2 (by omega) (by omega) (by omega) (by omega) (fun s => ?_)
    have := hs (-s)
    rw [vr_neg] at this
    omega
theorem eq_rnd {P Q : Int × Int} (up : Bool) (hP : Nf P) (hQ : Nf Q) (h : vl P = vl Q) : rnd up P.1 P.2 = rnd up Q.1 Q.2 := by
  have a := rnd_monoA hP hQ (Int.le_of_eq h) up
  have b := rnd_monoA hQ hP (Int.le_of_eq h.symm) up
  exact Int.le_antisymm a b
theorem sep_sgi {P Q : Int × Int} {s : Bool} {A B a b : Int} (up : Bool) (hP : Nf P) (hQ : Nf Q) (eP : vl P = sgi s A) (eQ : vl Q = sgi s B) (hA1 : a < A) (hA2 : A < b) (hB1 : a < B) (hB2 : B < b) (hs : ∀ s, ¬ (a < vr s ∧ vr s < b)) : rnd up P.1 P.2 = rnd up Q.1 Q.2 := by
  cases s
  · rw [wsg_f] at eP eQ
    exact sep_rnd up hP hQ (a := a) (b := b) (by omega) (by omega) (by omega) (by omega) hs
  · rw [wsg_t] at eP eQ
    refine sep_rnd up hP hQ (a := -b) (b := -a) (by omega) (by omega) (by omega) (by omega) (fun t => ?_)
    have := hs (-t)
    rw [vr_neg] at this
    omega
theorem mk_vl {z e : Int} (h : z.natAbs < 2 ^ 128) (h1 : -3000000 ≤ e) (h2 : e ≤ 3000000) : vl (mk z e) = z * 2 ^ (e + KK).toNat := by
  obtain ⟨η, hη⟩ : ∃ η : Nat, η = 4000000 := ⟨_, rfl⟩
  refine (mk_fit (h := η) (by omega) (by omega) ?_).2
  have := Nat.mul_lt_mul_of_pos_right h (Nat.pow_pos (n := (e + (η : Int)).toNat) (show 0 < 2 by decide))
  rw [← Nat.pow_add] at this
  exact Nat.lt_of_lt_of_le this (Nat.pow_le_pow_right (by decide) (by omega))
/-- Far from nought no place lies between two even multiples. -/
theorem no_place {i : Int} {u : Nat} (hi : 21267647932558653966460912964485513216 ≤ i) (s : Int) : ¬ (2 * i * 2 ^ u < vr s ∧ vr s < (2 * i + 2) * 2 ^ u) := by
  rintro ⟨h1, h2⟩
  have hu := p2pos u
  have hpos : 0 < vr s := Int.lt_of_le_of_lt (Int.mul_nonneg (by omega) (Int.le_of_lt hu)) h1
  have hs : 0 < s := by
    rcases Int.lt_or_le 0 s with q | q
    · exact q
    · exfalso
      have := vr_le q
      rw [show vr 0 = 0 from rfl] at this
      omega
  have e0 : vr s = ((s - 1) % 9223372036854775808 + 9223372036854775808) * 2 ^ ((s - 1) / 9223372036854775808 - 1048576 + KK).toNat := by
    unfold vr vp
    rw [if_neg (by omega), if_neg (by omega)]
  obtain ⟨M, hM⟩ : ∃ M, (s - 1) % 9223372036854775808 + 9223372036854775808 = M := ⟨_, rfl⟩
  obtain ⟨t, ht⟩ : ∃ t, ((s - 1) / 9223372036854775808 - 1048576 + (KK : Int)).toNat = t := ⟨_, rfl⟩
  rw [hM, ht] at e0
  have hMl : M < 18446744073709551616 := by omega
  rw [e0] at h1 h2
  clear e0 hM ht hs hpos
  rcases Nat.lt_or_ge u t with q | q
  · obtain ⟨d, rfl⟩ : ∃ d, t = u + 1 + d := ⟨t - (u + 1), by omega⟩
    have e1 : M * 2 ^ (u + 1 + d) = M * 2 ^ d * 2 * 2 ^ u := by
      rw [Int.pow_add, Int.pow_succ]
      generalize (2 : Int) ^ u = U
      generalize (2 : Int) ^ d = D
      rw [Int.mul_assoc M D 2, Int.mul_assoc M, Int.mul_comm U 2, Int.mul_comm (2 * U) D, Int.mul_assoc D 2 U]
    rw [e1] at h1 h2
    have a1 := Int.lt_of_mul_lt_mul_right h1 (Int.le_of_lt hu)
    have a2 := Int.lt_of_mul_lt_mul_right h2 (Int.le_of_lt hu)
    omega
  · obtain ⟨d, rfl⟩ : ∃ d, u = t + d := ⟨u - t, by omega⟩
    have ht := p2pos t
    have hd := p2pos d
    rw [Int.pow_add] at h1
    have l1 : (2 : Int) ^ t * 1 ≤ 2 ^ t * 2 ^ d := Int.mul_le_mul_of_nonneg_left hd (Int.le_of_lt ht)
    rw [Int.mul_one] at l1
    have l2 : 2 * i * (2 : Int) ^ t ≤ 2 * i * (2 ^ t * 2 ^ d) := Int.mul_le_mul_of_nonneg_left l1 (by omega)
    have a1 := Int.lt_of_mul_lt_mul_right (Int.lt_of_le_of_lt l2 h1) (Int.le_of_lt ht)
    omega
/-- A word moved down by n, which is 1 or more, within 128 bits: bits that go beyond are told by the lowest one. -/
def mvd (M : Int) (n : Nat) : Int := if n ≤ 64 then M * 2 ^ (64 - n) else if M % 2 ^ (n - 64) = 0 then M / 2 ^ (n - 64) else M / 2 ^ (n - 64) / 2 * 2 + 1
theorem p2_le {a b : Nat} (h : a ≤ b) : (2 : Int) ^ a ≤ 2 ^ b := by
  have := Nat.pow_le_pow_right (show 0 < 2 by decide) h
  exact_mod_cast this
theorem div_le_self {M p : Int} (h0 : 0 ≤ M) (hp : 0 < p) : 0 ≤ M / p ∧ M / p ≤ M := ⟨Int.ediv_nonneg h0 (Int.le_of_lt hp), Int.ediv_le_self _ h0⟩
theorem mvd_bd {M : Int} {n : Nat} (h0 : 0 ≤ M) (hM : M < 18446744073709551616) (hn : 1 ≤ n) : 0 ≤ mvd M n ∧ mvd M n ≤ M * 9223372036854775808 + 1 ∧ mvd M n < 170141183460469231731687303715884105728 ∧ (2 ≤ n → mvd M n < 85070591730234615865843651857942052864) := by
  unfold mvd
  by_cases h : n ≤ 64
  · rw [if_pos h]
    have l1 := p2_le (show 64 - n ≤ 63 by omega)
    have l0 := p2pos (64 - n)
    have a1 := Int.mul_le_mul_of_nonneg_left l1 h0
    rw [show (2 : Int) ^ 63 = 9223372036854775808 by decide] at a1
    refine ⟨Int.mul_nonneg h0 (Int.le_of_lt l0), by omega, by omega, fun h2 => ?_⟩
    have l2 := p2_le (show 64 - n ≤ 62 by omega)
    have a2 := Int.mul_le_mul_of_nonneg_left l2 h0
    rw [show (2 : Int) ^ 62 = 4611686018427387904 by decide] at a2
    omega
  · rw [if_neg h]
    obtain ⟨b1, b2⟩ := div_le_self h0 (p2pos (n - 64))
    revert b1 b2
    generalize M / 2 ^ (n - 64) = q
    intro b1 b2
    by_cases hr : M % 2 ^ (n - 64) = 0
    · rw [if_pos hr]
      refine ⟨by omega, by omega, by omega, fun _ => by omega⟩
    · rw [if_neg hr]
      refine ⟨by omega, by omega, by omega, fun _ => by omega⟩
theorem fq_vr {s : Bool} {M E x : Int} (q : Fq 1 s M E x) : 9223372036854775808 ≤ M ∧ M < 18446744073709551616 ∧ -1048576 ≤ E ∧ E ≤ 1048576 ∧ -19342822337206103650074625 < x ∧ x < 19342822337206103650074625 ∧ x ≠ 0 ∧ vr x = sgi s (M * 2 ^ (E + KK).toNat) ∧ decide (x < 0) = s := by
  rcases q.cases with ⟨c, _⟩ | ⟨_, h1, h2, h3, h4, h5⟩ | ⟨c, _⟩
  · exact absurd c (by decide)
  · have hv := vp_fin h1 h2 h3
    have hx : x = sgi s (M - 9223372036854775808 + 1 + (E + 1048576) * 9223372036854775808) := by
      rcases h5 with ⟨rfl, h5⟩ | ⟨rfl, h5⟩
      · rw [wsg_f]; omega
      · rw [wsg_t]; omega
    have hw : vr x = sgi s (M * 2 ^ (E + KK).toNat) := by
      rw [hx, vp_vr s (by omega), hv]
    refine ⟨h1, h2, h3, h4, ?_, ?_, ?_, hw, ?_⟩
    · rcases h5 with ⟨_, h5⟩ | ⟨_, h5⟩ <;> omega
    · rcases h5 with ⟨_, h5⟩ | ⟨_, h5⟩ <;> omega
    · rcases h5 with ⟨_, h5⟩ | ⟨_, h5⟩ <;> omega
    · rcases h5 with ⟨rfl, h5⟩ | ⟨rfl, h5⟩
      · exact decide_eq_false (by omega)
      · exact decide_eq_true (by omega)
  · exact absurd c (by decide)
theorem sgi_add (s t : Bool) (x y : Int) : sgi s x + sgi t y = sgi s (x + sgi (s != t) y) := by
  cases s <;> cases t
  · rw [show (false != false) = false from rfl, wsg_f, wsg_f, wsg_f]
  · rw [show (false != true) = true from rfl, wsg_f, wsg_t, wsg_f]
  · rw [show (true != false) = true from rfl, wsg_t, wsg_f, wsg_t, wsg_t]; omega
  · rw [show (true != true) = false from rfl, wsg_t, wsg_t, wsg_f, wsg_t]; omega
theorem sgi_abs (s : Bool) {S : Int} (h : 0 ≤ S) : (sgi s S).natAbs = S.toNat := by
  cases s
  · rw [wsg_f]; omega
  · rw [wsg_t]; omega
/-- The sum of two, of which the first one is not nearer to nought. -/
theorem sum_wide {s1 s2 : Bool} {M1 M2 E1 E2 x y S : Int} {n : Nat} (up : Bool) (q1 : Fq 1 s1 M1 E1 x) (q2 : Fq 1 s2 M2 E2 y) (h : E2 < E1 ∨ E2 = E1 ∧ M2 ≤ M1) (hn : (n : Int) = E1 - E2 + 1) (hS : S = M1 * 9223372036854775808 + sgi (s1 != s2) (mvd M2 n)) :
    0 ≤ S ∧ S < 340282366920938463463374607431768211456 ∧ rnd up (mk (sgi s1 S) (E1 - 63)).1 (mk (sgi s1 S) (E1 - 63)).2 = addp up x y := by
  obtain ⟨a1, a2, a3, a4, a5, a6, a7, a8, a9⟩ := fq_vr q1
  obtain ⟨b1, b2, b3, b4, b5, b6, b7, b8, b9⟩ := fq_vr q2
  obtain ⟨m0, m1, m2, m3⟩ := mvd_bd (M := M2) (n := n) (by omega) b2 (by omega)
  have hk := KK_eq
  have hone : n = 1 → mvd M2 n = M2 * 9223372036854775808 := by
    rintro rfl
    unfold mvd
    rw [if_pos (by decide)]
    rfl
  have hS0 : 0 ≤ S ∧ S < 340282366920938463463374607431768211456 := by
    rw [hS]
    cases hs : s1 != s2
    · rw [wsg_f]; omega
    · rw [wsg_t]
      by_cases c : n = 1
      · have := hone c
        omega
      · have := m3 (by omega)
        omega
  refine ⟨hS0.1, hS0.2, ?_⟩
  rw [addp_ff up (infp_fin a5 a6) (infp_fin b5 b6)]
  obtain ⟨nf, ev⟩ := sum_spec a5 a6 b5 b6
  have nfP := mk_nf (sgi s1 S) (E1 - 63)
  have evP := mk_vl (z := sgi s1 S) (e := E1 - 63) (by rw [sgi_abs s1 hS0.1]; omega) (by omega) (by omega)
  obtain ⟨u, hu⟩ : ∃ u : Nat, (E1 - 63 + (KK : Int)).toNat = u := ⟨_, rfl⟩
  obtain ⟨v, hv⟩ : ∃ v : Nat, (E2 + (KK : Int)).toNat = v := ⟨_, rfl⟩
  have e1 : (E1 + (KK : Int)).toNat = 63 + u := by omega
  rw [hu] at evP
  rw [e1, Int.pow_add, show (2 : Int) ^ 63 = 9223372036854775808 by decide, ← Int.mul_assoc] at a8
  rw [hv] at b8
  rw [a8, b8, sgi_add] at ev
  rw [sgi_mul, hS, Int.add_mul, sgi_mul] at evP
  rw [hS]
  rw [hS] at nfP
  by_cases c : n ≤ 64
  · have e2 : mvd M2 n * 2 ^ u = M2 * 2 ^ v := by
      unfold mvd
      rw [if_pos c, Int.mul_assoc, ← Int.pow_add]
      congr 2
      omega
    exact eq_rnd up nfP nf (by rw [evP, ev, e2])
  · have ek : u = v + (n - 64) := by omega
    by_cases hr : M2 % 2 ^ (n - 64) = 0
    · have e2 : mvd M2 n * 2 ^ u = M2 * 2 ^ v := by
        unfold mvd
        rw [if_neg c, if_pos hr, ek, Int.pow_add, Int.mul_comm (2 ^ v), ← Int.mul_assoc]
        congr 1
        exact Int.ediv_mul_cancel (Int.dvd_of_emod_eq_zero hr)
      exact eq_rnd up nfP nf (by rw [evP, ev, e2])
    · have hm : mvd M2 n = M2 / 2 ^ (n - 64) / 2 * 2 + 1 := by
        unfold mvd
        rw [if_neg c, if_neg hr]
      have hd := Int.mul_ediv_add_emod M2 (2 ^ (n - 64))
      have hp := p2pos (n - 64)
      have r0 := Int.emod_nonneg M2 (Int.ne_of_gt hp)
      have r1 := Int.emod_lt_of_pos M2 hp
      obtain ⟨d1, d2⟩ := div_le_self (show 0 ≤ M2 by omega) hp
      have hpv := p2pos v
      have hpu := p2pos u
      rw [hm] at evP nfP ⊢
      rw [hm] at m0 m1
      clear hone hS0 m2 m3 hS hm
      generalize M2 % 2 ^ (n - 64) = r at hd r0 r1 hr
      generalize M2 / 2 ^ (n - 64) = q at hd d1 d2 evP nfP m0 m1 ⊢
      have hU : (2 : Int) ^ u = 2 ^ (n - 64) * 2 ^ v := by rw [ek, Int.pow_add, Int.mul_comm]
      obtain ⟨j, hj⟩ : ∃ j, q / 2 = j := ⟨_, rfl⟩
      rw [hj] at evP nfP m0 m1 ⊢
      -- the exact one lies between 2 j and 2 j + 2
      have y1 : 2 * j * 2 ^ u < M2 * 2 ^ v := by
        rw [hU, ← Int.mul_assoc]
        refine Int.mul_lt_mul_of_pos_right ?_ hpv
        have l1 : 2 * j * 2 ^ (n - 64) ≤ q * 2 ^ (n - 64) := Int.mul_le_mul_of_nonneg_right (by omega) (Int.le_of_lt hp)
        rw [Int.mul_comm q] at l1
        omega
      have y2 : M2 * 2 ^ v < (2 * j + 2) * 2 ^ u := by
        rw [hU, ← Int.mul_assoc]
        refine Int.mul_lt_mul_of_pos_right ?_ hpv
        have l1 : (q + 1) * 2 ^ (n - 64) ≤ (2 * j + 2) * 2 ^ (n - 64) := Int.mul_le_mul_of_nonneg_right (by omega) (Int.le_of_lt hp)
        rw [Int.add_mul, Int.one_mul, Int.mul_comm q] at l1
        omega
      have z1 : 2 * j * 2 ^ u < (j * 2 + 1) * 2 ^ u := Int.mul_lt_mul_of_pos_right (by omega) hpu
      have z2 : (j * 2 + 1) * 2 ^ u < (2 * j + 2) * 2 ^ u := Int.mul_lt_mul_of_pos_right (by omega) hpu
      revert y1 y2 z1 z2 ev evP
      generalize M2 * 2 ^ v = Y
      generalize hZ : (j * 2 + 1) * 2 ^ u = Z
      intro ev evP y1 y2 z1 z2
      cases hs : s1 != s2
      · rw [hs] at ev evP nfP
        rw [wsg_f] at ev nfP ⊢
        rw [wsg_f, wsg_f] at evP
        have f1 : 2 * (M1 * 4611686018427387904 + j) * 2 ^ u = M1 * 9223372036854775808 * 2 ^ u + 2 * j * 2 ^ u := by rw [← Int.add_mul]; congr 1; omega
        have f2 : (2 * (M1 * 4611686018427387904 + j) + 2) * 2 ^ u = M1 * 9223372036854775808 * 2 ^ u + (2 * j + 2) * 2 ^ u := by rw [← Int.add_mul]; congr 1; omega
        refine sep_sgi up nfP nf evP ev (a := 2 * (M1 * 4611686018427387904 + j) * 2 ^ u) (b := (2 * (M1 * 4611686018427387904 + j) + 2) * 2 ^ u) ?_ ?_ ?_ ?_ (no_place (by omega))
        · rw [f1]; omega
        · rw [f2]; omega
        · rw [f1]; omega
        · rw [f2]; omega
      · rw [hs] at ev evP nfP
        rw [wsg_t] at ev nfP ⊢
        rw [wsg_t, wsg_t] at evP
        have f1 : 2 * (M1 * 4611686018427387904 - j - 1) * 2 ^ u = M1 * 9223372036854775808 * 2 ^ u - (2 * j + 2) * 2 ^ u := by rw [← Int.sub_mul]; congr 1; omega
        have f2 : (2 * (M1 * 4611686018427387904 - j - 1) + 2) * 2 ^ u = M1 * 9223372036854775808 * 2 ^ u - 2 * j * 2 ^ u := by rw [← Int.sub_mul]; congr 1; omega
        refine sep_sgi up nfP nf evP ev (a := 2 * (M1 * 4611686018427387904 - j - 1) * 2 ^ u) (b := (2 * (M1 * 4611686018427387904 - j - 1) + 2) * 2 ^ u) ?_ ?_ ?_ ?_ (no_place (by omega))
        · rw [f1]; omega
        · rw [f2]; omega
        · rw [f1]; omega
        · rw [f2]; omega
/-- The product of two. -/
theorem pro_wide {s1 s2 : Bool} {M1 M2 E1 E2 x y : Int} (up : Bool) (q1 : Fq 1 s1 M1 E1 x) (q2 : Fq 1 s2 M2 E2 y) :
    0 ≤ M1 * M2 ∧ M1 * M2 < 340282366920938463463374607431768211456 ∧ rnd up (mk (sgi (s1 != s2) (M1 * M2)) (E1 + E2)).1 (mk (sgi (s1 != s2) (M1 * M2)) (E1 + E2)).2 = mulp up x y := by
  obtain ⟨a1, a2, a3, a4, a5, a6, a7, a8, a9⟩ := fq_vr q1
  obtain ⟨b1, b2, b3, b4, b5, b6, b7, b8, b9⟩ := fq_vr q2
  have hk := KK_eq
  have h0 : 0 ≤ M1 * M2 := Int.mul_nonneg (by omega) (by omega)
  have h1 : M1 * M2 < 340282366920938463463374607431768211456 := by
    have l1 : M1 * M2 ≤ 18446744073709551615 * M2 := Int.mul_le_mul_of_nonneg_right (by omega) (by omega)
    omega
  refine ⟨h0, h1, ?_⟩
  rw [mulp_fin up (by omega) (by rw [infp_fin a5 a6, infp_fin b5 b6]; simp)]
  obtain ⟨nf, ev⟩ := pro_spec a5 a6 b5 b6
  have nfP := mk_nf (sgi (s1 != s2) (M1 * M2)) (E1 + E2)
  have evP := mk_vl (z := sgi (s1 != s2) (M1 * M2)) (e := E1 + E2) (by rw [sgi_abs _ h0]; omega) (by omega) (by omega)
  refine eq_rnd up nfP nf ?_
  refine Int.eq_of_mul_eq_mul_right (Int.ne_of_gt (p2pos KK)) ?_
  rw [ev, evP, a8, b8, Int.mul_assoc, ← Int.pow_add, show (E1 + E2 + (KK : Int)).toNat + KK = (E1 + (KK : Int)).toNat + (E2 + (KK : Int)).toNat by omega, Int.pow_add]
  generalize (2 : Int) ^ (E1 + (KK : Int)).toNat = U
  generalize (2 : Int) ^ (E2 + (KK : Int)).toNat = V
  have e : ∀ a b : Int, a * b * (U * V) = a * U * (b * V) := fun a b => by
    rw [Int.mul_assoc, Int.mul_assoc, ← Int.mul_assoc b, Int.mul_comm b U, Int.mul_assoc U]
  cases s1 <;> cases s2
  · rw [show (false != false) = false from rfl, wsg_f, wsg_f, wsg_f]; exact e _ _
  · rw [show (false != true) = true from rfl, wsg_f, wsg_t, wsg_t, Int.neg_mul, Int.mul_neg]; rw [e]
  · rw [show (true != false) = true from rfl, wsg_f, wsg_t, wsg_t, Int.neg_mul, Int.neg_mul]; rw [e]
  · rw [show (true != true) = false from rfl, wsg_f, wsg_t, wsg_t, Int.neg_mul, Int.mul_neg, Int.neg_neg]; exact e _ _
end Go.Proofs.YtbhnpmkdmnnclaaDoor

/-
  A number of 128 bits, raised to its highest bit; the place next to it, and what it is rounded to. Plain arithmetic; no Go text.
-/
namespace Go.Proofs.YtbhnpmkdmnnclaaDoor
open Go.RowKit
set_option linter.unusedVariables false

theorem raise_top {h l : Nat} (h0 : h ≠ 0) (hh : h < 18446744073709551616) :
    blen (h * 18446744073709551616 + l) = 64 + blen h ∨ 18446744073709551616 ≤ l := by
  rcases Nat.lt_or_ge l 18446744073709551616 with hl | hl
  · left
    have := blen_shift (h * 18446744073709551616 + l) 64 (by omega)
    rw [this]
    congr 2
    omega
  · exact .inr hl
/-- Raised: the 64 highest bits, whether there is something behind them, and how far. -/
def Ra (S : Nat) (F T K X : Int) : Prop := 0 ≤ T ∧ T < 18446744073709551616 ∧ 0 ≤ K ∧ K < 18446744073709551616 ∧ T = (tp S : Nat) ∧ (S ≠ 0 → X = xp S F ∧ (K = 0 ↔ tp S * 2 ^ blen S = S * 2 ^ 64))
theorem ra_low {l : Nat} {e : Int} (hl : l < 18446744073709551616) : Ra l (e - 64) ((l * 2 ^ (64 - blen l) : Nat) : Int) 0 (e - 64 - (64 - (blen l : Int))) := by
  have hb := blen_mono_le (n := l) (k := 64) hl
  have ht := tp_small hb
  have h2 := tp_lt l
  rw [ht] at h2
  refine ⟨by omega, by omega, by omega, by omega, by rw [ht], fun h0 => ⟨by unfold xp; omega, fun _ => ?_, fun _ => rfl⟩⟩
  rw [ht, Nat.mul_assoc, ← Nat.pow_add]
  congr 2
  omega
theorem ra_high {h l : Nat} {e : Int} (h0 : h ≠ 0) (hh : h < 18446744073709551616) (hl : l < 18446744073709551616) :
    Ra (h * 18446744073709551616 + l) (e - 64) ((h * 2 ^ (64 - blen h) + l / 2 ^ blen h : Nat) : Int) ((l * 2 ^ (64 - blen h) % 18446744073709551616 : Nat) : Int) (e - (64 - (blen h : Int))) := by
  have hb := blen_mono_le (n := h) (k := 64) hh
  have hbs : blen (h * 18446744073709551616 + l) = 64 + blen h := by
    rcases raise_top (l := l) h0 hh with q | q
    · exact q
    · omega
  have hp : 0 < 2 ^ blen h := Nat.pow_pos (by decide)
  have hn : 2 ^ 64 = 2 ^ (64 - blen h) * 2 ^ blen h := by rw [← Nat.pow_add]; congr 1; omega
  have hn' : (18446744073709551616 : Nat) = 2 ^ blen h * 2 ^ (64 - blen h) := by rw [Nat.mul_comm, ← hn]
  have ht : tp (h * 18446744073709551616 + l) = h * 2 ^ (64 - blen h) + l / 2 ^ blen h := by
    unfold tp
    rw [hbs, Nat.pow_add, Nat.mul_comm (2 ^ 64) (2 ^ blen h), Nat.mul_div_mul_right _ _ (Nat.pow_pos (by decide)), hn', show h * (2 ^ blen h * 2 ^ (64 - blen h)) = 2 ^ blen h * (h * 2 ^ (64 - blen h)) by rw [← Nat.mul_assoc, Nat.mul_comm h, Nat.mul_assoc], Nat.mul_add_div hp]
  have hm : l * 2 ^ (64 - blen h) % 18446744073709551616 = l % 2 ^ blen h * 2 ^ (64 - blen h) := by
    rw [hn', Nat.mul_mod_mul_right]
  have ht2 := tp_lt (h * 18446744073709551616 + l)
  have hml := Nat.mod_lt (l * 2 ^ (64 - blen h)) (show 0 < 18446744073709551616 by decide)
  refine ⟨by omega, by omega, by omega, by omega, by rw [ht], fun _ => ⟨?_, ?_⟩⟩
  · unfold xp
    rw [hbs]
    omega
  · rw [hm, hbs, ht, Nat.pow_add, Nat.mul_comm (2 ^ 64) (2 ^ blen h), ← Nat.mul_assoc]
    have hd := Nat.div_add_mod l (2 ^ blen h)
    have hS : h * 18446744073709551616 + l = (h * 2 ^ (64 - blen h) + l / 2 ^ blen h) * 2 ^ blen h + l % 2 ^ blen h := by
      rw [Nat.add_mul, Nat.mul_assoc h, ← hn, Nat.mul_comm (l / 2 ^ blen h), Nat.add_assoc, hd]
    rw [hS]
    have hp2 : 0 < 2 ^ (64 - blen h) := Nat.pow_pos (by decide)
    revert hS
    generalize (h * 2 ^ (64 - blen h) + l / 2 ^ blen h) * 2 ^ blen h = Z
    generalize l % 2 ^ blen h = m
    intro _
    constructor
    · intro q
      have q1 : m * 2 ^ (64 - blen h) = 0 := by exact_mod_cast q
      have q2 : m = 0 := by
        rcases Nat.mul_eq_zero.1 q1 with c | c
        · exact c
        · omega
      rw [q2, Nat.add_zero]
    · intro q
      have q1 : Z = Z + m := Nat.eq_of_mul_eq_mul_right (show 0 < 2 ^ 64 by decide) q
      have q2 : m = 0 := by omega
      rw [q2, Nat.zero_mul]
      rfl
/-- Is the place next to it that number itself? -/
def exw (S : Nat) (F : Int) : Bool := S == 0 || (decide (xp S F ≤ 1048576) && (decide (-1048576 ≤ xp S F) && decide (tp S * 2 ^ blen S = S * 2 ^ 64)))
theorem exw_odd {m : Nat} (ho : m % 2 = 1) (t : Nat) (F : Int) : exw (m * 2 ^ t) F = ext m (F + t) := by
  have h0 : m ≠ 0 := by omega
  have h2 : m * 2 ^ t ≠ 0 := Nat.mul_ne_zero h0 (Nat.ne_of_gt (Nat.pow_pos (by decide)))
  have ex : xp (m * 2 ^ t) F = xp m (F + t) := by
    unfold xp
    rw [blen_mul h0]
    omega
  have e1 : (m * 2 ^ t == 0) = false := by simpa using h2
  have e2 : (m == 0) = false := by simpa using h0
  have e3 : (tp (m * 2 ^ t) * 2 ^ blen (m * 2 ^ t) = m * 2 ^ t * 2 ^ 64) ↔ blen m ≤ 64 := by
    rw [tp_mul h0, blen_mul h0, Nat.pow_add, ← Nat.mul_assoc, Nat.mul_right_comm m]
    constructor
    · intro q
      have q1 := Nat.eq_of_mul_eq_mul_right (Nat.pow_pos (n := t) (show 0 < 2 by decide)) q
      rcases Nat.lt_or_ge 64 (blen m) with c | c
      · exfalso
        rw [show 2 ^ blen m = 2 ^ (blen m - 65) * 2 * 2 ^ 64 by rw [← Nat.pow_succ, ← Nat.pow_add]; congr 1; omega, ← Nat.mul_assoc] at q1
        have q2 := Nat.eq_of_mul_eq_mul_right (show 0 < 2 ^ 64 by decide) q1
        rw [← Nat.mul_assoc] at q2
        omega
      · exact c
    · intro c
      rw [tp_small c, Nat.mul_assoc m, ← Nat.pow_add, show 64 - blen m + blen m = 64 by omega]
  unfold exw ext
  rw [ex, e1, e2, decide_eq_decide.2 e3]
theorem wide_rnd {S : Nat} {F N E : Int} {neg : Bool} (hS : S < 340282366920938463463374607431768211456) (h1 : -3000000 ≤ F) (h2 : F ≤ 3000000) (hN : (mk (sgi neg (S : Int)) F).1 = N) (hE : (mk (sgi neg (S : Int)) F).2 = E) :
    (exw S F = true → ∀ up, rnd up N E = sgi neg (lo S F)) ∧ rnd neg N E = sgi neg (lo S F) ∧ (exw S F = false → rnd (!neg) N E = nx (!neg) (sgi neg (lo S F))) := by
  by_cases h0 : S = 0
  · subst h0
    have e0 : sgi neg ((0 : Nat) : Int) = 0 := by cases neg <;> rfl
    rw [e0, mk_zero] at hN hE
    subst hN
    subst hE
    have e1 : sgi neg (lo 0 F) = 0 := by
      have : lo 0 F = 0 := by
        unfold lo
        rw [if_pos rfl]
      rw [this]
      cases neg <;> rfl
    have e2 : exw 0 F = true := by
      unfold exw
      rfl
    rw [e1, e2]
    exact ⟨fun _ up => rnd_nought up, rnd_nought neg, fun c => absurd c (by decide)⟩
  · have hab : (sgi neg (S : Int)).natAbs = S := by rw [sgi_abs neg (by omega)]; omega
    obtain ⟨s1, s2⟩ := v2_spec S h0
    have hv : v2 S < 128 := by
      have h3 := v2_pow_le h0
      have h4 : 2 ^ v2 S < 2 ^ 128 := by omega
      exact (Nat.pow_lt_pow_iff_right (by decide)).1 h4
    have hz : sgi neg (S : Int) ≠ 0 := by
      intro c
      rw [c] at hab
      exact h0 hab.symm
    obtain ⟨m1, m2, m3, m4, m5⟩ := mk_in (z := sgi neg (S : Int)) (e := F) hz (by omega) (by rw [hab]; omega)
    rw [hab] at m1 m2
    rw [hE] at m1
    rw [hN] at m2 m3
    have hsn : neg = decide (N < 0) := by
      cases neg
      · rw [wsg_f] at m3
        exact (decide_eq_false (by omega)).symm
      · rw [wsg_t] at m3
        exact (decide_eq_true (by omega)).symm
    have hx : exw S F = ext N.natAbs E := by
      rw [m2, m1]
      conv => lhs; rw [s1]
      exact exw_odd s2 _ F
    have hl : lo S F = lo N.natAbs E := by
      rw [m2, m1]
      conv => lhs; rw [s1]
      exact lo_mul (by omega) _ F
    rw [hx, hl]
    refine ⟨fun c up => ?_, ?_, fun c => ?_⟩
    · rw [rnd_ext c, ← hsn]
    · exact rnd_same hsn rfl
    · rw [rnd_diff hsn, nx_lo neg c]
end Go.Proofs.YtbhnpmkdmnnclaaDoor

/-
  What the document's Fair, Add, Mul, Sub, Half, Twice of layer 6 do.
-/
namespace Go.Proofs.YtbhnpmkdmnnclaaDoor
open Go.RowKit
set_option linter.unusedVariables false
set_option linter.unusedSimpArgs false
set_option maxRecDepth 100000

theorem fq_inf {D : Int} {s : Bool} {M E x : Int} (q : Fq D s M E x) : infp x = (D == 2) := by
  have htp := TP_eq
  rcases q.cases with ⟨rfl, rfl, rfl, rfl, h0⟩ | ⟨rfl, h1, h2, h3, h4, ⟨rfl, h5⟩ | ⟨rfl, h5⟩⟩ | ⟨rfl, rfl, rfl, ⟨rfl, h5⟩ | ⟨rfl, h5⟩⟩ <;> unfold infp <;> rw [Bool.eq_iff_iff] <;> simp <;> omega
theorem fq_fin {D : Int} {s : Bool} {M E x : Int} (q : Fq D s M E x) (h : D ≠ 2) : 0 ≤ M ∧ exb D s M E = true ∧ exq D s M E = ep x := by
  have hb : exb D s M E = true := by
    unfold exb
    rw [decide_eq_true q.1, Bool.true_and]
    simpa using h
  exact ⟨by rcases q.cases with ⟨_, _, h, _⟩ | ⟨_, h, _⟩ | ⟨_, h, _⟩ <;> omega, hb, exq_ep q hb⟩
theorem fq_same {s s' : Bool} {M M' E E' x y : Int} (q : Fq 2 s M E x) (q' : Fq 2 s' M' E' y) : x = y ↔ s = s' := by
  have htp := TP_eq
  rcases q.cases with ⟨h, _⟩ | ⟨h, _⟩ | ⟨_, rfl, rfl, ⟨rfl, h5⟩ | ⟨rfl, h5⟩⟩
  · omega
  · omega
  all_goals
    rcases q'.cases with ⟨h, _⟩ | ⟨h, _⟩ | ⟨_, rfl, rfl, ⟨rfl, k5⟩ | ⟨rfl, k5⟩⟩
    · omega
    · omega
    · constructor <;> intro e <;> first | rfl | omega | exact absurd e (by decide)
    · constructor <;> intro e <;> first | rfl | omega | exact absurd e (by decide)
end Go.Proofs.YtbhnpmkdmnnclaaDoor

/-
  What every statement of layer 5 begins with: the chapter's examples.
-/
namespace Go.Proofs.YtbhnpmkdmnnclaaDoor
open Go.RowKit
set_option linter.unusedVariables false
set_option linter.unusedSimpArgs false
set_option maxRecDepth 100000

theorem blen_one : blen 1 = 1 := blen_uniq (k := 0) (by decide) (by decide) (by decide)
theorem tp_one1 : tp 1 = 9223372036854775808 := by
  rw [tp_small (by rw [blen_one]; decide), blen_one]
theorem fq_one : Fq 1 false 9223372036854775808 (-63) (sgi (decide ((1 : Int) < 0)) (lo (1 : Int).natAbs 0)) := by
  have := of_fq (n := 1) (by decide) (by decide) (by decide)
  rw [show (1 : Int).natAbs = 1 from rfl, tp_one1, blen_one] at this
  exact this
end Go.Proofs.YtbhnpmkdmnnclaaDoor
