/-
  Contracts and words that the statements' proofs rest on, several texts in one: Uh, Uj, Uk.
-/
import Derived.Deep.DeepCutAuto
import Derived.Test.YtdfnjhkcicnkpaaGreatDoorZbd
/-
  What pelorusref04.Parse answers.
-/
namespace Go.Proofs.YtdfnjhkcicnkpaaGreatDoor
open Go.RowKit
set_option linter.unusedVariables false
set_option linter.unusedSimpArgs false
set_option maxRecDepth 100000

theorem sl_two {l m : List UInt8} {i j : Nat} {x y : Int} (hx : x = i) (hy : y = j) (h1 : i ≤ j) (h2 : j ≤ l.length) (hm : (l.drop i).take (j - i) = m) (w : World) : (Instr.slice 9 (.string (st l)) (some (.int .i64 x)) (some (.int .i64 y)) none).run Tryz.prog w = .ok (.string (st m)) w := by
  subst hx; subst hy; subst hm
  rw [run_slice_string w 9 (st l) .i64 .i64 _ _ Tryz.underlying9 (by omega) (by omega) (by rw [st_size]; omega), Lib.extract_eq, st_data]
  simp only [Int.toNat_natCast]
theorem uPowerZ {l m : List UInt8} {a : Nat} {z : Int} {o : Option Int} (w : World) (hz : z = a) (ha : a ≤ l.length) (hl : l.length ≤ 1000) (hm : l.drop a = m) (ho : tpow m = o) : Calls Tryz.prog 29 #[.string (st l), .int .i64 z] w (PZ w (powV o).1 (powV o).2) := by
  subst hz; subst hm; subst ho
  exact uPower l a w ha hl
theorem uMakeW {w : World} {A : Option Addr} {n c : Nat} {s : Bool} {z t : Int} {r : (Int × Int) × Int} (h : Wr w s A n c z) (hn : n ≤ 1000) (hr : mkA z t = r) : Calls Tryz.prog 13 #[.agg #[.bool s, .slice A n c], .int .i64 t] w (PD w r) := by
  obtain ⟨a, h, e⟩ := h
  exact uMake h hn e hr
/-- What is left behind the leading digits. -/
def restR (s : Bool) (n : Nat) (F R : List UInt8) : Option (Bool × List UInt8 × Int) := match tfrac R with
  | none => none
  | some (b, l2) => match tpow l2 with
    | none => none
    | some e => if n + b.length ≤ 40 then some (s, F ++ b, e - b.length) else none
theorem tparse_none {l : List UInt8} (hl : l.length ≤ 100) (h : tread l = none) : tparse l = ((0, 0), 2) := by
  unfold tparse
  rw [if_neg (by omega), h]
theorem neg_parts (l : List UInt8) : ∃ (p : Bool) (a : Nat), a ≤ l.length ∧ Lib.hasPrefix l [45] = p ∧ Lib.trimPrefix l [45] = l.drop a ∧ ((l = [] ∧ p = false ∧ a = 0) ∨ (∃ c : Nat, 0 < l.length ∧ (∀ w, (Instr.index 9 (.string (st l)) (.int .i64 0)).run Tryz.prog w = .ok (.int .u8 (c : Int)) w) ∧ ((c : Int) == 45) = p ∧ a = if p then 1 else 0)) := by
  cases l with
  | nil => exact ⟨false, 0, by simp, rfl, rfl, .inl ⟨rfl, rfl, rfl⟩⟩
  | cons x l =>
    have hix := fun w => ix_head x l w
    by_cases hx : x = 45
    · subst hx
      obtain ⟨e1, e2⟩ := pre_yes l 45
      exact ⟨true, 1, by simp, e1, by rw [e2]; rfl, .inr ⟨45, by simp, hix, rfl, rfl⟩⟩
    · obtain ⟨e1, e2⟩ := pre_no (l := x :: l) (c := 45) (by simpa using hx)
      refine ⟨false, 0, by simp, e1, by rw [e2]; rfl, .inr ⟨x.toNat, by simp, hix, ?_, rfl⟩⟩
      have : x.toNat ≠ 45 := fun e => hx (UInt8.toNat.inj (by rw [e]; rfl))
      simp; omega

set_option maxHeartbeats 2000000 in
theorem uParse_long (l : List UInt8) (w : World) (hl : 100 < l.length) : Calls Tryz.prog 10 #[.string (st l)] w (PD w ((0, 0), 3)) := by
  have hsz : (st l).size = l.length := st_size l
  obtain ⟨d, hd⟩ : ∃ d, l.length = d := ⟨_, rfl⟩
  rw [hd] at hsz hl
  have t1 : decide ((100 : Int) < (d : Int)) = true := by simp; omega
  clear hd
  go_enter Tryz.func10, Tryz.ntmps10
  go_upto_region 2 with (fail)
  have XR := (Bo.newAt w (g := w.heap.size) (by simp) #[.bool false, .slice none 0 0, .int .i64 0] 27).below (bel1 _ (.cells #[.bool false, .slice none 0 0, .int .i64 0] 27))
  have X4 := (Bo.newAt (w.alloc (.cells #[.bool false, .slice none 0 0, .int .i64 0] 27)) (g := w.heap.size + 1) (by simp) #[.bool false, .slice none 0 0, .int .i64 0] 27)
  have HB := Lib.hid (bel2 w (.cells #[.bool false, .slice none 0 0, .int .i64 0] 27) (.cells #[.bool false, .slice none 0 0, .int .i64 0] 27))
  generalize hW1 : ((w.alloc (.cells #[.bool false, .slice none 0 0, .int .i64 0] 27)).alloc (.cells #[.bool false, .slice none 0 0, .int .i64 0] 27)) = w1 at *
  clear hW1
  have xX40 := X4.at (i := 0) (v := .bool false) rfl
  have xX41 := X4.at (i := 1) (v := .slice none 0 0) rfl
  have xX42 := X4.at (i := 2) (v := .int .i64 0) rfl
  have xXR0 := XR.at (i := 0) (v := .bool false) rfl
  have zXR0 := XR.frozen 0
  have xXR1 := XR.at (i := 1) (v := .slice none 0 0) rfl
  have zXR1 := XR.frozen 1
  have xXR2 := XR.at (i := 2) (v := .int .i64 0) rfl
  have zXR2 := XR.frozen 2
  go_wp2
  clear xX40 xX41 xX42 xXR0 zXR0 xXR1 zXR1 xXR2 zXR2
  have SX := StN.mk3 XR (.bool false) (.slice none 0 0) (.int .i64 0)
  replace X4 := X4.stn SX (by omega)
  replace HB := Lib.hid (SX.below HB.out (by omega))
  replace XR := SX.box
  clear SX
  generalize (World.setCell (World.setCell (World.setCell w1 ⟨w.heap.size, 0, none⟩ (.bool false)) ⟨w.heap.size, 1, none⟩ (.slice none 0 0)) ⟨w.heap.size, 2, none⟩ (.int .i64 0)) = w2 at *
  go_wp2
  have r0 := XR.cell 0
  have r1 := XR.cell 1
  have r2 := XR.cell 2
  exact bodyPost_ret (v := .tuple #[.agg #[.bool false, .slice none 0 0, .int .i64 0], .int .i64 3]) (by simp [results, Tryz.results10, go_sem, r0, r1, r2]) rfl ⟨false, none, 0, 0, rfl, Wn.zero, by omega, HB.out⟩

/-- Where the digits begin, and whether a sign leads. -/
def CaseP (l : List UInt8) (p : Bool) (a : Nat) : Prop := (l = [] ∧ p = false ∧ a = 0) ∨ (∃ c : Nat, 0 < l.length ∧ (∀ w, (Instr.index 9 (.string (st l)) (.int .i64 0)).run Tryz.prog w = .ok (.int .u8 (c : Int)) w) ∧ ((c : Int) == 45) = p ∧ a = if p then 1 else 0)
/-- What the leading digits tell: none, a nought before others; one, others. -/
def LeadP (l : List UInt8) (a n : Nat) (b : Bool) : Prop := (n = 0 ∧ b = true) ∨ (n = 1 ∧ b = false) ∨ (1 < n ∧ ∃ c : Nat, (∀ w, (Instr.index 9 (.string (st l)) (.int .i64 (a : Int))).run Tryz.prog w = .ok (.int .u8 (c : Int)) w) ∧ ((c : Int) == 48) = b)
/-- Whether a point follows. -/
def PointP (l : List UInt8) (k : Int) (L : Nat) (b : Bool) : Prop := (¬ k < (L : Int) ∧ b = false) ∨ (k < (L : Int) ∧ ∃ c : Nat, (∀ w, (Instr.index 9 (.string (st l)) (.int .i64 k)).run Tryz.prog w = .ok (.int .u8 (c : Int)) w) ∧ ((c : Int) == 46) = b)

set_option maxHeartbeats 8000000 in
theorem uParse_bad {l : List UInt8} {w : World} {r : (Int × Int) × Int} {p : Bool} {a n L : Nat} (hl : L ≤ 100) (hL : l.length = L) (ha : a ≤ L) (hn : runL (l.drop a) = n) (hnle : n ≤ L - a) (hcase : CaseP l p a) (hlead : LeadP l a n true) (hE : r = ((0, 0), 2)) : Calls Tryz.prog 10 #[.string (st l)] w (PD w r) := by
  have hsz : (st l).size = L := (st_size l).trans hL
  have t100 : decide ((100 : Int) < (L : Int)) = false := by rw [decide_eq_false_iff_not]; omega
  have HRUN := Lib.hid (fun w => uRunZ (z := (a : Int)) w (b := a) rfl (by omega) (by omega) hn)
  have HCASE := Lib.hid hcase
  have HLEAD := Lib.hid hlead
  have HL := Lib.hid hL
  have HE := Lib.hid hE
  clear hE
  clear hL hn hcase hlead
  go_enter Tryz.func10, Tryz.ntmps10
  go_upto_region 2 with (fail)
  have XR := (Bo.newAt w (g := w.heap.size) (by simp) #[.bool false, .slice none 0 0, .int .i64 0] 27).below (bel1 _ (.cells #[.bool false, .slice none 0 0, .int .i64 0] 27))
  have X4 := (Bo.newAt (w.alloc (.cells #[.bool false, .slice none 0 0, .int .i64 0] 27)) (g := w.heap.size + 1) (by simp) #[.bool false, .slice none 0 0, .int .i64 0] 27)
  have HB := Lib.hid (bel2 w (.cells #[.bool false, .slice none 0 0, .int .i64 0] 27) (.cells #[.bool false, .slice none 0 0, .int .i64 0] 27))
  generalize hW1 : ((w.alloc (.cells #[.bool false, .slice none 0 0, .int .i64 0] 27)).alloc (.cells #[.bool false, .slice none 0 0, .int .i64 0] 27)) = w1 at *
  clear hW1
  go_upto_region 5 with (fail)
  go_cut [6] (fun v wx => v = .bool p ∧ wx = w1)
  case first =>
    rcases HCASE.out with ⟨h0, h1, h2⟩ | ⟨c, h0, hix, hc, h2⟩
    · obtain rfl : L = 0 := by rw [← HL.out, h0]; rfl
      subst h1
      clear h0
      go_wp2_with fail
      go_meet
      exact ⟨rfl, rfl⟩
    · rw [HL.out] at h0
      clear h2
      go_wp2_with fail
      go_meet
      exact ⟨rfl, rfl⟩
  case rest =>
    obtain ⟨rfl, rfl⟩ := hcut
    go_upto_if 27 with (fail)
    go_cut [5] (fun v wx => v = .int .i64 (a : Int) ∧ wx = wc)
    case first =>
      have ha1 : (p = true → (a : Int) = 1) ∧ (p = false → (a : Int) = 0) := by
        rcases HCASE.out with ⟨h0, h1, h2⟩ | ⟨c, h0, hix, hc, h2⟩
        · subst h1; subst h2; exact ⟨by simp, by simp⟩
        · rw [h2]; exact ⟨fun e => by simp [e], fun e => by simp [e]⟩
      have HA1 := Lib.hid ha1
      clear ha1
      cases p
      · go_wp2_with fail
        go_meet
        exact ⟨by rw [show (a : Int) = 0 from HA1.out.2 (by simp)], rfl⟩
      · go_wp2_with fail
        go_meet
        exact ⟨by rw [show (a : Int) = 1 from HA1.out.1 (by simp)], rfl⟩
    case rest =>
      obtain ⟨rfl, rfl⟩ := hcut
      clear HCASE
      go_wp2_with fail
      refine (HRUN.out _).mono ?_
      rintro e w2 ⟨rfl, rfl⟩
      clear HRUN
      go_upto_region 9 with (fail)
      go_cut [42] (fun v wx => v = .bool true ∧ wx = w2)
      case first =>
        rcases HLEAD.out with ⟨h0, _⟩ | ⟨_, h0⟩ | ⟨h0, c, hix, hc⟩
        · have tn : decide ((n : Int) < 1) = true := by simp; omega
          clear h0
          go_wp2_with fail
          go_meet
          exact ⟨rfl, rfl⟩
        · exact absurd h0 (by decide)
        · have tn : decide ((n : Int) < 1) = false := by simp; omega
          have tn1 : decide ((1 : Int) < (n : Int)) = true := by simp; omega
          clear h0
          go_wp2_with fail
          go_meet
          exact ⟨rfl, rfl⟩
      case rest =>
        obtain ⟨rfl, rfl⟩ := hcut
        clear HLEAD
        have xX40 := X4.at (i := 0) (v := .bool false) rfl
        have xX41 := X4.at (i := 1) (v := .slice none 0 0) rfl
        have xX42 := X4.at (i := 2) (v := .int .i64 0) rfl
        have xXR0 := XR.at (i := 0) (v := .bool false) rfl
        have zXR0 := XR.frozen 0
        have xXR1 := XR.at (i := 1) (v := .slice none 0 0) rfl
        have zXR1 := XR.frozen 1
        have xXR2 := XR.at (i := 2) (v := .int .i64 0) rfl
        have zXR2 := XR.frozen 2
        go_wp2
        clear xX40 xX41 xX42 xXR0 zXR0 xXR1 zXR1 xXR2 zXR2
        have SX := StN.mk3 XR (.bool false) (.slice none 0 0) (.int .i64 0)
        replace X4 := X4.stn SX (by omega)
        replace HB := Lib.hid (SX.below HB.out (by omega))
        replace XR := SX.box
        clear SX
        generalize (World.setCell (World.setCell (World.setCell wc ⟨w.heap.size, 0, none⟩ (.bool false)) ⟨w.heap.size, 1, none⟩ (.slice none 0 0)) ⟨w.heap.size, 2, none⟩ (.int .i64 0)) = w9 at *
        go_wp2
        have r0 := XR.cell 0
        have r1 := XR.cell 1
        have r2 := XR.cell 2
        exact bodyPost_ret (v := .tuple #[.agg #[.bool false, .slice none 0 0, .int .i64 0], .int .i64 2]) (by simp [results, Tryz.results10, go_sem, r0, r1, r2]) rfl (by rw [HE.out]; exact ⟨false, none, 0, 0, rfl, Wn.zero, by omega, HB.out⟩)

set_option maxHeartbeats 8000000 in
theorem uParse_np_none {l F : List UInt8} {w : World} {r : (Int × Int) × Int} {p : Bool} {a n L : Nat} (hl : L ≤ 100) (hL : l.length = L) (ha : a ≤ L) (hn : runL (l.drop a) = n) (hnle : n ≤ L - a) (hcase : CaseP l p a) (hlead : LeadP l a n false) (hF : (l.drop a).take n = F) (hFl : F.length = n) (hpt : PointP l ((a : Int) + (n : Int)) L false) (ho : tpow (l.drop (a + n)) = none) (hE : r = ((0, 0), 2)) : Calls Tryz.prog 10 #[.string (st l)] w (PD w r) := by
  have hsz : (st l).size = L := (st_size l).trans hL
  have t100 : decide ((100 : Int) < (L : Int)) = false := by rw [decide_eq_false_iff_not]; omega
  have HRUN := Lib.hid (fun w => uRunZ (z := (a : Int)) w (b := a) rfl (by omega) (by omega) hn)
  have HCASE := Lib.hid hcase
  have HLEAD := Lib.hid hlead
  have HL := Lib.hid hL
  have HSL1 := Lib.hid (fun w => sl_two (l := l) (m := F) (x := (a : Int)) (y := (a : Int) + (n : Int)) (i := a) (j := a + n) rfl (by omega) (by omega) (by omega) (by rw [Nat.add_sub_cancel_left]; exact hF) w)
  have hsF : (st F).size = n := (st_size F).trans hFl
  have HPT := Lib.hid hpt
  clear hF hFl hpt
  have HP := Lib.hid (fun w => (show Calls Tryz.prog 29 #[.string (st l), .int .i64 ((a : Int) + (n : Int))] w (PZ w 0 false) from uPowerZ w (a := a + n) (by omega) (by omega) (by omega) rfl ho))
  clear ho
  have HE := Lib.hid hE
  clear hE
  clear hL hn hcase hlead
  go_enter Tryz.func10, Tryz.ntmps10
  go_upto_region 2 with (fail)
  have XR := (Bo.newAt w (g := w.heap.size) (by simp) #[.bool false, .slice none 0 0, .int .i64 0] 27).below (bel1 _ (.cells #[.bool false, .slice none 0 0, .int .i64 0] 27))
  have X4 := (Bo.newAt (w.alloc (.cells #[.bool false, .slice none 0 0, .int .i64 0] 27)) (g := w.heap.size + 1) (by simp) #[.bool false, .slice none 0 0, .int .i64 0] 27)
  have HB := Lib.hid (bel2 w (.cells #[.bool false, .slice none 0 0, .int .i64 0] 27) (.cells #[.bool false, .slice none 0 0, .int .i64 0] 27))
  generalize hW1 : ((w.alloc (.cells #[.bool false, .slice none 0 0, .int .i64 0] 27)).alloc (.cells #[.bool false, .slice none 0 0, .int .i64 0] 27)) = w1 at *
  clear hW1
  go_upto_region 5 with (fail)
  go_cut [6] (fun v wx => v = .bool p ∧ wx = w1)
  case first =>
    rcases HCASE.out with ⟨h0, h1, h2⟩ | ⟨c, h0, hix, hc, h2⟩
    · obtain rfl : L = 0 := by rw [← HL.out, h0]; rfl
      subst h1
      clear h0
      go_wp2_with fail
      go_meet
      exact ⟨rfl, rfl⟩
    · rw [HL.out] at h0
      clear h2
      go_wp2_with fail
      go_meet
      exact ⟨rfl, rfl⟩
  case rest =>
    obtain ⟨rfl, rfl⟩ := hcut
    go_upto_if 27 with (fail)
    go_cut [5] (fun v wx => v = .int .i64 (a : Int) ∧ wx = wc)
    case first =>
      have ha1 : (p = true → (a : Int) = 1) ∧ (p = false → (a : Int) = 0) := by
        rcases HCASE.out with ⟨h0, h1, h2⟩ | ⟨c, h0, hix, hc, h2⟩
        · subst h1; subst h2; exact ⟨by simp, by simp⟩
        · rw [h2]; exact ⟨fun e => by simp [e], fun e => by simp [e]⟩
      have HA1 := Lib.hid ha1
      clear ha1
      cases p
      · go_wp2_with fail
        go_meet
        exact ⟨by rw [show (a : Int) = 0 from HA1.out.2 (by simp)], rfl⟩
      · go_wp2_with fail
        go_meet
        exact ⟨by rw [show (a : Int) = 1 from HA1.out.1 (by simp)], rfl⟩
    case rest =>
      obtain ⟨rfl, rfl⟩ := hcut
      clear HCASE
      go_wp2_with fail
      refine (HRUN.out _).mono ?_
      rintro e w2 ⟨rfl, rfl⟩
      clear HRUN
      go_upto_region 9 with (fail)
      go_cut [42] (fun v wx => v = .bool false ∧ wx = w2)
      case first =>
        rcases HLEAD.out with ⟨_, h0⟩ | ⟨h0, _⟩ | ⟨h0, c, hix, hc⟩
        · exact absurd h0 (by decide)
        · have tn : decide ((n : Int) < 1) = false := by simp; omega
          have tn1 : decide ((1 : Int) < (n : Int)) = false := by simp; omega
          clear h0
          go_wp2_with fail
          go_meet
          exact ⟨rfl, rfl⟩
        · have tn : decide ((n : Int) < 1) = false := by simp; omega
          have tn1 : decide ((1 : Int) < (n : Int)) = true := by simp; omega
          clear h0
          go_wp2_with fail
          go_meet
          exact ⟨rfl, rfl⟩
      case rest =>
        obtain ⟨rfl, rfl⟩ := hcut
        clear HLEAD
        have hsl1 := HSL1.out
        go_upto_region 14 with (fail)
        clear hsl1
        go_cut [62] (fun v wx => v = .bool false ∧ wx = wc)
        case first =>
          rcases HPT.out with ⟨h0, _⟩ | ⟨h0, c, hix, hc⟩
          · have t3 : decide ((a : Int) + (n : Int) < (L : Int)) = false := by rw [decide_eq_false_iff_not]; exact h0
            clear h0
            go_wp2_with fail
            go_meet
            exact ⟨rfl, rfl⟩
          · have t3 : decide ((a : Int) + (n : Int) < (L : Int)) = true := by rw [decide_eq_true_eq]; exact h0
            clear h0
            go_wp2_with fail
            go_meet
            exact ⟨rfl, rfl⟩
        case rest =>
          obtain ⟨rfl, rfl⟩ := hcut
          clear HPT
          go_wp2_with fail
          refine (HP.out _).mono ?_
          rintro e w4 ⟨rfl, rfl⟩
          have xX40 := X4.at (i := 0) (v := .bool false) rfl
          have xX41 := X4.at (i := 1) (v := .slice none 0 0) rfl
          have xX42 := X4.at (i := 2) (v := .int .i64 0) rfl
          have xXR0 := XR.at (i := 0) (v := .bool false) rfl
          have zXR0 := XR.frozen 0
          have xXR1 := XR.at (i := 1) (v := .slice none 0 0) rfl
          have zXR1 := XR.frozen 1
          have xXR2 := XR.at (i := 2) (v := .int .i64 0) rfl
          have zXR2 := XR.frozen 2
          go_wp2
          clear xX40 xX41 xX42 xXR0 zXR0 xXR1 zXR1 xXR2 zXR2
          have SX := StN.mk3 XR (.bool false) (.slice none 0 0) (.int .i64 0)
          replace X4 := X4.stn SX (by omega)
          replace HB := Lib.hid (SX.below HB.out (by omega))
          replace XR := SX.box
          clear SX
          generalize (World.setCell (World.setCell (World.setCell w4 ⟨w.heap.size, 0, none⟩ (.bool false)) ⟨w.heap.size, 1, none⟩ (.slice none 0 0)) ⟨w.heap.size, 2, none⟩ (.int .i64 0)) = w9 at *
          go_wp2
          have r0 := XR.cell 0
          have r1 := XR.cell 1
          have r2 := XR.cell 2
          exact bodyPost_ret (v := .tuple #[.agg #[.bool false, .slice none 0 0, .int .i64 0], .int .i64 2]) (by simp [results, Tryz.results10, go_sem, r0, r1, r2]) rfl (by rw [HE.out]; exact ⟨false, none, 0, 0, rfl, Wn.zero, by omega, HB.out⟩)

set_option maxHeartbeats 8000000 in
theorem uParse_np_big {l F : List UInt8} {w : World} {r : (Int × Int) × Int} {p : Bool} {a n L : Nat} {x : Int} (hl : L ≤ 100) (hL : l.length = L) (ha : a ≤ L) (hn : runL (l.drop a) = n) (hnle : n ≤ L - a) (hcase : CaseP l p a) (hlead : LeadP l a n false) (hF : (l.drop a).take n = F) (hFl : F.length = n) (hpt : PointP l ((a : Int) + (n : Int)) L false) (ho : tpow (l.drop (a + n)) = some x) (h40 : 40 < n) (hE : r = ((0, 0), 2)) : Calls Tryz.prog 10 #[.string (st l)] w (PD w r) := by
  have hsz : (st l).size = L := (st_size l).trans hL
  have t100 : decide ((100 : Int) < (L : Int)) = false := by rw [decide_eq_false_iff_not]; omega
  have HRUN := Lib.hid (fun w => uRunZ (z := (a : Int)) w (b := a) rfl (by omega) (by omega) hn)
  have HCASE := Lib.hid hcase
  have HLEAD := Lib.hid hlead
  have HL := Lib.hid hL
  have HSL1 := Lib.hid (fun w => sl_two (l := l) (m := F) (x := (a : Int)) (y := (a : Int) + (n : Int)) (i := a) (j := a + n) rfl (by omega) (by omega) (by omega) (by rw [Nat.add_sub_cancel_left]; exact hF) w)
  have hsF : (st F).size = n := (st_size F).trans hFl
  have HPT := Lib.hid hpt
  clear hF hFl hpt
  have HP := Lib.hid (fun w => (show Calls Tryz.prog 29 #[.string (st l), .int .i64 ((a : Int) + (n : Int))] w (PZ w x true) from uPowerZ w (a := a + n) (by omega) (by omega) (by omega) rfl ho))
  clear ho
  have t40 : decide ((40 : Int) < (n : Int)) = true := by simp; omega
  have HE := Lib.hid hE
  clear hE
  clear hL hn hcase hlead
  go_enter Tryz.func10, Tryz.ntmps10
  go_upto_region 2 with (fail)
  have XR := (Bo.newAt w (g := w.heap.size) (by simp) #[.bool false, .slice none 0 0, .int .i64 0] 27).below (bel1 _ (.cells #[.bool false, .slice none 0 0, .int .i64 0] 27))
  have X4 := (Bo.newAt (w.alloc (.cells #[.bool false, .slice none 0 0, .int .i64 0] 27)) (g := w.heap.size + 1) (by simp) #[.bool false, .slice none 0 0, .int .i64 0] 27)
  have HB := Lib.hid (bel2 w (.cells #[.bool false, .slice none 0 0, .int .i64 0] 27) (.cells #[.bool false, .slice none 0 0, .int .i64 0] 27))
  generalize hW1 : ((w.alloc (.cells #[.bool false, .slice none 0 0, .int .i64 0] 27)).alloc (.cells #[.bool false, .slice none 0 0, .int .i64 0] 27)) = w1 at *
  clear hW1
  go_upto_region 5 with (fail)
  go_cut [6] (fun v wx => v = .bool p ∧ wx = w1)
  case first =>
    rcases HCASE.out with ⟨h0, h1, h2⟩ | ⟨c, h0, hix, hc, h2⟩
    · obtain rfl : L = 0 := by rw [← HL.out, h0]; rfl
      subst h1
      clear h0
      go_wp2_with fail
      go_meet
      exact ⟨rfl, rfl⟩
    · rw [HL.out] at h0
      clear h2
      go_wp2_with fail
      go_meet
      exact ⟨rfl, rfl⟩
  case rest =>
    obtain ⟨rfl, rfl⟩ := hcut
    go_upto_if 27 with (fail)
    go_cut [5] (fun v wx => v = .int .i64 (a : Int) ∧ wx = wc)
    case first =>
      have ha1 : (p = true → (a : Int) = 1) ∧ (p = false → (a : Int) = 0) := by
        rcases HCASE.out with ⟨h0, h1, h2⟩ | ⟨c, h0, hix, hc, h2⟩
        · subst h1; subst h2; exact ⟨by simp, by simp⟩
        · rw [h2]; exact ⟨fun e => by simp [e], fun e => by simp [e]⟩
      have HA1 := Lib.hid ha1
      clear ha1
      cases p
      · go_wp2_with fail
        go_meet
        exact ⟨by rw [show (a : Int) = 0 from HA1.out.2 (by simp)], rfl⟩
      · go_wp2_with fail
        go_meet
        exact ⟨by rw [show (a : Int) = 1 from HA1.out.1 (by simp)], rfl⟩
    case rest =>
      obtain ⟨rfl, rfl⟩ := hcut
      clear HCASE
      go_wp2_with fail
      refine (HRUN.out _).mono ?_
      rintro e w2 ⟨rfl, rfl⟩
      clear HRUN
      go_upto_region 9 with (fail)
      go_cut [42] (fun v wx => v = .bool false ∧ wx = w2)
      case first =>
        rcases HLEAD.out with ⟨_, h0⟩ | ⟨h0, _⟩ | ⟨h0, c, hix, hc⟩
        · exact absurd h0 (by decide)
        · have tn : decide ((n : Int) < 1) = false := by simp; omega
          have tn1 : decide ((1 : Int) < (n : Int)) = false := by simp; omega
          clear h0
          go_wp2_with fail
          go_meet
          exact ⟨rfl, rfl⟩
        · have tn : decide ((n : Int) < 1) = false := by simp; omega
          have tn1 : decide ((1 : Int) < (n : Int)) = true := by simp; omega
          clear h0
          go_wp2_with fail
          go_meet
          exact ⟨rfl, rfl⟩
      case rest =>
        obtain ⟨rfl, rfl⟩ := hcut
        clear HLEAD
        have hsl1 := HSL1.out
        go_upto_region 14 with (fail)
        clear hsl1
        go_cut [62] (fun v wx => v = .bool false ∧ wx = wc)
        case first =>
          rcases HPT.out with ⟨h0, _⟩ | ⟨h0, c, hix, hc⟩
          · have t3 : decide ((a : Int) + (n : Int) < (L : Int)) = false := by rw [decide_eq_false_iff_not]; exact h0
            clear h0
            go_wp2_with fail
            go_meet
            exact ⟨rfl, rfl⟩
          · have t3 : decide ((a : Int) + (n : Int) < (L : Int)) = true := by rw [decide_eq_true_eq]; exact h0
            clear h0
            go_wp2_with fail
            go_meet
            exact ⟨rfl, rfl⟩
        case rest =>
          obtain ⟨rfl, rfl⟩ := hcut
          clear HPT
          go_wp2_with fail
          refine (HP.out _).mono ?_
          rintro e w4 ⟨rfl, rfl⟩
          have xX40 := X4.at (i := 0) (v := .bool false) rfl
          have xX41 := X4.at (i := 1) (v := .slice none 0 0) rfl
          have xX42 := X4.at (i := 2) (v := .int .i64 0) rfl
          have xXR0 := XR.at (i := 0) (v := .bool false) rfl
          have zXR0 := XR.frozen 0
          have xXR1 := XR.at (i := 1) (v := .slice none 0 0) rfl
          have zXR1 := XR.frozen 1
          have xXR2 := XR.at (i := 2) (v := .int .i64 0) rfl
          have zXR2 := XR.frozen 2
          go_wp2
          clear xX40 xX41 xX42 xXR0 zXR0 xXR1 zXR1 xXR2 zXR2
          have SX := StN.mk3 XR (.bool false) (.slice none 0 0) (.int .i64 0)
          replace X4 := X4.stn SX (by omega)
          replace HB := Lib.hid (SX.below HB.out (by omega))
          replace XR := SX.box
          clear SX
          generalize (World.setCell (World.setCell (World.setCell w4 ⟨w.heap.size, 0, none⟩ (.bool false)) ⟨w.heap.size, 1, none⟩ (.slice none 0 0)) ⟨w.heap.size, 2, none⟩ (.int .i64 0)) = w9 at *
          go_wp2
          have r0 := XR.cell 0
          have r1 := XR.cell 1
          have r2 := XR.cell 2
          exact bodyPost_ret (v := .tuple #[.agg #[.bool false, .slice none 0 0, .int .i64 0], .int .i64 2]) (by simp [results, Tryz.results10, go_sem, r0, r1, r2]) rfl (by rw [HE.out]; exact ⟨false, none, 0, 0, rfl, Wn.zero, by omega, HB.out⟩)

set_option maxHeartbeats 8000000 in
theorem uParse_np_some {l F : List UInt8} {w : World} {r : (Int × Int) × Int} {p : Bool} {a n L V : Nat} {x : Int} (hl : L ≤ 100) (hL : l.length = L) (ha : a ≤ L) (hn : runL (l.drop a) = n) (hnle : n ≤ L - a) (hcase : CaseP l p a) (hlead : LeadP l a n false) (hF : (l.drop a).take n = F) (hFl : F.length = n) (hpt : PointP l ((a : Int) + (n : Int)) L false) (ho : tpow (l.drop (a + n)) = some x) (h40 : n ≤ 40) (hdg : ∀ c ∈ F, isDig c = true) (hV : dval (F) = V) (hx1 : -1100 ≤ x - 0) (hx2 : x - 0 ≤ 999) (hx3 : -1100 ≤ x) (hx4 : x ≤ 999) (hm : mkA (sg p V) (x - 0) = r) : Calls Tryz.prog 10 #[.string (st l)] w (PD w r) := by
  have hsz : (st l).size = L := (st_size l).trans hL
  have t100 : decide ((100 : Int) < (L : Int)) = false := by rw [decide_eq_false_iff_not]; omega
  have HRUN := Lib.hid (fun w => uRunZ (z := (a : Int)) w (b := a) rfl (by omega) (by omega) hn)
  have HCASE := Lib.hid hcase
  have HLEAD := Lib.hid hlead
  have HL := Lib.hid hL
  have HSL1 := Lib.hid (fun w => sl_two (l := l) (m := F) (x := (a : Int)) (y := (a : Int) + (n : Int)) (i := a) (j := a + n) rfl (by omega) (by omega) (by omega) (by rw [Nat.add_sub_cancel_left]; exact hF) w)
  have hsF : (st F).size = n := (st_size F).trans hFl
  have HPT := Lib.hid hpt
  clear hF hFl hpt
  have HP := Lib.hid (fun w => (show Calls Tryz.prog 29 #[.string (st l), .int .i64 ((a : Int) + (n : Int))] w (PZ w x true) from uPowerZ w (a := a + n) (by omega) (by omega) (by omega) rfl ho))
  clear ho
  have t40 : decide ((40 : Int) < (n : Int)) = false := by simp; omega
  have HNUM := Lib.hid (fun w => show Calls Tryz.prog 31 #[.string (st F)] w (P1 w 100 V) from hV ▸ uNumber F w (by have h := hsF; rw [st_size] at h; omega) hdg)
  have HM := Lib.hid hm
  have HW := Lib.hid (show IntKind.i64.wrap (x - 0) = x - 0 from wrap_in (by omega) (by omega))
  clear hm hV hdg
  clear hL hn hcase hlead
  go_enter Tryz.func10, Tryz.ntmps10
  go_upto_region 2 with (fail)
  have XR := (Bo.newAt w (g := w.heap.size) (by simp) #[.bool false, .slice none 0 0, .int .i64 0] 27).below (bel1 _ (.cells #[.bool false, .slice none 0 0, .int .i64 0] 27))
  have X4 := (Bo.newAt (w.alloc (.cells #[.bool false, .slice none 0 0, .int .i64 0] 27)) (g := w.heap.size + 1) (by simp) #[.bool false, .slice none 0 0, .int .i64 0] 27)
  have HB := Lib.hid (bel2 w (.cells #[.bool false, .slice none 0 0, .int .i64 0] 27) (.cells #[.bool false, .slice none 0 0, .int .i64 0] 27))
  generalize hW1 : ((w.alloc (.cells #[.bool false, .slice none 0 0, .int .i64 0] 27)).alloc (.cells #[.bool false, .slice none 0 0, .int .i64 0] 27)) = w1 at *
  clear hW1
  go_upto_region 5 with (fail)
  go_cut [6] (fun v wx => v = .bool p ∧ wx = w1)
  case first =>
    rcases HCASE.out with ⟨h0, h1, h2⟩ | ⟨c, h0, hix, hc, h2⟩
    · obtain rfl : L = 0 := by rw [← HL.out, h0]; rfl
      subst h1
      clear h0
      go_wp2_with fail
      go_meet
      exact ⟨rfl, rfl⟩
    · rw [HL.out] at h0
      clear h2
      go_wp2_with fail
      go_meet
      exact ⟨rfl, rfl⟩
  case rest =>
    obtain ⟨rfl, rfl⟩ := hcut
    go_upto_if 27 with (fail)
    go_cut [5] (fun v wx => v = .int .i64 (a : Int) ∧ wx = wc)
    case first =>
      have ha1 : (p = true → (a : Int) = 1) ∧ (p = false → (a : Int) = 0) := by
        rcases HCASE.out with ⟨h0, h1, h2⟩ | ⟨c, h0, hix, hc, h2⟩
        · subst h1; subst h2; exact ⟨by simp, by simp⟩
        · rw [h2]; exact ⟨fun e => by simp [e], fun e => by simp [e]⟩
      have HA1 := Lib.hid ha1
      clear ha1
      cases p
      · go_wp2_with fail
        go_meet
        exact ⟨by rw [show (a : Int) = 0 from HA1.out.2 (by simp)], rfl⟩
      · go_wp2_with fail
        go_meet
        exact ⟨by rw [show (a : Int) = 1 from HA1.out.1 (by simp)], rfl⟩
    case rest =>
      obtain ⟨rfl, rfl⟩ := hcut
      clear HCASE
      go_wp2_with fail
      refine (HRUN.out _).mono ?_
      rintro e w2 ⟨rfl, rfl⟩
      clear HRUN
      go_upto_region 9 with (fail)
      go_cut [42] (fun v wx => v = .bool false ∧ wx = w2)
      case first =>
        rcases HLEAD.out with ⟨_, h0⟩ | ⟨h0, _⟩ | ⟨h0, c, hix, hc⟩
        · exact absurd h0 (by decide)
        · have tn : decide ((n : Int) < 1) = false := by simp; omega
          have tn1 : decide ((1 : Int) < (n : Int)) = false := by simp; omega
          clear h0
          go_wp2_with fail
          go_meet
          exact ⟨rfl, rfl⟩
        · have tn : decide ((n : Int) < 1) = false := by simp; omega
          have tn1 : decide ((1 : Int) < (n : Int)) = true := by simp; omega
          clear h0
          go_wp2_with fail
          go_meet
          exact ⟨rfl, rfl⟩
      case rest =>
        obtain ⟨rfl, rfl⟩ := hcut
        clear HLEAD
        have hsl1 := HSL1.out
        go_upto_region 14 with (fail)
        clear hsl1
        go_cut [62] (fun v wx => v = .bool false ∧ wx = wc)
        case first =>
          rcases HPT.out with ⟨h0, _⟩ | ⟨h0, c, hix, hc⟩
          · have t3 : decide ((a : Int) + (n : Int) < (L : Int)) = false := by rw [decide_eq_false_iff_not]; exact h0
            clear h0
            go_wp2_with fail
            go_meet
            exact ⟨rfl, rfl⟩
          · have t3 : decide ((a : Int) + (n : Int) < (L : Int)) = true := by rw [decide_eq_true_eq]; exact h0
            clear h0
            go_wp2_with fail
            go_meet
            exact ⟨rfl, rfl⟩
        case rest =>
          obtain ⟨rfl, rfl⟩ := hcut
          clear HPT
          go_wp2_with fail
          refine (HP.out _).mono ?_
          rintro e w4 ⟨rfl, rfl⟩
          go_wp2_with fail
          refine (HNUM.out _).mono ?_
          rintro ee w5 ⟨A5, n5, c5, rfl, h5, k5, B⟩
          replace XR := XR.below B
          replace X4 := X4.below B
          replace HB := Lib.hid (bt HB.out B)
          clear B
          go_wp2_with fail
          refine (qMake p h5.rd).mono ?_
          rintro ee w6 ⟨s6, A6, n6, c6, rfl, h6, k6, B⟩
          replace XR := XR.below B
          replace X4 := X4.below B
          replace h5 := h5.below B
          replace HB := Lib.hid (bt HB.out B)
          clear B
          have hn6 : n6 ≤ 1000 := by omega
          go_wp2_with fail
          refine (uMakeW h6.wr hn6 ((congrArg (mkA (sg p V)) (by first | rfl | (exact HW.out) | simp)).trans HM.out)).mono ?_
          rintro ee w7 ⟨s7, A7, n7, c7, rfl, h7, k7, B⟩
          replace XR := XR.below B
          replace X4 := X4.below B
          replace h5 := h5.below B
          replace h6 := h6.below B
          replace HB := Lib.hid (bt HB.out B)
          clear B
          go_upto_region 24 with (fail)
          have g7 := XR.lt
          have g8 := X4.lt
          replace XR := XR.below (bel1 _ (.cells #[.bool s7, .slice A7 n7 c7, .int .i64 r.1.2] 27))
          replace X4 := X4.below (bel1 _ (.cells #[.bool s7, .slice A7 n7 c7, .int .i64 r.1.2] 27))
          replace h7 := h7.below (bel1 _ (.cells #[.bool s7, .slice A7 n7 c7, .int .i64 r.1.2] 27))
          replace HB := Lib.hid (bt HB.out (bel1 _ (.cells #[.bool s7, .slice A7 n7 c7, .int .i64 r.1.2] 27)))
          have X7 := Bo.new w7 #[.bool s7, .slice A7 n7 c7, .int .i64 r.1.2] 27
          generalize hWn : w7.alloc (.cells #[.bool s7, .slice A7 n7 c7, .int .i64 r.1.2] 27) = w8 at *
          clear hWn
          have xX70 := X7.at (i := 0) (v := .bool s7) rfl
          have xX71 := X7.at (i := 1) (v := .slice A7 n7 c7) rfl
          have xX72 := X7.at (i := 2) (v := .int .i64 r.1.2) rfl
          have xXR0 := XR.at (i := 0) (v := .bool false) rfl
          have zXR0 := XR.frozen 0
          have xXR1 := XR.at (i := 1) (v := .slice none 0 0) rfl
          have zXR1 := XR.frozen 1
          have xXR2 := XR.at (i := 2) (v := .int .i64 0) rfl
          have zXR2 := XR.frozen 2
          go_wp2
          clear xX70 xX71 xX72 xXR0 zXR0 xXR1 zXR1 xXR2 zXR2
          have SX := StN.mk3 XR (.bool s7) (.slice A7 n7 c7) (.int .i64 r.1.2)
          replace X4 := X4.stn SX (by omega)
          replace X7 := X7.stn SX (by omega)
          replace h7 := h7.stn SX (by simp [no32])
          replace HB := Lib.hid (SX.below HB.out (by omega))
          replace XR := SX.box
          clear SX
          generalize (World.setCell (World.setCell (World.setCell w8 ⟨w.heap.size, 0, none⟩ (.bool s7)) ⟨w.heap.size, 1, none⟩ (.slice A7 n7 c7)) ⟨w.heap.size, 2, none⟩ (.int .i64 r.1.2)) = w9 at *
          go_wp2
          have r0 := XR.cell 0
          have r1 := XR.cell 1
          have r2 := XR.cell 2
          exact bodyPost_ret (v := .tuple #[.agg #[.bool s7, .slice A7 n7 c7, .int .i64 r.1.2], .int .i64 r.2]) (by simp [results, Tryz.results10, go_sem, r0, r1, r2]) rfl ⟨s7, A7, n7, c7, rfl, h7, k7, HB.out⟩
end Go.Proofs.YtdfnjhkcicnkpaaGreatDoor

/-
  What pelorusref04.Parse answers: texts with a point.
-/
namespace Go.Proofs.YtdfnjhkcicnkpaaGreatDoor
open Go.RowKit
set_option linter.unusedVariables false
set_option linter.unusedSimpArgs false
set_option maxRecDepth 100000

set_option maxHeartbeats 8000000 in
theorem uParse_pt_q0 {l F : List UInt8} {w : World} {r : (Int × Int) × Int} {p : Bool} {a n L q : Nat} (hl : L ≤ 100) (hL : l.length = L) (ha : a ≤ L) (hn : runL (l.drop a) = n) (hnle : n ≤ L - a) (hcase : CaseP l p a) (hlead : LeadP l a n false) (hF : (l.drop a).take n = F) (hFl : F.length = n) (hpt : PointP l ((a : Int) + (n : Int)) L true) (hq : runL (l.drop (a + n + 1)) = q) (hql : a + n + 1 + q ≤ L) (h0 : q = 0) (hE : r = ((0, 0), 2)) : Calls Tryz.prog 10 #[.string (st l)] w (PD w r) := by
  have hsz : (st l).size = L := (st_size l).trans hL
  have t100 : decide ((100 : Int) < (L : Int)) = false := by rw [decide_eq_false_iff_not]; omega
  have HRUN := Lib.hid (fun w => uRunZ (z := (a : Int)) w (b := a) rfl (by omega) (by omega) hn)
  have HCASE := Lib.hid hcase
  have HLEAD := Lib.hid hlead
  have HL := Lib.hid hL
  have HSL1 := Lib.hid (fun w => sl_two (l := l) (m := F) (x := (a : Int)) (y := (a : Int) + (n : Int)) (i := a) (j := a + n) rfl (by omega) (by omega) (by omega) (by rw [Nat.add_sub_cancel_left]; exact hF) w)
  have hsF : (st F).size = n := (st_size F).trans hFl
  have HPT := Lib.hid hpt
  clear hF hFl hpt
  have HRUN2 := Lib.hid (fun w => uRunZ (l := l) (z := (a : Int) + (n : Int) + 1) w (b := a + n + 1) (by omega) (by omega) (by omega) hq)
  clear hq
  have tq : decide ((q : Int) < 1) = true := by simp; omega
  clear h0
  have HE := Lib.hid hE
  clear hE
  clear hL hn hcase hlead
  go_enter Tryz.func10, Tryz.ntmps10
  go_upto_region 2 with (fail)
  have XR := (Bo.newAt w (g := w.heap.size) (by simp) #[.bool false, .slice none 0 0, .int .i64 0] 27).below (bel1 _ (.cells #[.bool false, .slice none 0 0, .int .i64 0] 27))
  have X4 := (Bo.newAt (w.alloc (.cells #[.bool false, .slice none 0 0, .int .i64 0] 27)) (g := w.heap.size + 1) (by simp) #[.bool false, .slice none 0 0, .int .i64 0] 27)
  have HB := Lib.hid (bel2 w (.cells #[.bool false, .slice none 0 0, .int .i64 0] 27) (.cells #[.bool false, .slice none 0 0, .int .i64 0] 27))
  generalize hW1 : ((w.alloc (.cells #[.bool false, .slice none 0 0, .int .i64 0] 27)).alloc (.cells #[.bool false, .slice none 0 0, .int .i64 0] 27)) = w1 at *
  clear hW1
  go_upto_region 5 with (fail)
  go_cut [6] (fun v wx => v = .bool p ∧ wx = w1)
  case first =>
    rcases HCASE.out with ⟨h0, h1, h2⟩ | ⟨c, h0, hix, hc, h2⟩
    · obtain rfl : L = 0 := by rw [← HL.out, h0]; rfl
      subst h1
      clear h0
      go_wp2_with fail
      go_meet
      exact ⟨rfl, rfl⟩
    · rw [HL.out] at h0
      clear h2
      go_wp2_with fail
      go_meet
      exact ⟨rfl, rfl⟩
  case rest =>
    obtain ⟨rfl, rfl⟩ := hcut
    go_upto_if 27 with (fail)
    go_cut [5] (fun v wx => v = .int .i64 (a : Int) ∧ wx = wc)
    case first =>
      have ha1 : (p = true → (a : Int) = 1) ∧ (p = false → (a : Int) = 0) := by
        rcases HCASE.out with ⟨h0, h1, h2⟩ | ⟨c, h0, hix, hc, h2⟩
        · subst h1; subst h2; exact ⟨by simp, by simp⟩
        · rw [h2]; exact ⟨fun e => by simp [e], fun e => by simp [e]⟩
      have HA1 := Lib.hid ha1
      clear ha1
      cases p
      · go_wp2_with fail
        go_meet
        exact ⟨by rw [show (a : Int) = 0 from HA1.out.2 (by simp)], rfl⟩
      · go_wp2_with fail
        go_meet
        exact ⟨by rw [show (a : Int) = 1 from HA1.out.1 (by simp)], rfl⟩
    case rest =>
      obtain ⟨rfl, rfl⟩ := hcut
      clear HCASE
      go_wp2_with fail
      refine (HRUN.out _).mono ?_
      rintro e w2 ⟨rfl, rfl⟩
      clear HRUN
      go_upto_region 9 with (fail)
      go_cut [42] (fun v wx => v = .bool false ∧ wx = w2)
      case first =>
        rcases HLEAD.out with ⟨_, h0⟩ | ⟨h0, _⟩ | ⟨h0, c, hix, hc⟩
        · exact absurd h0 (by decide)
        · have tn : decide ((n : Int) < 1) = false := by simp; omega
          have tn1 : decide ((1 : Int) < (n : Int)) = false := by simp; omega
          clear h0
          go_wp2_with fail
          go_meet
          exact ⟨rfl, rfl⟩
        · have tn : decide ((n : Int) < 1) = false := by simp; omega
          have tn1 : decide ((1 : Int) < (n : Int)) = true := by simp; omega
          clear h0
          go_wp2_with fail
          go_meet
          exact ⟨rfl, rfl⟩
      case rest =>
        obtain ⟨rfl, rfl⟩ := hcut
        clear HLEAD
        have hsl1 := HSL1.out
        go_upto_region 14 with (fail)
        clear hsl1
        go_cut [62] (fun v wx => v = .bool true ∧ wx = wc)
        case first =>
          rcases HPT.out with ⟨_, h0⟩ | ⟨h0, c, hix, hc⟩
          · exact absurd h0 (by decide)
          · have t3 : decide ((a : Int) + (n : Int) < (L : Int)) = true := by rw [decide_eq_true_eq]; exact h0
            clear h0
            go_wp2_with fail
            go_meet
            exact ⟨rfl, rfl⟩
        case rest =>
          obtain ⟨rfl, rfl⟩ := hcut
          clear HPT
          go_wp2_with fail
          refine (HRUN2.out _).mono ?_
          rintro e w3 ⟨rfl, rfl⟩
          clear HRUN2
          have xX40 := X4.at (i := 0) (v := .bool false) rfl
          have xX41 := X4.at (i := 1) (v := .slice none 0 0) rfl
          have xX42 := X4.at (i := 2) (v := .int .i64 0) rfl
          have xXR0 := XR.at (i := 0) (v := .bool false) rfl
          have zXR0 := XR.frozen 0
          have xXR1 := XR.at (i := 1) (v := .slice none 0 0) rfl
          have zXR1 := XR.frozen 1
          have xXR2 := XR.at (i := 2) (v := .int .i64 0) rfl
          have zXR2 := XR.frozen 2
          go_wp2
          clear xX40 xX41 xX42 xXR0 zXR0 xXR1 zXR1 xXR2 zXR2
          have SX := StN.mk3 XR (.bool false) (.slice none 0 0) (.int .i64 0)
          replace X4 := X4.stn SX (by omega)
          replace HB := Lib.hid (SX.below HB.out (by omega))
          replace XR := SX.box
          clear SX
          generalize (World.setCell (World.setCell (World.setCell w3 ⟨w.heap.size, 0, none⟩ (.bool false)) ⟨w.heap.size, 1, none⟩ (.slice none 0 0)) ⟨w.heap.size, 2, none⟩ (.int .i64 0)) = w9 at *
          go_wp2
          have r0 := XR.cell 0
          have r1 := XR.cell 1
          have r2 := XR.cell 2
          exact bodyPost_ret (v := .tuple #[.agg #[.bool false, .slice none 0 0, .int .i64 0], .int .i64 2]) (by simp [results, Tryz.results10, go_sem, r0, r1, r2]) rfl (by rw [HE.out]; exact ⟨false, none, 0, 0, rfl, Wn.zero, by omega, HB.out⟩)

set_option maxHeartbeats 8000000 in
theorem uParse_pt_none {l F Dg : List UInt8} {w : World} {r : (Int × Int) × Int} {p : Bool} {a n L q : Nat} (hl : L ≤ 100) (hL : l.length = L) (ha : a ≤ L) (hn : runL (l.drop a) = n) (hnle : n ≤ L - a) (hcase : CaseP l p a) (hlead : LeadP l a n false) (hF : (l.drop a).take n = F) (hFl : F.length = n) (hpt : PointP l ((a : Int) + (n : Int)) L true) (hq : runL (l.drop (a + n + 1)) = q) (hql : a + n + 1 + q ≤ L) (h0 : 0 < q) (hDg : (l.drop (a + n + 1)).take q = Dg) (hBl : Dg.length = q) (ho : tpow (l.drop (a + n + 1 + q)) = none) (hE : r = ((0, 0), 2)) : Calls Tryz.prog 10 #[.string (st l)] w (PD w r) := by
  have hsz : (st l).size = L := (st_size l).trans hL
  have t100 : decide ((100 : Int) < (L : Int)) = false := by rw [decide_eq_false_iff_not]; omega
  have HRUN := Lib.hid (fun w => uRunZ (z := (a : Int)) w (b := a) rfl (by omega) (by omega) hn)
  have HCASE := Lib.hid hcase
  have HLEAD := Lib.hid hlead
  have HL := Lib.hid hL
  have HSL1 := Lib.hid (fun w => sl_two (l := l) (m := F) (x := (a : Int)) (y := (a : Int) + (n : Int)) (i := a) (j := a + n) rfl (by omega) (by omega) (by omega) (by rw [Nat.add_sub_cancel_left]; exact hF) w)
  have hsF : (st F).size = n := (st_size F).trans hFl
  have HPT := Lib.hid hpt
  clear hF hFl hpt
  have HRUN2 := Lib.hid (fun w => uRunZ (l := l) (z := (a : Int) + (n : Int) + 1) w (b := a + n + 1) (by omega) (by omega) (by omega) hq)
  clear hq
  have tq : decide ((q : Int) < 1) = false := by simp; omega
  have HSL2 := Lib.hid (fun w => sl_two (l := l) (m := Dg) (x := (a : Int) + (n : Int) + 1) (y := (a : Int) + (n : Int) + 1 + (q : Int)) (i := a + n + 1) (j := a + n + 1 + q) (by omega) (by omega) (by omega) (by omega) (by rw [Nat.add_sub_cancel_left]; exact hDg) w)
  have hcat := st_cat F Dg
  have hsB : (st Dg).size = q := (st_size Dg).trans hBl
  obtain ⟨S, hS⟩ : ∃ S, n + q = S := ⟨_, rfl⟩
  have hsFB : (st (F ++ Dg)).size = S := by
    rw [st_size, List.length_append, hBl, ← hS]
    rw [st_size] at hsF
    omega
  obtain ⟨D, hD⟩ : ∃ D, F ++ Dg = D := ⟨_, rfl⟩
  rw [hD] at hcat hsFB
  clear hDg hBl
  clear hD
  have HP := Lib.hid (fun w => (show Calls Tryz.prog 29 #[.string (st l), .int .i64 ((a : Int) + (n : Int) + 1 + (q : Int))] w (PZ w 0 false) from uPowerZ w (a := a + n + 1 + q) (by omega) (by omega) (by omega) rfl ho))
  clear ho
  have HE := Lib.hid hE
  clear hE
  clear hL hn hcase hlead
  go_enter Tryz.func10, Tryz.ntmps10
  go_upto_region 2 with (fail)
  have XR := (Bo.newAt w (g := w.heap.size) (by simp) #[.bool false, .slice none 0 0, .int .i64 0] 27).below (bel1 _ (.cells #[.bool false, .slice none 0 0, .int .i64 0] 27))
  have X4 := (Bo.newAt (w.alloc (.cells #[.bool false, .slice none 0 0, .int .i64 0] 27)) (g := w.heap.size + 1) (by simp) #[.bool false, .slice none 0 0, .int .i64 0] 27)
  have HB := Lib.hid (bel2 w (.cells #[.bool false, .slice none 0 0, .int .i64 0] 27) (.cells #[.bool false, .slice none 0 0, .int .i64 0] 27))
  generalize hW1 : ((w.alloc (.cells #[.bool false, .slice none 0 0, .int .i64 0] 27)).alloc (.cells #[.bool false, .slice none 0 0, .int .i64 0] 27)) = w1 at *
  clear hW1
  go_upto_region 5 with (fail)
  go_cut [6] (fun v wx => v = .bool p ∧ wx = w1)
  case first =>
    rcases HCASE.out with ⟨h0, h1, h2⟩ | ⟨c, h0, hix, hc, h2⟩
    · obtain rfl : L = 0 := by rw [← HL.out, h0]; rfl
      subst h1
      clear h0
      go_wp2_with fail
      go_meet
      exact ⟨rfl, rfl⟩
    · rw [HL.out] at h0
      clear h2
      go_wp2_with fail
      go_meet
      exact ⟨rfl, rfl⟩
  case rest =>
    obtain ⟨rfl, rfl⟩ := hcut
    go_upto_if 27 with (fail)
    go_cut [5] (fun v wx => v = .int .i64 (a : Int) ∧ wx = wc)
    case first =>
      have ha1 : (p = true → (a : Int) = 1) ∧ (p = false → (a : Int) = 0) := by
        rcases HCASE.out with ⟨h0, h1, h2⟩ | ⟨c, h0, hix, hc, h2⟩
        · subst h1; subst h2; exact ⟨by simp, by simp⟩
        · rw [h2]; exact ⟨fun e => by simp [e], fun e => by simp [e]⟩
      have HA1 := Lib.hid ha1
      clear ha1
      cases p
      · go_wp2_with fail
        go_meet
        exact ⟨by rw [show (a : Int) = 0 from HA1.out.2 (by simp)], rfl⟩
      · go_wp2_with fail
        go_meet
        exact ⟨by rw [show (a : Int) = 1 from HA1.out.1 (by simp)], rfl⟩
    case rest =>
      obtain ⟨rfl, rfl⟩ := hcut
      clear HCASE
      go_wp2_with fail
      refine (HRUN.out _).mono ?_
      rintro e w2 ⟨rfl, rfl⟩
      clear HRUN
      go_upto_region 9 with (fail)
      go_cut [42] (fun v wx => v = .bool false ∧ wx = w2)
      case first =>
        rcases HLEAD.out with ⟨_, h0⟩ | ⟨h0, _⟩ | ⟨h0, c, hix, hc⟩
        · exact absurd h0 (by decide)
        · have tn : decide ((n : Int) < 1) = false := by simp; omega
          have tn1 : decide ((1 : Int) < (n : Int)) = false := by simp; omega
          clear h0
          go_wp2_with fail
          go_meet
          exact ⟨rfl, rfl⟩
        · have tn : decide ((n : Int) < 1) = false := by simp; omega
          have tn1 : decide ((1 : Int) < (n : Int)) = true := by simp; omega
          clear h0
          go_wp2_with fail
          go_meet
          exact ⟨rfl, rfl⟩
      case rest =>
        obtain ⟨rfl, rfl⟩ := hcut
        clear HLEAD
        have hsl1 := HSL1.out
        go_upto_region 14 with (fail)
        clear hsl1
        go_cut [62] (fun v wx => v = .bool true ∧ wx = wc)
        case first =>
          rcases HPT.out with ⟨_, h0⟩ | ⟨h0, c, hix, hc⟩
          · exact absurd h0 (by decide)
          · have t3 : decide ((a : Int) + (n : Int) < (L : Int)) = true := by rw [decide_eq_true_eq]; exact h0
            clear h0
            go_wp2_with fail
            go_meet
            exact ⟨rfl, rfl⟩
        case rest =>
          obtain ⟨rfl, rfl⟩ := hcut
          clear HPT
          go_wp2_with fail
          refine (HRUN2.out _).mono ?_
          rintro e w3 ⟨rfl, rfl⟩
          clear HRUN2
          have hsl2 := HSL2.out
          go_wp2_with fail
          refine (HP.out _).mono ?_
          rintro e w4 ⟨rfl, rfl⟩
          have xX40 := X4.at (i := 0) (v := .bool false) rfl
          have xX41 := X4.at (i := 1) (v := .slice none 0 0) rfl
          have xX42 := X4.at (i := 2) (v := .int .i64 0) rfl
          have xXR0 := XR.at (i := 0) (v := .bool false) rfl
          have zXR0 := XR.frozen 0
          have xXR1 := XR.at (i := 1) (v := .slice none 0 0) rfl
          have zXR1 := XR.frozen 1
          have xXR2 := XR.at (i := 2) (v := .int .i64 0) rfl
          have zXR2 := XR.frozen 2
          go_wp2
          clear xX40 xX41 xX42 xXR0 zXR0 xXR1 zXR1 xXR2 zXR2
          have SX := StN.mk3 XR (.bool false) (.slice none 0 0) (.int .i64 0)
          replace X4 := X4.stn SX (by omega)
          replace HB := Lib.hid (SX.below HB.out (by omega))
          replace XR := SX.box
          clear SX
          generalize (World.setCell (World.setCell (World.setCell w4 ⟨w.heap.size, 0, none⟩ (.bool false)) ⟨w.heap.size, 1, none⟩ (.slice none 0 0)) ⟨w.heap.size, 2, none⟩ (.int .i64 0)) = w9 at *
          go_wp2
          have r0 := XR.cell 0
          have r1 := XR.cell 1
          have r2 := XR.cell 2
          exact bodyPost_ret (v := .tuple #[.agg #[.bool false, .slice none 0 0, .int .i64 0], .int .i64 2]) (by simp [results, Tryz.results10, go_sem, r0, r1, r2]) rfl (by rw [HE.out]; exact ⟨false, none, 0, 0, rfl, Wn.zero, by omega, HB.out⟩)

set_option maxHeartbeats 8000000 in
theorem uParse_pt_big {l F Dg : List UInt8} {w : World} {r : (Int × Int) × Int} {p : Bool} {a n L q : Nat} {x : Int} (hl : L ≤ 100) (hL : l.length = L) (ha : a ≤ L) (hn : runL (l.drop a) = n) (hnle : n ≤ L - a) (hcase : CaseP l p a) (hlead : LeadP l a n false) (hF : (l.drop a).take n = F) (hFl : F.length = n) (hpt : PointP l ((a : Int) + (n : Int)) L true) (hq : runL (l.drop (a + n + 1)) = q) (hql : a + n + 1 + q ≤ L) (h0 : 0 < q) (hDg : (l.drop (a + n + 1)).take q = Dg) (hBl : Dg.length = q) (ho : tpow (l.drop (a + n + 1 + q)) = some x) (h40 : 40 < n + q) (hE : r = ((0, 0), 2)) : Calls Tryz.prog 10 #[.string (st l)] w (PD w r) := by
  have hsz : (st l).size = L := (st_size l).trans hL
  have t100 : decide ((100 : Int) < (L : Int)) = false := by rw [decide_eq_false_iff_not]; omega
  have HRUN := Lib.hid (fun w => uRunZ (z := (a : Int)) w (b := a) rfl (by omega) (by omega) hn)
  have HCASE := Lib.hid hcase
  have HLEAD := Lib.hid hlead
  have HL := Lib.hid hL
  have HSL1 := Lib.hid (fun w => sl_two (l := l) (m := F) (x := (a : Int)) (y := (a : Int) + (n : Int)) (i := a) (j := a + n) rfl (by omega) (by omega) (by omega) (by rw [Nat.add_sub_cancel_left]; exact hF) w)
  have hsF : (st F).size = n := (st_size F).trans hFl
  have HPT := Lib.hid hpt
  clear hF hFl hpt
  have HRUN2 := Lib.hid (fun w => uRunZ (l := l) (z := (a : Int) + (n : Int) + 1) w (b := a + n + 1) (by omega) (by omega) (by omega) hq)
  clear hq
  have tq : decide ((q : Int) < 1) = false := by simp; omega
  have HSL2 := Lib.hid (fun w => sl_two (l := l) (m := Dg) (x := (a : Int) + (n : Int) + 1) (y := (a : Int) + (n : Int) + 1 + (q : Int)) (i := a + n + 1) (j := a + n + 1 + q) (by omega) (by omega) (by omega) (by omega) (by rw [Nat.add_sub_cancel_left]; exact hDg) w)
  have hcat := st_cat F Dg
  have hsB : (st Dg).size = q := (st_size Dg).trans hBl
  obtain ⟨S, hS⟩ : ∃ S, n + q = S := ⟨_, rfl⟩
  have hsFB : (st (F ++ Dg)).size = S := by
    rw [st_size, List.length_append, hBl, ← hS]
    rw [st_size] at hsF
    omega
  obtain ⟨D, hD⟩ : ∃ D, F ++ Dg = D := ⟨_, rfl⟩
  rw [hD] at hcat hsFB
  clear hDg hBl
  clear hD
  have HP := Lib.hid (fun w => (show Calls Tryz.prog 29 #[.string (st l), .int .i64 ((a : Int) + (n : Int) + 1 + (q : Int))] w (PZ w x true) from uPowerZ w (a := a + n + 1 + q) (by omega) (by omega) (by omega) rfl ho))
  clear ho
  have t40 : decide ((40 : Int) < (S : Int)) = true := by simp; omega
  have HE := Lib.hid hE
  clear hE
  clear hL hn hcase hlead
  go_enter Tryz.func10, Tryz.ntmps10
  go_upto_region 2 with (fail)
  have XR := (Bo.newAt w (g := w.heap.size) (by simp) #[.bool false, .slice none 0 0, .int .i64 0] 27).below (bel1 _ (.cells #[.bool false, .slice none 0 0, .int .i64 0] 27))
  have X4 := (Bo.newAt (w.alloc (.cells #[.bool false, .slice none 0 0, .int .i64 0] 27)) (g := w.heap.size + 1) (by simp) #[.bool false, .slice none 0 0, .int .i64 0] 27)
  have HB := Lib.hid (bel2 w (.cells #[.bool false, .slice none 0 0, .int .i64 0] 27) (.cells #[.bool false, .slice none 0 0, .int .i64 0] 27))
  generalize hW1 : ((w.alloc (.cells #[.bool false, .slice none 0 0, .int .i64 0] 27)).alloc (.cells #[.bool false, .slice none 0 0, .int .i64 0] 27)) = w1 at *
  clear hW1
  go_upto_region 5 with (fail)
  go_cut [6] (fun v wx => v = .bool p ∧ wx = w1)
  case first =>
    rcases HCASE.out with ⟨h0, h1, h2⟩ | ⟨c, h0, hix, hc, h2⟩
    · obtain rfl : L = 0 := by rw [← HL.out, h0]; rfl
      subst h1
      clear h0
      go_wp2_with fail
      go_meet
      exact ⟨rfl, rfl⟩
    · rw [HL.out] at h0
      clear h2
      go_wp2_with fail
      go_meet
      exact ⟨rfl, rfl⟩
  case rest =>
    obtain ⟨rfl, rfl⟩ := hcut
    go_upto_if 27 with (fail)
    go_cut [5] (fun v wx => v = .int .i64 (a : Int) ∧ wx = wc)
    case first =>
      have ha1 : (p = true → (a : Int) = 1) ∧ (p = false → (a : Int) = 0) := by
        rcases HCASE.out with ⟨h0, h1, h2⟩ | ⟨c, h0, hix, hc, h2⟩
        · subst h1; subst h2; exact ⟨by simp, by simp⟩
        · rw [h2]; exact ⟨fun e => by simp [e], fun e => by simp [e]⟩
      have HA1 := Lib.hid ha1
      clear ha1
      cases p
      · go_wp2_with fail
        go_meet
        exact ⟨by rw [show (a : Int) = 0 from HA1.out.2 (by simp)], rfl⟩
      · go_wp2_with fail
        go_meet
        exact ⟨by rw [show (a : Int) = 1 from HA1.out.1 (by simp)], rfl⟩
    case rest =>
      obtain ⟨rfl, rfl⟩ := hcut
      clear HCASE
      go_wp2_with fail
      refine (HRUN.out _).mono ?_
      rintro e w2 ⟨rfl, rfl⟩
      clear HRUN
      go_upto_region 9 with (fail)
      go_cut [42] (fun v wx => v = .bool false ∧ wx = w2)
      case first =>
        rcases HLEAD.out with ⟨_, h0⟩ | ⟨h0, _⟩ | ⟨h0, c, hix, hc⟩
        · exact absurd h0 (by decide)
        · have tn : decide ((n : Int) < 1) = false := by simp; omega
          have tn1 : decide ((1 : Int) < (n : Int)) = false := by simp; omega
          clear h0
          go_wp2_with fail
          go_meet
          exact ⟨rfl, rfl⟩
        · have tn : decide ((n : Int) < 1) = false := by simp; omega
          have tn1 : decide ((1 : Int) < (n : Int)) = true := by simp; omega
          clear h0
          go_wp2_with fail
          go_meet
          exact ⟨rfl, rfl⟩
      case rest =>
        obtain ⟨rfl, rfl⟩ := hcut
        clear HLEAD
        have hsl1 := HSL1.out
        go_upto_region 14 with (fail)
        clear hsl1
        go_cut [62] (fun v wx => v = .bool true ∧ wx = wc)
        case first =>
          rcases HPT.out with ⟨_, h0⟩ | ⟨h0, c, hix, hc⟩
          · exact absurd h0 (by decide)
          · have t3 : decide ((a : Int) + (n : Int) < (L : Int)) = true := by rw [decide_eq_true_eq]; exact h0
            clear h0
            go_wp2_with fail
            go_meet
            exact ⟨rfl, rfl⟩
        case rest =>
          obtain ⟨rfl, rfl⟩ := hcut
          clear HPT
          go_wp2_with fail
          refine (HRUN2.out _).mono ?_
          rintro e w3 ⟨rfl, rfl⟩
          clear HRUN2
          have hsl2 := HSL2.out
          go_wp2_with fail
          refine (HP.out _).mono ?_
          rintro e w4 ⟨rfl, rfl⟩
          have xX40 := X4.at (i := 0) (v := .bool false) rfl
          have xX41 := X4.at (i := 1) (v := .slice none 0 0) rfl
          have xX42 := X4.at (i := 2) (v := .int .i64 0) rfl
          have xXR0 := XR.at (i := 0) (v := .bool false) rfl
          have zXR0 := XR.frozen 0
          have xXR1 := XR.at (i := 1) (v := .slice none 0 0) rfl
          have zXR1 := XR.frozen 1
          have xXR2 := XR.at (i := 2) (v := .int .i64 0) rfl
          have zXR2 := XR.frozen 2
          go_wp2
          clear xX40 xX41 xX42 xXR0 zXR0 xXR1 zXR1 xXR2 zXR2
          have SX := StN.mk3 XR (.bool false) (.slice none 0 0) (.int .i64 0)
          replace X4 := X4.stn SX (by omega)
          replace HB := Lib.hid (SX.below HB.out (by omega))
          replace XR := SX.box
          clear SX
          generalize (World.setCell (World.setCell (World.setCell w4 ⟨w.heap.size, 0, none⟩ (.bool false)) ⟨w.heap.size, 1, none⟩ (.slice none 0 0)) ⟨w.heap.size, 2, none⟩ (.int .i64 0)) = w9 at *
          go_wp2
          have r0 := XR.cell 0
          have r1 := XR.cell 1
          have r2 := XR.cell 2
          exact bodyPost_ret (v := .tuple #[.agg #[.bool false, .slice none 0 0, .int .i64 0], .int .i64 2]) (by simp [results, Tryz.results10, go_sem, r0, r1, r2]) rfl (by rw [HE.out]; exact ⟨false, none, 0, 0, rfl, Wn.zero, by omega, HB.out⟩)

set_option maxHeartbeats 8000000 in
theorem uParse_pt_some {l F Dg : List UInt8} {w : World} {r : (Int × Int) × Int} {p : Bool} {a n L q V : Nat} {x : Int} (hl : L ≤ 100) (hL : l.length = L) (ha : a ≤ L) (hn : runL (l.drop a) = n) (hnle : n ≤ L - a) (hcase : CaseP l p a) (hlead : LeadP l a n false) (hF : (l.drop a).take n = F) (hFl : F.length = n) (hpt : PointP l ((a : Int) + (n : Int)) L true) (hq : runL (l.drop (a + n + 1)) = q) (hql : a + n + 1 + q ≤ L) (h0 : 0 < q) (hDg : (l.drop (a + n + 1)).take q = Dg) (hBl : Dg.length = q) (ho : tpow (l.drop (a + n + 1 + q)) = some x) (h40 : n + q ≤ 40) (hdg : ∀ c ∈ F ++ Dg, isDig c = true) (hV : dval (F ++ Dg) = V) (hx1 : -1100 ≤ x - (q : Int)) (hx2 : x - (q : Int) ≤ 999) (hx3 : -1100 ≤ x) (hx4 : x ≤ 999) (hm : mkA (sg p V) (x - (q : Int)) = r) : Calls Tryz.prog 10 #[.string (st l)] w (PD w r) := by
  have hsz : (st l).size = L := (st_size l).trans hL
  have t100 : decide ((100 : Int) < (L : Int)) = false := by rw [decide_eq_false_iff_not]; omega
  have HRUN := Lib.hid (fun w => uRunZ (z := (a : Int)) w (b := a) rfl (by omega) (by omega) hn)
  have HCASE := Lib.hid hcase
  have HLEAD := Lib.hid hlead
  have HL := Lib.hid hL
  have HSL1 := Lib.hid (fun w => sl_two (l := l) (m := F) (x := (a : Int)) (y := (a : Int) + (n : Int)) (i := a) (j := a + n) rfl (by omega) (by omega) (by omega) (by rw [Nat.add_sub_cancel_left]; exact hF) w)
  have hsF : (st F).size = n := (st_size F).trans hFl
  have HPT := Lib.hid hpt
  clear hF hFl hpt
  have HRUN2 := Lib.hid (fun w => uRunZ (l := l) (z := (a : Int) + (n : Int) + 1) w (b := a + n + 1) (by omega) (by omega) (by omega) hq)
  clear hq
  have tq : decide ((q : Int) < 1) = false := by simp; omega
  have HSL2 := Lib.hid (fun w => sl_two (l := l) (m := Dg) (x := (a : Int) + (n : Int) + 1) (y := (a : Int) + (n : Int) + 1 + (q : Int)) (i := a + n + 1) (j := a + n + 1 + q) (by omega) (by omega) (by omega) (by omega) (by rw [Nat.add_sub_cancel_left]; exact hDg) w)
  have hcat := st_cat F Dg
  have hsB : (st Dg).size = q := (st_size Dg).trans hBl
  obtain ⟨S, hS⟩ : ∃ S, n + q = S := ⟨_, rfl⟩
  have hsFB : (st (F ++ Dg)).size = S := by
    rw [st_size, List.length_append, hBl, ← hS]
    rw [st_size] at hsF
    omega
  obtain ⟨D, hD⟩ : ∃ D, F ++ Dg = D := ⟨_, rfl⟩
  rw [hD] at hcat hsFB
  clear hDg hBl
  rw [hD] at hdg hV
  clear hD
  have HP := Lib.hid (fun w => (show Calls Tryz.prog 29 #[.string (st l), .int .i64 ((a : Int) + (n : Int) + 1 + (q : Int))] w (PZ w x true) from uPowerZ w (a := a + n + 1 + q) (by omega) (by omega) (by omega) rfl ho))
  clear ho
  have t40 : decide ((40 : Int) < (S : Int)) = false := by simp; omega
  have HNUM := Lib.hid (fun w => show Calls Tryz.prog 31 #[.string (st D)] w (P1 w 100 V) from hV ▸ uNumber D w (by have h := hsFB; rw [st_size] at h; omega) hdg)
  have HM := Lib.hid hm
  have HW := Lib.hid (show IntKind.i64.wrap (x - (q : Int)) = x - (q : Int) from wrap_in (by omega) (by omega))
  clear hm hV hdg
  clear hL hn hcase hlead
  go_enter Tryz.func10, Tryz.ntmps10
  go_upto_region 2 with (fail)
  have XR := (Bo.newAt w (g := w.heap.size) (by simp) #[.bool false, .slice none 0 0, .int .i64 0] 27).below (bel1 _ (.cells #[.bool false, .slice none 0 0, .int .i64 0] 27))
  have X4 := (Bo.newAt (w.alloc (.cells #[.bool false, .slice none 0 0, .int .i64 0] 27)) (g := w.heap.size + 1) (by simp) #[.bool false, .slice none 0 0, .int .i64 0] 27)
  have HB := Lib.hid (bel2 w (.cells #[.bool false, .slice none 0 0, .int .i64 0] 27) (.cells #[.bool false, .slice none 0 0, .int .i64 0] 27))
  generalize hW1 : ((w.alloc (.cells #[.bool false, .slice none 0 0, .int .i64 0] 27)).alloc (.cells #[.bool false, .slice none 0 0, .int .i64 0] 27)) = w1 at *
  clear hW1
  go_upto_region 5 with (fail)
  go_cut [6] (fun v wx => v = .bool p ∧ wx = w1)
  case first =>
    rcases HCASE.out with ⟨h0, h1, h2⟩ | ⟨c, h0, hix, hc, h2⟩
    · obtain rfl : L = 0 := by rw [← HL.out, h0]; rfl
      subst h1
      clear h0
      go_wp2_with fail
      go_meet
      exact ⟨rfl, rfl⟩
    · rw [HL.out] at h0
      clear h2
      go_wp2_with fail
      go_meet
      exact ⟨rfl, rfl⟩
  case rest =>
    obtain ⟨rfl, rfl⟩ := hcut
    go_upto_if 27 with (fail)
    go_cut [5] (fun v wx => v = .int .i64 (a : Int) ∧ wx = wc)
    case first =>
      have ha1 : (p = true → (a : Int) = 1) ∧ (p = false → (a : Int) = 0) := by
        rcases HCASE.out with ⟨h0, h1, h2⟩ | ⟨c, h0, hix, hc, h2⟩
        · subst h1; subst h2; exact ⟨by simp, by simp⟩
        · rw [h2]; exact ⟨fun e => by simp [e], fun e => by simp [e]⟩
      have HA1 := Lib.hid ha1
      clear ha1
      cases p
      · go_wp2_with fail
        go_meet
        exact ⟨by rw [show (a : Int) = 0 from HA1.out.2 (by simp)], rfl⟩
      · go_wp2_with fail
        go_meet
        exact ⟨by rw [show (a : Int) = 1 from HA1.out.1 (by simp)], rfl⟩
    case rest =>
      obtain ⟨rfl, rfl⟩ := hcut
      clear HCASE
      go_wp2_with fail
      refine (HRUN.out _).mono ?_
      rintro e w2 ⟨rfl, rfl⟩
      clear HRUN
      go_upto_region 9 with (fail)
      go_cut [42] (fun v wx => v = .bool false ∧ wx = w2)
      case first =>
        rcases HLEAD.out with ⟨_, h0⟩ | ⟨h0, _⟩ | ⟨h0, c, hix, hc⟩
        · exact absurd h0 (by decide)
        · have tn : decide ((n : Int) < 1) = false := by simp; omega
          have tn1 : decide ((1 : Int) < (n : Int)) = false := by simp; omega
          clear h0
          go_wp2_with fail
          go_meet
          exact ⟨rfl, rfl⟩
        · have tn : decide ((n : Int) < 1) = false := by simp; omega
          have tn1 : decide ((1 : Int) < (n : Int)) = true := by simp; omega
          clear h0
          go_wp2_with fail
          go_meet
          exact ⟨rfl, rfl⟩
      case rest =>
        obtain ⟨rfl, rfl⟩ := hcut
        clear HLEAD
        have hsl1 := HSL1.out
        go_upto_region 14 with (fail)
        clear hsl1
        go_cut [62] (fun v wx => v = .bool true ∧ wx = wc)
        case first =>
          rcases HPT.out with ⟨_, h0⟩ | ⟨h0, c, hix, hc⟩
          · exact absurd h0 (by decide)
          · have t3 : decide ((a : Int) + (n : Int) < (L : Int)) = true := by rw [decide_eq_true_eq]; exact h0
            clear h0
            go_wp2_with fail
            go_meet
            exact ⟨rfl, rfl⟩
        case rest =>
          obtain ⟨rfl, rfl⟩ := hcut
          clear HPT
          go_wp2_with fail
          refine (HRUN2.out _).mono ?_
          rintro e w3 ⟨rfl, rfl⟩
          clear HRUN2
          have hsl2 := HSL2.out
          go_wp2_with fail
          refine (HP.out _).mono ?_
          rintro e w4 ⟨rfl, rfl⟩
          go_wp2_with fail
          refine (HNUM.out _).mono ?_
          rintro ee w5 ⟨A5, n5, c5, rfl, h5, k5, B⟩
          replace XR := XR.below B
          replace X4 := X4.below B
          replace HB := Lib.hid (bt HB.out B)
          clear B
          go_wp2_with fail
          refine (qMake p h5.rd).mono ?_
          rintro ee w6 ⟨s6, A6, n6, c6, rfl, h6, k6, B⟩
          replace XR := XR.below B
          replace X4 := X4.below B
          replace h5 := h5.below B
          replace HB := Lib.hid (bt HB.out B)
          clear B
          have hn6 : n6 ≤ 1000 := by omega
          go_wp2_with fail
          refine (uMakeW h6.wr hn6 ((congrArg (mkA (sg p V)) (by first | rfl | (exact HW.out) | simp)).trans HM.out)).mono ?_
          rintro ee w7 ⟨s7, A7, n7, c7, rfl, h7, k7, B⟩
          replace XR := XR.below B
          replace X4 := X4.below B
          replace h5 := h5.below B
          replace h6 := h6.below B
          replace HB := Lib.hid (bt HB.out B)
          clear B
          go_upto_region 24 with (fail)
          have g7 := XR.lt
          have g8 := X4.lt
          replace XR := XR.below (bel1 _ (.cells #[.bool s7, .slice A7 n7 c7, .int .i64 r.1.2] 27))
          replace X4 := X4.below (bel1 _ (.cells #[.bool s7, .slice A7 n7 c7, .int .i64 r.1.2] 27))
          replace h7 := h7.below (bel1 _ (.cells #[.bool s7, .slice A7 n7 c7, .int .i64 r.1.2] 27))
          replace HB := Lib.hid (bt HB.out (bel1 _ (.cells #[.bool s7, .slice A7 n7 c7, .int .i64 r.1.2] 27)))
          have X7 := Bo.new w7 #[.bool s7, .slice A7 n7 c7, .int .i64 r.1.2] 27
          generalize hWn : w7.alloc (.cells #[.bool s7, .slice A7 n7 c7, .int .i64 r.1.2] 27) = w8 at *
          clear hWn
          have xX70 := X7.at (i := 0) (v := .bool s7) rfl
          have xX71 := X7.at (i := 1) (v := .slice A7 n7 c7) rfl
          have xX72 := X7.at (i := 2) (v := .int .i64 r.1.2) rfl
          have xXR0 := XR.at (i := 0) (v := .bool false) rfl
          have zXR0 := XR.frozen 0
          have xXR1 := XR.at (i := 1) (v := .slice none 0 0) rfl
          have zXR1 := XR.frozen 1
          have xXR2 := XR.at (i := 2) (v := .int .i64 0) rfl
          have zXR2 := XR.frozen 2
          go_wp2
          clear xX70 xX71 xX72 xXR0 zXR0 xXR1 zXR1 xXR2 zXR2
          have SX := StN.mk3 XR (.bool s7) (.slice A7 n7 c7) (.int .i64 r.1.2)
          replace X4 := X4.stn SX (by omega)
          replace X7 := X7.stn SX (by omega)
          replace h7 := h7.stn SX (by simp [no32])
          replace HB := Lib.hid (SX.below HB.out (by omega))
          replace XR := SX.box
          clear SX
          generalize (World.setCell (World.setCell (World.setCell w8 ⟨w.heap.size, 0, none⟩ (.bool s7)) ⟨w.heap.size, 1, none⟩ (.slice A7 n7 c7)) ⟨w.heap.size, 2, none⟩ (.int .i64 r.1.2)) = w9 at *
          go_wp2
          have r0 := XR.cell 0
          have r1 := XR.cell 1
          have r2 := XR.cell 2
          exact bodyPost_ret (v := .tuple #[.agg #[.bool s7, .slice A7 n7 c7, .int .i64 r.1.2], .int .i64 r.2]) (by simp [results, Tryz.results10, go_sem, r0, r1, r2]) rfl ⟨s7, A7, n7, c7, rfl, h7, k7, HB.out⟩
end Go.Proofs.YtdfnjhkcicnkpaaGreatDoor

/-
  What pelorusref04.Parse answers: all texts.
-/
namespace Go.Proofs.YtdfnjhkcicnkpaaGreatDoor
open Go.RowKit
set_option linter.unusedVariables false
set_option linter.unusedSimpArgs false
set_option maxRecDepth 100000

theorem tpow_bd {l : List UInt8} {x : Int} (h : tpow l = some x) : -1100 ≤ x ∧ x ≤ 999 := by
  rcases pow_eq l with ⟨e, _⟩ | ⟨z, e, _, h1, h2⟩
  · rw [h] at e; cases e
  · rw [h] at e
    obtain rfl := Option.some.inj e
    omega
theorem lead_of {l : List UInt8} {a n L : Nat} (hL : l.length = L) (hnle : n ≤ L - a) (ha : a ≤ L) : (n = 0 ∨ (1 < n ∧ (l.drop a).head? = some 48) → LeadP l a n true) ∧ (¬ (n = 0 ∨ (1 < n ∧ (l.drop a).head? = some 48)) → LeadP l a n false) := by
  by_cases h0 : n = 0
  · exact ⟨fun _ => .inl ⟨h0, rfl⟩, fun h => absurd (.inl h0) h⟩
  · have haL : a < l.length := by omega
    have hhd : (l.drop a).head? = some 48 ↔ l[a] = 48 := by rw [List.drop_eq_getElem_cons haL, List.head?_cons, Option.some.injEq]
    have hix := fun w => ix_z (l := l) (k := a) (c := (l[a]).toNat) (z := (a : Int)) rfl haL rfl w
    have hc48 : l[a] = 48 ↔ (((l[a]).toNat : Int) == 48) = true := by
      constructor
      · intro e; rw [e]; rfl
      · intro e
        have e1 : ((l[a]).toNat : Int) = 48 := by simpa using e
        have : (l[a]).toNat = 48 := by omega
        exact UInt8.toNat.inj (by rw [this]; rfl)
    rw [hhd, hc48]
    refine ⟨fun h => ?_, fun h => ?_⟩
    · rcases h with h | ⟨h, e⟩
      · exact absurd h h0
      · exact .inr (.inr ⟨h, _, hix, e⟩)
    · by_cases h1 : n = 1
      · exact .inr (.inl ⟨h1, rfl⟩)
      · refine .inr (.inr ⟨by omega, _, hix, ?_⟩)
        rw [← Bool.not_eq_true]
        exact fun e => h (.inr ⟨by omega, e⟩)
theorem uParse_in (l : List UInt8) (w : World) (r : (Int × Int) × Int) (hl : l.length ≤ 100) (hr : tparse l = r) : Calls Tryz.prog 10 #[.string (st l)] w (PD w r) := by
  obtain ⟨p, a, ha, hp1, hp2, hcase⟩ := neg_parts l
  obtain ⟨n, hn⟩ : ∃ n, runL (l.drop a) = n := ⟨_, rfl⟩
  have hnle := runL_le (l.drop a)
  rw [hn, List.length_drop] at hnle
  obtain ⟨L, hL⟩ : ∃ L, l.length = L := ⟨_, rfl⟩
  have hl' := hl
  rw [hL] at hl' ha hnle
  obtain ⟨F, hF⟩ : ∃ F, (l.drop a).take n = F := ⟨_, rfl⟩
  have hFl : F.length = n := by rw [← hF, List.length_take, List.length_drop]; omega
  have hnone : tread l = none → r = ((0, 0), 2) := fun h => by rw [← hr]; exact tparse_none hl h
  obtain ⟨ld1, ld2⟩ := lead_of hL hnle ha
  by_cases hb : n = 0 ∨ (1 < n ∧ (l.drop a).head? = some 48)
  · refine uParse_bad hl' hL ha hn hnle hcase (ld1 hb) (hnone ?_)
    unfold tread
    rw [hp2, hn, if_pos hb]
  · have hT : tread l = restR p n F (l.drop (a + n)) := by
      unfold tread restR
      rw [hp1, hp2, hn, if_neg hb, hF, List.drop_drop]
      rfl
    have hld := ld2 hb
    have plain : tfrac (l.drop (a + n)) = some ([], l.drop (a + n)) → PointP l ((a : Int) + (n : Int)) L false → Calls Tryz.prog 10 #[.string (st l)] w (PD w r) := by
      intro hfr hpt
      have hE : tread l = match tpow (l.drop (a + n)) with | none => none | some e => if n + 0 ≤ 40 then some (p, F ++ [], e - (0 : Int)) else none := by rw [hT]; unfold restR; rw [hfr]; rfl
      cases ho : tpow (l.drop (a + n)) with
      | none => exact uParse_np_none hl' hL ha hn hnle hcase hld hF hFl hpt ho (hnone (by rw [hE, ho]))
      | some x =>
        rw [ho] at hE
        simp only [Nat.add_zero, List.append_nil] at hE
        by_cases h40 : n ≤ 40
        · rw [if_pos h40] at hE
          obtain ⟨hdg, _, hx1, hx2⟩ := tread_dig hE
          exact uParse_np_some hl' hL ha hn hnle hcase hld hF hFl hpt ho h40 hdg rfl hx1 hx2 (by omega) (by omega) (by rw [← hr, tparse_some hE hl])
        · rw [if_neg h40] at hE
          exact uParse_np_big hl' hL ha hn hnle hcase hld hF hFl hpt ho (by omega) (hnone hE)
    by_cases hend : a + n = L
    · have hR0 : l.drop (a + n) = [] := by apply List.drop_eq_nil_of_le; omega
      exact plain (by rw [hR0]; rfl) (.inl ⟨by omega, rfl⟩)
    · have hlt : a + n < l.length := by omega
      have hR2 : l.drop (a + n) = l[a + n] :: l.drop (a + n + 1) := List.drop_eq_getElem_cons hlt
      have hix := fun w => ix_z (l := l) (k := a + n) (c := (l[a + n]).toNat) (z := (a : Int) + (n : Int)) (by omega) hlt rfl w
      by_cases h46 : l[a + n] = 46
      · have hpt : PointP l ((a : Int) + (n : Int)) L true := .inr ⟨by omega, _, hix, by rw [h46]; rfl⟩
        obtain ⟨q, hq⟩ : ∃ q, runL (l.drop (a + n + 1)) = q := ⟨_, rfl⟩
        have hql := runL_le (l.drop (a + n + 1))
        rw [hq, List.length_drop, hL] at hql
        have hfr := (frac_point (l.drop (a + n + 1))).2
        rw [hq, ← h46, ← hR2] at hfr
        by_cases h0 : q = 0
        · rw [if_pos h0] at hfr
          exact uParse_pt_q0 hl' hL ha hn hnle hcase hld hF hFl hpt hq (by omega) h0 (hnone (by rw [hT]; unfold restR; rw [hfr]))
        · rw [if_neg h0] at hfr
          obtain ⟨Dg, hDg⟩ : ∃ b, (l.drop (a + n + 1)).take q = b := ⟨_, rfl⟩
          have hBl : Dg.length = q := by rw [← hDg, List.length_take, List.length_drop, hL]; omega
          rw [hDg, List.drop_drop] at hfr
          have hE : tread l = match tpow (l.drop (a + n + 1 + q)) with | none => none | some e => if n + q ≤ 40 then some (p, F ++ Dg, e - (q : Int)) else none := by rw [hT]; unfold restR; rw [hfr]; simp only [hBl] <;> rfl
          cases ho : tpow (l.drop (a + n + 1 + q)) with
          | none => exact uParse_pt_none hl' hL ha hn hnle hcase hld hF hFl hpt hq (by omega) (by omega) hDg hBl ho (hnone (by rw [hE, ho]))
          | some x =>
            rw [ho] at hE
            simp only at hE
            by_cases h40 : n + q ≤ 40
            · rw [if_pos h40] at hE
              obtain ⟨hdg, _, hx1, hx2⟩ := tread_dig hE
              exact uParse_pt_some hl' hL ha hn hnle hcase hld hF hFl hpt hq (by omega) (by omega) hDg hBl ho h40 hdg rfl hx1 hx2 (tpow_bd ho).1 (tpow_bd ho).2 (by rw [← hr, tparse_some hE hl])
            · rw [if_neg h40] at hE
              exact uParse_pt_big hl' hL ha hn hnle hcase hld hF hFl hpt hq (by omega) (by omega) hDg hBl ho (by omega) (hnone hE)
      · have hfr := (frac_cons _ (l.drop (a + n + 1)) h46).2
        rw [← hR2] at hfr
        refine plain hfr (.inr ⟨by omega, _, hix, ?_⟩)
        have : (l[a + n]).toNat ≠ 46 := fun e => h46 (UInt8.toNat.inj (by rw [e]; rfl))
        simp; omega
/-- the text read, by the document -/
theorem uParse (l : List UInt8) (w : World) (r : (Int × Int) × Int) (hr : tparse l = r) : Calls Tryz.prog 10 #[.string (st l)] w (PD w r) := by
  by_cases h : l.length ≤ 100
  · exact uParse_in l w r h hr
  · have : tparse l = ((0, 0), 3) := by unfold tparse; rw [if_pos (by omega)]
    rw [← hr, this]
    exact uParse_long l w (by omega)
end Go.Proofs.YtdfnjhkcicnkpaaGreatDoor
