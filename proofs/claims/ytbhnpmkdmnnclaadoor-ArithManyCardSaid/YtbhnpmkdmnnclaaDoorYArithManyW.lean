/-
  The walk of ArithMany: for all arguments, where the tables lie as they were laid, the call answers true, and nothing that was there has turned.
-/
import Derived.Test.YtbhnpmkdmnnclaaDoorYBas
import Derived.Test.YtbhnpmkdmnnclaaDoorYBau
import Derived.Test.YtbhnpmkdmnnclaaDoorYBaz
import Derived.Test.YtbhnpmkdmnnclaaDoorYBbb
namespace Go.Proofs.YtbhnpmkdmnnclaaDoor
open Go.RowKit
set_option linter.unusedVariables false
set_option linter.unusedSimpArgs false
set_option maxRecDepth 100000

theorem nl_bd {w : World} {A : Option Addr} {n c : Nat} {l : List Int} (h : Nl w A n c l) : ∀ x ∈ l, -19342822337206103650074625 ≤ x ∧ x ≤ 19342822337206103650074625 := fun x hx => by
  obtain ⟨h1, h2, h3, h4⟩ := h
  obtain ⟨k, hk, rfl⟩ := List.getElem_of_mem hx
  obtain ⟨b, o, e, hc⟩ := h4 (by omega)
  obtain ⟨D, s, M, E, c0, c1, c2, c3, hM, hr⟩ := hc k (by omega)
  have he : l.getD k 0 = l[k] := by simp [List.getD_eq_getElem?_getD, hk]
  rw [← he, ← hr]
  exact rk_bd hM
theorem cmpI_npos' {x y : Int} (h : x ≤ y) : cmpI x y ≤ 0 := by rcases cmpI_tri x y with ⟨a, b⟩ | ⟨a, b⟩ | ⟨a, b⟩ <;> rw [b] <;> omega
set_option maxHeartbeats 8000000 in
theorem arithMany_far (a0 : Option Addr) (len0 cap0 : Nat) (b1 : Bool) (w : World) (hT : Tb w) (hn : 20 < len0) (hb : len0 ≤ 9223372036854775807) :
    Calls Tryd.prog 5 #[.slice a0 len0 cap0, .bool b1] w (PB w true) := by
  go_enter Tryd.func5, Tryd.ntmps5
  have HB := Lib.hid (Below.refl w.heap.size w)
  go_wp2_with fail
  refine (awake6 hT).mono ?_
  rintro ee w2 ⟨rfl, B⟩
  replace hT := hT.below B
  replace HB := Lib.hid (bt HB.out B)
  clear B
  go_wp2
  go_ret
  exact ⟨rfl, HB.out⟩
set_option maxHeartbeats 8000000 in
theorem arithMany_main (a0 : Option Addr) (len0 cap0 : Nat) (b1 : Bool) (w : World) (l : List Int) (hT : Tb w) (h0 : Nl w a0 len0 cap0 l) (hn : len0 ≤ 20) :
    Calls Tryd.prog 5 #[.slice a0 len0 cap0, .bool b1] w (PB w true) := by
  have hbd := nl_bd h0
  have hlen := h0.1
  have hcap := h0.2.1
  have hbig := h0.2.2.1
  obtain ⟨r0, hr0⟩ : ∃ r, smA false l = r := ⟨_, rfl⟩
  obtain ⟨r1, hr1⟩ : ∃ r, smA true l = r := ⟨_, rfl⟩
  obtain ⟨r, hr⟩ : ∃ r, smA b1 l = r := ⟨_, rfl⟩
  have hle : r0 ≤ r1 := by
    rw [← hr0, ← hr1]
    exact smA_le l 0 0 hbd (Int.le_refl _) (by decide) (by decide)
  obtain ⟨c, hc⟩ : ∃ c, cmpI r0 r1 = c := ⟨_, rfl⟩
  have hc0 : c ≤ 0 := by rw [← hc]; exact cmpI_npos' hle
  have HR0 := Lib.hid hr0
  have HR1 := Lib.hid hr1
  have HR := Lib.hid hr
  have HRS : Hid (smp b1 l = r) := Lib.hid (by rw [← smA_smp b1 hbd]; exact hr)
  have HC := Lib.hid hc
  have HLN := Lib.hid hlen
  have HNL : Hid ((∀ j, j < len0 → Fz (l.getD j 0) 1600) → NearL b1 l) := Lib.hid (fun h => nearL_of b1 (fun k hk => h k (by omega)) (by omega))
  have t2 : ¬ (20 : Int) < len0 := by omega
  clear hr0 hr1 hr hle hc hbd hlen
  go_enter Tryd.func5, Tryd.ntmps5
  have HB := Lib.hid (Below.refl w.heap.size w)
  go_wp2_with fail
  refine (awake6 hT).mono ?_
  rintro ee w2 ⟨rfl, B⟩
  replace hT := hT.below B
  replace h0 := h0.below B
  replace HB := Lib.hid (bt HB.out B)
  clear B
  go_wp2
  go_loopw [6] (fun i wr => ∃ k : Nat, k ≤ len0 ∧ i = .int .i64 k ∧ (∀ j, j < k → Fz (l.getD j 0) 1600) ∧ Below w2.heap.size w2 wr) (fun i _ => len0 - (intOf i).toNat)
  case atStart => exact ⟨0, Nat.zero_le _, rfl, fun j h => absurd h (Nat.not_lt_zero _), Below.refl _ _⟩
  case round =>
    obtain ⟨k, hk, rfl, hU, hB⟩ := hrel
    have HU := Lib.hid hU
    have HB4 := Lib.hid hB
    clear hU
    by_cases hlt : k < len0
    · obtain ⟨b, o, e, hcell⟩ := h0.2.2.2 (by omega)
      subst e
      obtain ⟨D, s, M, E, c0, c1, c2, c3, hM, hx⟩ := hcell k hlt
      have d0 := (hB.cell (p := ⟨b, _, none⟩) (block_lt_of_cell c0)).trans c0
      have d1 := (hB.cell (p := ⟨b, _, none⟩) (block_lt_of_cell c1)).trans c1
      have d2 := (hB.cell (p := ⟨b, _, none⟩) (block_lt_of_cell c2)).trans c2
      have d3 := (hB.cell (p := ⟨b, _, none⟩) (block_lt_of_cell c3)).trans c3
      clear hcell hB c0 c1 c2 c3
      have i1 : (k : Int) < len0 := by omega
      have i2 : (0 : Int) ≤ k := by omega
      by_cases hfew : fewq D E = true
      · have HN : Hid (∀ j, j < k + 1 → Fz (l.getD j 0) 1600) := Lib.hid (fun j hj => by
          by_cases e : j = k
          · rw [e, ← hx]
            exact few_fz hM hfew
          · exact HU.out j (by omega))
        have HW := Lib.hid hfew
        clear hfew hx
        go_wp2_with fail
        refine (aFew HW.out).mono ?_
        rintro ee w5 ⟨rfl, B5⟩
        have HB5 := Lib.hid (bt HB4.out B5)
        clear B5 d0 d1 d2 d3
        go_wp2
        go_roundw
        case rel => exact ⟨k + 1, by omega, by go_num, HN.out, HB5.out⟩
        case measure => simp [intOf]; omega
      · have HW : Hid (fewq D E = false) := Lib.hid (by simpa using hfew)
        clear hfew hx
        go_wp2_with fail
        refine (aFew HW.out).mono ?_
        rintro ee w5 ⟨rfl, B5⟩
        have HB5 := Lib.hid (bt HB4.out B5)
        clear B5 d0 d1 d2 d3
        go_wp2
        go_ret
        exact ⟨rfl, bt HB.out HB5.out⟩
    · obtain rfl : k = len0 := by omega
      have HNE := Lib.hid (HNL.out HU.out)
      clear HU HNL HB4
      replace hT := hT.below hB
      replace h0 := h0.below hB
      replace HB := Lib.hid (bt HB.out hB)
      clear hB
      go_wp2_with fail
      refine (aSum hT h0 HR0.out).mono ?_
      rintro ee w5 ⟨K1, s1, M1, E1, rfl, q1, B⟩
      replace hT := hT.below B
      replace h0 := h0.below B
      replace HB := Lib.hid (bt HB.out B)
      clear B
      go_upto_region 11 with (fail)
      have lX8 := Nat.le_refl (World.heap w5).size
      replace hT := hT.below (bel1 _ (.cells #[.int .i64 K1, .bool s1, .int .u64 M1, .int .i64 E1] 24))
      replace h0 := h0.below (bel1 _ (.cells #[.int .i64 K1, .bool s1, .int .u64 M1, .int .i64 E1] 24))
      replace HB := Lib.hid (bt HB.out (bel1 _ (.cells #[.int .i64 K1, .bool s1, .int .u64 M1, .int .i64 E1] 24)))
      have X8 := Bo.new w5 #[.int .i64 K1, .bool s1, .int .u64 M1, .int .i64 E1] 24
      generalize hWn : World.alloc w5 (.cells #[.int .i64 K1, .bool s1, .int .u64 M1, .int .i64 E1] 24) = w6 at *
      clear hWn
      clear lX8
      go_wp2_with fail
      refine (aSum hT h0 HR1.out).mono ?_
      rintro ee w7 ⟨K2, s2, M2, E2, rfl, q2, B⟩
      replace X8 := X8.below B
      replace hT := hT.below B
      replace h0 := h0.below B
      replace HB := Lib.hid (bt HB.out B)
      clear B
      go_upto_region 12 with (fail)
      have lX9 := Nat.le_refl (World.heap w7).size
      have nX9X8 := X8.lt
      replace X8 := X8.below (bel1 _ (.cells #[.int .i64 K2, .bool s2, .int .u64 M2, .int .i64 E2] 24))
      replace hT := hT.below (bel1 _ (.cells #[.int .i64 K2, .bool s2, .int .u64 M2, .int .i64 E2] 24))
      replace h0 := h0.below (bel1 _ (.cells #[.int .i64 K2, .bool s2, .int .u64 M2, .int .i64 E2] 24))
      replace HB := Lib.hid (bt HB.out (bel1 _ (.cells #[.int .i64 K2, .bool s2, .int .u64 M2, .int .i64 E2] 24)))
      have X9 := Bo.new w7 #[.int .i64 K2, .bool s2, .int .u64 M2, .int .i64 E2] 24
      generalize hWn : World.alloc w7 (.cells #[.int .i64 K2, .bool s2, .int .u64 M2, .int .i64 E2] 24) = w8 at *
      clear hWn
      clear lX9
      go_wp2_with fail
      refine (aSum hT h0 HR.out).mono ?_
      rintro ee w9 ⟨K3, s3, M3, E3, rfl, q3, B⟩
      replace X8 := X8.below B
      replace X9 := X9.below B
      replace hT := hT.below B
      replace h0 := h0.below B
      replace HB := Lib.hid (bt HB.out B)
      clear B
      go_wp2_with fail
      refine (gSum h0 HNE.out HRS.out).mono ?_
      rintro ee wA ⟨K4, s4, M4, E4, rfl, q4, B⟩
      replace X8 := X8.below B
      replace X9 := X9.below B
      replace hT := hT.below B
      replace h0 := h0.below B
      replace HB := Lib.hid (bt HB.out B)
      clear B
      obtain ⟨rfl, rfl, rfl, rfl⟩ := q3.uniq q4
      clear q3 q4
      have xX80 := X8.at (i := 0) (v := .int .i64 K1) rfl
      have xX81 := X8.at (i := 1) (v := .bool s1) rfl
      have xX82 := X8.at (i := 2) (v := .int .u64 M1) rfl
      have xX83 := X8.at (i := 3) (v := .int .i64 E1) rfl
      have xX90 := X9.at (i := 0) (v := .int .i64 K2) rfl
      have xX91 := X9.at (i := 1) (v := .bool s2) rfl
      have xX92 := X9.at (i := 2) (v := .int .u64 M2) rfl
      have xX93 := X9.at (i := 3) (v := .int .i64 E2) rfl
      go_wp2_with fail
      refine (nCmp (z := c) q1.top q2.top (by rw [q1.rk, q2.rk]; exact HC.out)).mono ?_
      rintro ee wB ⟨rfl, B⟩
      clear xX80 xX81 xX82 xX83 xX90 xX91 xX92 xX93
      replace X8 := X8.below B
      replace X9 := X9.below B
      replace hT := hT.below B
      replace h0 := h0.below B
      replace HB := Lib.hid (bt HB.out B)
      clear B
      go_wp2
      go_ret
      exact ⟨rfl, HB.out⟩

theorem arithMany_walk (a0 : Option Addr) (len0 cap0 : Nat) (b1 : Bool) (w : World) (hT : Tb w) (w0 : RowsN w a0 len0 cap0)  :
    Calls Tryd.prog 5 #[.slice a0 len0 cap0, .bool b1] w fun e w' => e = .returned (.bool true) ∧ Below w.heap.size w w' := by
  by_cases hn : len0 ≤ 20
  · obtain ⟨l, hl⟩ := w0.nl (by omega)
    exact arithMany_main a0 len0 cap0 b1 w l hT hl hn
  · exact arithMany_far a0 len0 cap0 b1 w hT (by omega) w0.len
end Go.Proofs.YtbhnpmkdmnnclaaDoor
