/-
  Contracts and words that the statement's proof rests on, several texts in one: Kf, Kg, Jt, Kh.
-/
import Derived.Below
import Derived.BigQuiet
import Derived.Carry
import Derived.Deep.DeepCutAuto
import Derived.Deep.Draws
import Derived.Deep.MidRow
import Derived.Deep.QuietTactic
import Derived.Deep.RegionHeld3
import Derived.Deep.RegionWith
import Derived.IntWalk
import Derived.Laws.CopyOwn
import Derived.Laws.MakeOwn
import Derived.Laws.OwnMore
import Derived.Laws.Rows
import Derived.Lib.BitFns
import Derived.Lib.Hide
import Derived.Maps.AppendAt
import Derived.StillTailTactics
import Derived.Test.YtpmakljahhhnfaaGreatDoorRows
import Derived.WalkKit
import Derived.WalkLawsBesides
import Derived.WalkSpells
import Derived.Test.YtpmakljahhhnfaaGreatDoorYAah
import Derived.Test.YtpmakljahhhnfaaGreatDoorYAam
import Derived.Test.YtpmakljahhhnfaaGreatDoorYAao
import Derived.Test.YtpmakljahhhnfaaGreatDoorYAaq
import Derived.Test.YtpmakljahhhnfaaGreatDoorYAar
/-
  How many bits a number of 64 bits needs, by math/bits; what num.Of does.
-/
namespace Go.Proofs.YtpmakljahhhnfaaGreatDoor
open Go.RowKit
set_option linter.unusedVariables false
set_option linter.unusedSimpArgs false
set_option maxRecDepth 100000

set_option maxHeartbeats 1000000 in
theorem len64_111 (z : Int) (q : Nat) (w : World) (h0 : 0 ≤ z) (hz : z ≤ 18446744073709551615) (h1 : 4294967296 ≤ z) (h2 : 65536 ≤ z / 4294967296) (h3 : 256 ≤ z / 4294967296 / 65536) (hq : q ≤ 8)
    (hi : ∀ W, (Instr.index 9 (.string Lib.len8tab) (.int .u8 (z / 4294967296 / 65536 / 256))).run Tryz.prog W = .ok (.int .u8 (q : Int)) W) :
    Calls Tryz.prog 82 #[.int .u64 z] w fun e w' => e = .returned (.int .i64 (56 + q : Int)) ∧ w = w' := by
  go_enter Tryz.func82, Tryz.ntmps82
  go_wp2
  go_ret
  exact ⟨rfl, rfl⟩
set_option maxHeartbeats 1000000 in
theorem len64_110 (z : Int) (q : Nat) (w : World) (h0 : 0 ≤ z) (hz : z ≤ 18446744073709551615) (h1 : 4294967296 ≤ z) (h2 : 65536 ≤ z / 4294967296) (h3 : z / 4294967296 / 65536 < 256) (hq : q ≤ 8)
    (hi : ∀ W, (Instr.index 9 (.string Lib.len8tab) (.int .u8 (z / 4294967296 / 65536))).run Tryz.prog W = .ok (.int .u8 (q : Int)) W) :
    Calls Tryz.prog 82 #[.int .u64 z] w fun e w' => e = .returned (.int .i64 (48 + q : Int)) ∧ w = w' := by
  go_enter Tryz.func82, Tryz.ntmps82
  go_wp2
  go_ret
  exact ⟨rfl, rfl⟩
set_option maxHeartbeats 1000000 in
theorem len64_101 (z : Int) (q : Nat) (w : World) (h0 : 0 ≤ z) (hz : z ≤ 18446744073709551615) (h1 : 4294967296 ≤ z) (h2 : z / 4294967296 < 65536) (h3 : 256 ≤ z / 4294967296) (hq : q ≤ 8)
    (hi : ∀ W, (Instr.index 9 (.string Lib.len8tab) (.int .u8 (z / 4294967296 / 256))).run Tryz.prog W = .ok (.int .u8 (q : Int)) W) :
    Calls Tryz.prog 82 #[.int .u64 z] w fun e w' => e = .returned (.int .i64 (40 + q : Int)) ∧ w = w' := by
  go_enter Tryz.func82, Tryz.ntmps82
  go_wp2
  go_ret
  exact ⟨rfl, rfl⟩
set_option maxHeartbeats 1000000 in
theorem len64_100 (z : Int) (q : Nat) (w : World) (h0 : 0 ≤ z) (hz : z ≤ 18446744073709551615) (h1 : 4294967296 ≤ z) (h2 : z / 4294967296 < 65536) (h3 : z / 4294967296 < 256) (hq : q ≤ 8)
    (hi : ∀ W, (Instr.index 9 (.string Lib.len8tab) (.int .u8 (z / 4294967296))).run Tryz.prog W = .ok (.int .u8 (q : Int)) W) :
    Calls Tryz.prog 82 #[.int .u64 z] w fun e w' => e = .returned (.int .i64 (32 + q : Int)) ∧ w = w' := by
  go_enter Tryz.func82, Tryz.ntmps82
  go_wp2
  go_ret
  exact ⟨rfl, rfl⟩
set_option maxHeartbeats 1000000 in
theorem len64_011 (z : Int) (q : Nat) (w : World) (h0 : 0 ≤ z) (hz : z ≤ 18446744073709551615) (h1 : z < 4294967296) (h2 : 65536 ≤ z) (h3 : 256 ≤ z / 65536) (hq : q ≤ 8)
    (hi : ∀ W, (Instr.index 9 (.string Lib.len8tab) (.int .u8 (z / 65536 / 256))).run Tryz.prog W = .ok (.int .u8 (q : Int)) W) :
    Calls Tryz.prog 82 #[.int .u64 z] w fun e w' => e = .returned (.int .i64 (24 + q : Int)) ∧ w = w' := by
  go_enter Tryz.func82, Tryz.ntmps82
  go_wp2
  go_ret
  exact ⟨rfl, rfl⟩
set_option maxHeartbeats 1000000 in
theorem len64_010 (z : Int) (q : Nat) (w : World) (h0 : 0 ≤ z) (hz : z ≤ 18446744073709551615) (h1 : z < 4294967296) (h2 : 65536 ≤ z) (h3 : z / 65536 < 256) (hq : q ≤ 8)
    (hi : ∀ W, (Instr.index 9 (.string Lib.len8tab) (.int .u8 (z / 65536))).run Tryz.prog W = .ok (.int .u8 (q : Int)) W) :
    Calls Tryz.prog 82 #[.int .u64 z] w fun e w' => e = .returned (.int .i64 (16 + q : Int)) ∧ w = w' := by
  go_enter Tryz.func82, Tryz.ntmps82
  go_wp2
  go_ret
  exact ⟨rfl, rfl⟩
set_option maxHeartbeats 1000000 in
theorem len64_001 (z : Int) (q : Nat) (w : World) (h0 : 0 ≤ z) (hz : z ≤ 18446744073709551615) (h1 : z < 4294967296) (h2 : z < 65536) (h3 : 256 ≤ z) (hq : q ≤ 8)
    (hi : ∀ W, (Instr.index 9 (.string Lib.len8tab) (.int .u8 (z / 256))).run Tryz.prog W = .ok (.int .u8 (q : Int)) W) :
    Calls Tryz.prog 82 #[.int .u64 z] w fun e w' => e = .returned (.int .i64 (8 + q : Int)) ∧ w = w' := by
  go_enter Tryz.func82, Tryz.ntmps82
  go_wp2
  go_ret
  exact ⟨rfl, rfl⟩
set_option maxHeartbeats 1000000 in
theorem len64_000 (z : Int) (q : Nat) (w : World) (h0 : 0 ≤ z) (hz : z ≤ 18446744073709551615) (h1 : z < 4294967296) (h2 : z < 65536) (h3 : z < 256) (hq : q ≤ 8)
    (hi : ∀ W, (Instr.index 9 (.string Lib.len8tab) (.int .u8 (z))).run Tryz.prog W = .ok (.int .u8 (q : Int)) W) :
    Calls Tryz.prog 82 #[.int .u64 z] w fun e w' => e = .returned (.int .i64 (0 + q : Int)) ∧ w = w' := by
  go_enter Tryz.func82, Tryz.ntmps82
  go_wp2
  go_ret
  exact ⟨ret_int (by omega), rfl⟩
theorem len64_any (x : Nat) (hx : x < 18446744073709551616) (w : World) :
    Calls Tryz.prog 82 #[.int .u64 (x : Int)] w fun e w' => e = .returned (.int .i64 (blen x : Int)) ∧ w = w' := by
  by_cases h0 : 4294967296 ≤ x
  · have s0 := blen_shift (x) 32 (by omega)
    rw [show 2 ^ 32 = 4294967296 by decide] at s0
    by_cases h1 : 65536 ≤ x / 4294967296
    · have s1 := blen_shift (x / 4294967296) 16 (by omega)
      rw [show 2 ^ 16 = 65536 by decide] at s1
      by_cases h2 : 256 ≤ x / 4294967296 / 65536
      · have s2 := blen_shift (x / 4294967296 / 65536) 8 (by omega)
        rw [show 2 ^ 8 = 256 by decide] at s2
        have := len64_111 (x : Int) (blen (x / 4294967296 / 65536 / 256)) w (by omega) (by omega) (by omega) (by omega) (by omega) (blen_mono_le (by omega)) (fun W => index_len8 W (x / 4294967296 / 65536 / 256) (by omega))
        exact this.mono fun e w' h => ⟨h.1.trans (ret_int (by omega)), h.2⟩
      · have := len64_110 (x : Int) (blen (x / 4294967296 / 65536)) w (by omega) (by omega) (by omega) (by omega) (by omega) (blen_mono_le (by omega)) (fun W => index_len8 W (x / 4294967296 / 65536) (by omega))
        exact this.mono fun e w' h => ⟨h.1.trans (ret_int (by omega)), h.2⟩
    · by_cases h2 : 256 ≤ x / 4294967296
      · have s2 := blen_shift (x / 4294967296) 8 (by omega)
        rw [show 2 ^ 8 = 256 by decide] at s2
        have := len64_101 (x : Int) (blen (x / 4294967296 / 256)) w (by omega) (by omega) (by omega) (by omega) (by omega) (blen_mono_le (by omega)) (fun W => index_len8 W (x / 4294967296 / 256) (by omega))
        exact this.mono fun e w' h => ⟨h.1.trans (ret_int (by omega)), h.2⟩
      · have := len64_100 (x : Int) (blen (x / 4294967296)) w (by omega) (by omega) (by omega) (by omega) (by omega) (blen_mono_le (by omega)) (fun W => index_len8 W (x / 4294967296) (by omega))
        exact this.mono fun e w' h => ⟨h.1.trans (ret_int (by omega)), h.2⟩
  · by_cases h1 : 65536 ≤ x
    · have s1 := blen_shift (x) 16 (by omega)
      rw [show 2 ^ 16 = 65536 by decide] at s1
      by_cases h2 : 256 ≤ x / 65536
      · have s2 := blen_shift (x / 65536) 8 (by omega)
        rw [show 2 ^ 8 = 256 by decide] at s2
        have := len64_011 (x : Int) (blen (x / 65536 / 256)) w (by omega) (by omega) (by omega) (by omega) (by omega) (blen_mono_le (by omega)) (fun W => index_len8 W (x / 65536 / 256) (by omega))
        exact this.mono fun e w' h => ⟨h.1.trans (ret_int (by omega)), h.2⟩
      · have := len64_010 (x : Int) (blen (x / 65536)) w (by omega) (by omega) (by omega) (by omega) (by omega) (blen_mono_le (by omega)) (fun W => index_len8 W (x / 65536) (by omega))
        exact this.mono fun e w' h => ⟨h.1.trans (ret_int (by omega)), h.2⟩
    · by_cases h2 : 256 ≤ x
      · have s2 := blen_shift (x) 8 (by omega)
        rw [show 2 ^ 8 = 256 by decide] at s2
        have := len64_001 (x : Int) (blen (x / 256)) w (by omega) (by omega) (by omega) (by omega) (by omega) (blen_mono_le (by omega)) (fun W => index_len8 W (x / 256) (by omega))
        exact this.mono fun e w' h => ⟨h.1.trans (ret_int (by omega)), h.2⟩
      · have := len64_000 (x : Int) (blen (x)) w (by omega) (by omega) (by omega) (by omega) (by omega) (blen_mono_le (by omega)) (fun W => index_len8 W (x) (by omega))
        exact this.mono fun e w' h => ⟨h.1.trans (ret_int (by omega)), h.2⟩

set_option maxHeartbeats 400000 in
theorem lead64_any {x : Nat} {z a : Int} (w : World) (hx : x < 18446744073709551616) (hz : (x : Int) = z) (ha : 64 - (blen x : Int) = a) :
    Calls Tryz.prog 43 #[.int .u64 z] w (PI w a) := by
  have hb := blen_mono_le (n := x) (k := 64) hx
  subst hz
  subst ha
  go_enter Tryz.func43, Tryz.ntmps43
  go_wp2_with (go_at_call 82; refine (len64_any x hx _).mono ?_; rintro e w' ⟨rfl, rfl⟩)
  go_ret
  exact ⟨rfl, Below.refl _ _⟩
theorem of_fq {n : Int} (h0 : n ≠ 0) (h1 : -9223372036854775808 ≤ n) (h2 : n ≤ 9223372036854775807) : Fq 1 (decide (n < 0)) ((tp n.natAbs : Nat) : Int) (-(64 - (blen n.natAbs : Int))) (sgi (decide (n < 0)) (lo n.natAbs 0)) := by
  have hm : n.natAbs ≠ 0 := by omega
  have a1 := tp_ge hm
  have a2 := tp_lt n.natAbs
  have a3 := blen_mono_le (n := n.natAbs) (k := 64) (by omega)
  refine Fq.fin (by omega) (by omega) (by omega) (by omega) ?_
  congr 1
  unfold lo xp
  rw [if_neg hm, if_neg (by omega), if_neg (by omega)]
  omega
theorem of_shl {n : Int} (h0 : n ≠ 0) (h1 : -9223372036854775808 ≤ n) (h2 : n ≤ 9223372036854775807) : (n.natAbs : Int) * 2 ^ (64 - (blen n.natAbs : Int)).toNat = ((tp n.natAbs : Nat) : Int) := by
  have a3 := blen_mono_le (n := n.natAbs) (k := 64) (by omega)
  rw [tp_small a3, show (64 - (blen n.natAbs : Int)).toNat = 64 - blen n.natAbs by omega]
  push_cast
  rfl
set_option maxHeartbeats 2000000 in
theorem nOf {n r : Int} (w : World) (h1 : -9223372036854775808 ≤ n) (h2 : n ≤ 9223372036854775807) (hr : sgi (decide (n < 0)) (lo n.natAbs 0) = r) : Calls Tryz.prog 16 #[.int .i64 n] w (PN w r) := by
  by_cases h0 : n = 0
  · subst h0
    obtain rfl : 0 = r := hr
    go_enter Tryz.func16, Tryz.ntmps16
    go_upto_region 1 with (fail)
    have XR := (Bo.newAt w (g := w.heap.size) (by simp) #[.int .i64 0, .bool false, .int .u64 0, .int .i64 0] 24)
    have HB := Lib.hid (bel1 w (.cells #[.int .i64 0, .bool false, .int .u64 0, .int .i64 0] 24))
    generalize hW1 : (w.alloc (.cells #[.int .i64 0, .bool false, .int .u64 0, .int .i64 0] 24)) = w1 at *
    clear hW1
    have xXR0 := XR.a 0 (.int .i64 0) rfl
    have zXR0 := XR.frozen 0
    have xXR1 := XR.a 1 (.bool false) rfl
    have zXR1 := XR.frozen 1
    have xXR2 := XR.a 2 (.int .u64 0) rfl
    have zXR2 := XR.frozen 2
    have xXR3 := XR.a 3 (.int .i64 0) rfl
    have zXR3 := XR.frozen 3
    go_wp2
    clear xXR0 zXR0 xXR1 zXR1 xXR2 zXR2 xXR3 zXR3
    have SX := StN.mk4 XR (.int .i64 0) (.bool false) (.int .u64 0) (.int .i64 0)
    replace HB := Lib.hid (SX.below HB.out (by omega))
    replace XR := SX.box
    clear SX
    generalize (World.setCell (World.setCell (World.setCell (World.setCell w1 ⟨w.heap.size, 0, none⟩ (.int .i64 0)) ⟨w.heap.size, 1, none⟩ (.bool false)) ⟨w.heap.size, 2, none⟩ (.int .u64 0)) ⟨w.heap.size, 3, none⟩ (.int .i64 0)) = w3 at *
    have r0 := XR.cell 0
    have r1 := XR.cell 1
    have r2 := XR.cell 2
    have r3 := XR.cell 3
    exact bodyPost_ret (v := .agg #[.int .i64 0, .bool false, .int .u64 0, .int .i64 0]) (by simp [results, Tryz.results16, go_sem, r0, r1, r2, r3]) rfl ⟨_, _, _, _, rfl, Fq.nought, HB.out⟩
  · have HQ := of_fq h0 h1 h2
    have hs := of_shl h0 h1 h2
    have e0 : (n == 0) = false := by simpa using h0
    have hx : n.natAbs < 18446744073709551616 := by omega
    have hb := blen_mono_le (n := n.natAbs) (k := 64) (by omega)
    have t1 := tp_lt n.natAbs
    rw [hr] at HQ
    clear hr
    by_cases hs0 : n < 0
    · obtain ⟨a, ha⟩ : ∃ a, 64 - (blen n.natAbs : Int) = a := ⟨_, rfl⟩
      have hn : ((n.natAbs : Nat) : Int) = -n := by omega
      rw [ha] at HQ hs
      rw [hn] at hs
      have hd : decide (n < 0) = true := by simp; omega
      rw [hd] at HQ
      have HA := Lib.hid ha
      have HN := Lib.hid hn
      obtain ⟨T, hT⟩ : ∃ T, ((tp n.natAbs : Nat) : Int) = T := ⟨_, rfl⟩
      rw [hT] at HQ hs
      have hT2 : 0 ≤ T ∧ T < 18446744073709551616 := by omega
      have HS := Lib.hid hs
      have HW := Lib.hid (show IntKind.u64.wrap T = T from IntWalk.u64_in _ (by omega))
      have a1 : 0 ≤ a := by omega
      have hb0 : blen n.natAbs ≠ 0 := fun e => h0 (by have := blen_eq_zero.1 e; omega)
      have a2 : a < 64 := by omega
      clear hb0
      clear hs ha hb t1 hT hn hT2
      go_enter Tryz.func16, Tryz.ntmps16
      go_upto_region 1 with (fail)
      have XR := (Bo.newAt w (g := w.heap.size) (by simp) #[.int .i64 0, .bool false, .int .u64 0, .int .i64 0] 24)
      have HB := Lib.hid (bel1 w (.cells #[.int .i64 0, .bool false, .int .u64 0, .int .i64 0] 24))
      generalize hW1 : (w.alloc (.cells #[.int .i64 0, .bool false, .int .u64 0, .int .i64 0] 24)) = w1 at *
      clear hW1
      have hx1 : n.natAbs < 18446744073709551616 := hx
      have hc : IntKind.u64.wrap (-IntKind.u64.wrap n) = -n := by
        show (-(n % 18446744073709551616)) % 18446744073709551616 = -n
        omega
      go_wp2_with fail
      refine (lead64_any _ hx HN.out HA.out).mono ?_
      rintro ee w2 ⟨rfl, B⟩
      replace XR := XR.below B
      replace HB := Lib.hid (bt HB.out B)
      clear B
      have hs := HS.out
      have hw := HW.out
      have xXR0 := XR.a 0 (.int .i64 0) rfl
      have zXR0 := XR.frozen 0
      have xXR1 := XR.a 1 (.bool false) rfl
      have zXR1 := XR.frozen 1
      have xXR2 := XR.a 2 (.int .u64 0) rfl
      have zXR2 := XR.frozen 2
      have xXR3 := XR.a 3 (.int .i64 0) rfl
      have zXR3 := XR.frozen 3
      go_wp2
      clear xXR0 zXR0 xXR1 zXR1 xXR2 zXR2 xXR3 zXR3
      have SX := StN.mk4 XR (.int .i64 1) (.bool true) (.int .u64 T) (.int .i64 (-a))
      replace HB := Lib.hid (SX.below HB.out (by omega))
      replace XR := SX.box
      clear SX
      generalize (World.setCell (World.setCell (World.setCell (World.setCell w2 ⟨w.heap.size, 0, none⟩ (.int .i64 1)) ⟨w.heap.size, 1, none⟩ (.bool true)) ⟨w.heap.size, 2, none⟩ (.int .u64 T)) ⟨w.heap.size, 3, none⟩ (.int .i64 (-a))) = w3 at *
      have r0 := XR.cell 0
      have r1 := XR.cell 1
      have r2 := XR.cell 2
      have r3 := XR.cell 3
      exact bodyPost_ret (v := .agg #[.int .i64 1, .bool true, .int .u64 T, .int .i64 (-a)]) (by simp [results, Tryz.results16, go_sem, r0, r1, r2, r3]) rfl ⟨_, _, _, _, rfl, HQ, HB.out⟩
    · obtain ⟨a, ha⟩ : ∃ a, 64 - (blen n.natAbs : Int) = a := ⟨_, rfl⟩
      have hn : ((n.natAbs : Nat) : Int) = n := by omega
      rw [ha] at HQ hs
      rw [hn] at hs
      have hd : decide (n < 0) = false := by simp; omega
      rw [hd] at HQ
      have HA := Lib.hid ha
      have HN := Lib.hid hn
      obtain ⟨T, hT⟩ : ∃ T, ((tp n.natAbs : Nat) : Int) = T := ⟨_, rfl⟩
      rw [hT] at HQ hs
      have hT2 : 0 ≤ T ∧ T < 18446744073709551616 := by omega
      have HS := Lib.hid hs
      have HW := Lib.hid (show IntKind.u64.wrap T = T from IntWalk.u64_in _ (by omega))
      have a1 : 0 ≤ a := by omega
      have hb0 : blen n.natAbs ≠ 0 := fun e => h0 (by have := blen_eq_zero.1 e; omega)
      have a2 : a < 64 := by omega
      clear hb0
      clear hs ha hb t1 hT hn hT2
      go_enter Tryz.func16, Tryz.ntmps16
      go_upto_region 1 with (fail)
      have XR := (Bo.newAt w (g := w.heap.size) (by simp) #[.int .i64 0, .bool false, .int .u64 0, .int .i64 0] 24)
      have HB := Lib.hid (bel1 w (.cells #[.int .i64 0, .bool false, .int .u64 0, .int .i64 0] 24))
      generalize hW1 : (w.alloc (.cells #[.int .i64 0, .bool false, .int .u64 0, .int .i64 0] 24)) = w1 at *
      clear hW1
      have hx1 : n.natAbs < 18446744073709551616 := hx
      go_wp2_with fail
      refine (lead64_any _ hx HN.out HA.out).mono ?_
      rintro ee w2 ⟨rfl, B⟩
      replace XR := XR.below B
      replace HB := Lib.hid (bt HB.out B)
      clear B
      have hs := HS.out
      have hw := HW.out
      have xXR0 := XR.a 0 (.int .i64 0) rfl
      have zXR0 := XR.frozen 0
      have xXR1 := XR.a 1 (.bool false) rfl
      have zXR1 := XR.frozen 1
      have xXR2 := XR.a 2 (.int .u64 0) rfl
      have zXR2 := XR.frozen 2
      have xXR3 := XR.a 3 (.int .i64 0) rfl
      have zXR3 := XR.frozen 3
      go_wp2
      clear xXR0 zXR0 xXR1 zXR1 xXR2 zXR2 xXR3 zXR3
      have SX := StN.mk4 XR (.int .i64 1) (.bool false) (.int .u64 T) (.int .i64 (-a))
      replace HB := Lib.hid (SX.below HB.out (by omega))
      replace XR := SX.box
      clear SX
      generalize (World.setCell (World.setCell (World.setCell (World.setCell w2 ⟨w.heap.size, 0, none⟩ (.int .i64 1)) ⟨w.heap.size, 1, none⟩ (.bool false)) ⟨w.heap.size, 2, none⟩ (.int .u64 T)) ⟨w.heap.size, 3, none⟩ (.int .i64 (-a))) = w3 at *
      have r0 := XR.cell 0
      have r1 := XR.cell 1
      have r2 := XR.cell 2
      have r3 := XR.cell 3
      exact bodyPost_ret (v := .agg #[.int .i64 1, .bool false, .int .u64 T, .int .i64 (-a)]) (by simp [results, Tryz.results16, go_sem, r0, r1, r2, r3]) rfl ⟨_, _, _, _, rfl, HQ, HB.out⟩
end Go.Proofs.YtpmakljahhhnfaaGreatDoor

/-
  What num.Least and Most do, and the document's.
-/
namespace Go.Proofs.YtpmakljahhhnfaaGreatDoor
open Go.RowKit
set_option linter.unusedVariables false
set_option linter.unusedSimpArgs false
set_option maxRecDepth 100000

def Jo.Fact.num (r : Int) : Jo.Fact := ⟨fun v w => ∃ K s M E, v = .agg #[.int .i64 K, .bool s, .int .u64 M, .int .i64 E] ∧ Fq K s M E r, fun v w w' h b => h⟩
end Go.Proofs.YtpmakljahhhnfaaGreatDoor

/-
  The joint rule for a region with a store that may come before or behind other operations: the stored box is as it was or as it is to be, all other blocks are as they were. No Go text.
-/
namespace Go.Proofs.YtpmakljahhhnfaaGreatDoor.Jo
open Go Go.RowKit
set_option linter.unusedVariables false

/-- All blocks but g are as they were; g is as it was, or just the cells new. -/
structure Off (g : Nat) (new : Array Value) (R : TypeId) (w w' : World) : Prop where
  os : w'.os = w.os
  tape : w'.tape = w.tape
  output : w'.output = w.output
  size : w.heap.size ≤ w'.heap.size
  block : ∀ k, k < w.heap.size → k ≠ g → w'.heap[k]? = w.heap[k]?
  own : w'.heap[g]? = w.heap[g]? ∨ w'.heap[g]? = some (.cells new R (0, 0))

section
variable {g : Nat} {new : Array Value} {R : TypeId} {w w' w'' : World}
theorem Off.refl (g : Nat) (new : Array Value) (R : TypeId) (w : World) : Off g new R w w := ⟨rfl, rfl, rfl, Nat.le_refl _, fun _ _ _ => rfl, .inl rfl⟩
theorem Off.drew (w : World) : Off g new R w w.drew := ⟨rfl, rfl, rfl, Nat.le_refl _, fun _ _ _ => rfl, .inl rfl⟩
theorem Off.trans (h : Off g new R w w') (k : Off g new R w' w'') : Off g new R w w'' :=
  ⟨k.os.trans h.os, k.tape.trans h.tape, k.output.trans h.output, Nat.le_trans h.size k.size, fun i hi hn => (k.block i (Nat.lt_of_lt_of_le hi h.size) hn).trans (h.block i hi hn), by
    rcases k.own with e | e
    · rcases h.own with f | f
      · exact .inl (e.trans f)
      · exact .inr (e.trans f)
    · exact .inr e⟩
theorem Off.of_below (h : Below w.heap.size w w') (hg : g < w.heap.size) : Off g new R w w' := ⟨h.os, h.tape, h.output, h.size, fun k hk _ => h.block k hk, .inl (h.block g hg)⟩
theorem Off.of_stn {old : Array Value} (S : StN w w' g old new R) : Off g new R w w' := by
  have hb := S.2.2.2 0 w (Nat.zero_le _) (Below.refl 0 w)
  exact ⟨hb.os, hb.tape, hb.output, hb.size, fun k _ hn => S.2.2.1 k hn, .inr S.2.1⟩
theorem Off.below {B : Nat} {a : World} (O : Off g new R w w') (h : Below B a w) (hB : B ≤ g) (hg : g < w.heap.size) : Below B a w' :=
  ⟨O.os.trans h.os, O.tape.trans h.tape, O.output.trans h.output, Nat.le_trans h.size O.size, fun k hk => (O.block k (by omega) (by omega)).trans (h.block k hk)⟩
theorem _root_.Go.Proofs.YtpmakljahhhnfaaGreatDoor.Bo.off {k : Nat} {cs : Array Value} {T : TypeId} (X : Bo w k cs T) (hk : k ≠ g) (O : Off g new R w w') : Bo w' k cs T := X.keep (O.block k X.lt hk)
theorem _root_.Go.Proofs.YtpmakljahhhnfaaGreatDoor.Nm.off {old : Array Value} {B : Option Addr} {m d a : Nat} (h : Nm w B m d a) (X : Bo w g old R) (hn : old.all no32 = true) (O : Off g new R w w') : Nm w' B m d a := by
  obtain ⟨b, h⟩ := h
  exact ⟨b, h.keep fun hm => O.block b (h.lt hm) (fun e => by
    obtain ⟨o, _, hc⟩ := h.at hm
    have := hc 0 hm
    rw [e] at this
    exact X.no hn this)⟩
theorem _root_.Go.Proofs.YtpmakljahhhnfaaGreatDoor.Rd.off {old : Array Value} {B : Option Addr} {m d a : Nat} (h : Rd w B m d a) (X : Bo w g old R) (hn : old.all no32 = true) (O : Off g new R w w') : Rd w' B m d a := by
  obtain ⟨b, xs, h, e⟩ := h
  exact ⟨b, xs, h.keep fun hm => O.block b (h.lt hm) (fun e => by
    obtain ⟨o, _, hc⟩ := h.at hm
    have := hc 0 hm
    rw [e] at this
    exact X.no hn this), e⟩
end

/-- What is known of a value, kept by what such a region does. -/
structure LFact (g : Nat) (new : Array Value) (R : TypeId) where
  P : Value → World → Prop
  keep : ∀ v w w', P v w → Off g new R w w' → P v w'
section
variable {g : Nat} {new : Array Value} {R : TypeId}
def LFact.any : LFact g new R := ⟨fun _ _ => True, fun _ _ _ h _ => h⟩
def LFact.eq (u : Value) : LFact g new R := ⟨fun v _ => v = u, fun _ _ _ h _ => h⟩
/-- The store is done. -/
def LFact.done : LFact g new R := ⟨fun _ w => Bo w g new R, fun v w w' h o => by
  rcases o.own with e | e
  · exact h.keep e
  · exact e⟩
def lphi (F : List (LFact g new R)) (i : Nat) (v : Value) (w : World) : Prop := (F.getD i LFact.any).P v w
variable {P : Program} {ops : Array Oper} {Q : Exit → Act → World → Prop} {a0 : Act} {T : List Nat} {ds : List (Option Tmp)} {ls : List (List Nat)} {k : Nat} {F : List (LFact g new R)} {J : World → Prop}
theorem lcons {i : Nat} {o : Oper} {r : List Nat} {di : Option Tmp} {L : List (Option Tmp × Nat)} {f : LFact g new R} (ho : ops[i]? = some o) (hdi : ds.getD i none = di) (hL : ((ls.getD i []).map fun j => (ds.getD j none, j)) = L) (hf : F.getD i LFact.any = f)
    (h : ∀ vs w, J w → (∀ j ∈ ls.getD i [], lphi F j (vs j) w) → ∀ K : Act → World → Prop, Shut (∀ v w', f.P v w' → Off g new R w w' → K ((putl vs L a0).put di v) w') →
      if Region.wanted o (yielded ops (putl vs L a0).tmps) = true then Oper.wp P o (putl vs L a0) w K Q else K ((putl vs L a0).put o.dst undef) w)
    (hs : Steps P ops Q a0 (dstOf ds) (depOf ls) (lphi F) J (Off g new R) r) : Steps P ops Q a0 (dstOf ds) (depOf ls) (lphi F) J (Off g new R) (i :: r) := by
  refine Steps.cons ho (fun vs w hJ hd K hK => ?_) hs
  have e : base (dstOf ds) vs (depOf ls i) a0 = putl vs L a0 := by
    rw [base_putl, ← hL]
    rfl
  rw [e] at hK ⊢
  refine h vs w hJ hd K ?_
  intro v w' h1 h2
  have := hK.out v w' (by unfold lphi; rw [hf]; exact h1) h2
  rwa [show dstOf ds i = di from hdi] at this
theorem region_late {id fuel : Nat} {w : World} {L : List (Option Tmp × Nat)} (hm : P.follows .mixedOrders = true) (hok : ok .any ops T (dstOf ds) (depOf ls) k a0.tmps.size = true) (hnd : T.Nodup)
    (hL : (T.map fun j => (ds.getD j none, j)) = L) (hfu : ops.size - T.length = fuel)
    (step : Steps P ops (NoPanic Q) a0 (dstOf ds) (depOf ls) (lphi F) (fun wj => Off g new R w wj) (Off g new R) T)
    (fin : ∀ vs wj, Off g new R w wj → (∀ j ∈ T, lphi F j (vs j) wj) → wpAny P .any ops (NoPanic Q) fuel (mark T ops.size) (putl vs L a0) wj) :
    (Code.region id ops true).wp P Q a0 w := by
  refine wp_region_noPanic ?_
  refine wp_region_joint (T := T) (dst := dstOf ds) (D := depOf ls) (k := k) (Φ := lphi F) (J := fun wj => Off g new R w wj) (St := Off g new R) hm hok hnd (fun _ _ _ _ h => h) (fun i _ v w w' h b => (F.getD i LFact.any).keep v w w' h b) (fun _ _ h b => h.trans b) (Off.drew w) step ?_
  intro vs w hJ hd
  have e : base (dstOf ds) vs T a0 = putl vs L a0 := by
    rw [base_putl, ← hL]
    rfl
  rw [e, hfu]
  exact fin vs w hJ hd
end
end Go.Proofs.YtpmakljahhhnfaaGreatDoor.Jo
namespace Go.Proofs.YtpmakljahhhnfaaGreatDoor
open Go.RowKit
open Go in
theorem Jo.ld {g : Nat} {new : Array Value} {R : TypeId} {P : Program} {ops : Array Oper} {Q : Exit → Act → World → Prop} {a0 : Act} {ds : List (Option Tmp)} {ls : List (List Nat)} {F : List (Jo.LFact g new R)} {J : World → Prop} (i : Nat) (di : Option Tmp) (L : List (Option Tmp × Nat)) (f : Jo.LFact g new R) {o : Oper} {r : List Nat} (ho : ops[i]? = some o) (hdi : ds.getD i none = di) (hL : ((ls.getD i []).map fun j => (ds.getD j none, j)) = L) (hf : F.getD i Jo.LFact.any = f)
    (h : ∀ vs w, J w → (∀ j ∈ ls.getD i [], Jo.lphi F j (vs j) w) → ∀ K : Act → World → Prop, Shut (∀ v w', f.P v w' → Jo.Off g new R w w' → K ((Jo.putl vs L a0).put di v) w') →
      if Region.wanted o (yielded ops (Jo.putl vs L a0).tmps) = true then Oper.wp P o (Jo.putl vs L a0) w K Q else K ((Jo.putl vs L a0).put o.dst undef) w)
    (hs : Jo.Steps P ops Q a0 (Jo.dstOf ds) (Jo.depOf ls) (Jo.lphi F) J (Jo.Off g new R) r) : Jo.Steps P ops Q a0 (Jo.dstOf ds) (Jo.depOf ls) (Jo.lphi F) J (Jo.Off g new R) (i :: r) := Jo.lcons ho hdi hL hf h hs
end Go.Proofs.YtpmakljahhhnfaaGreatDoor

/-
  What num.word and cut do, and the document's word.
-/
namespace Go.Proofs.YtpmakljahhhnfaaGreatDoor
open Go.RowKit
set_option linter.unusedVariables false
set_option linter.unusedSimpArgs false
set_option maxRecDepth 100000

theorem vShlA {w : World} {A1 : Option Addr} {n c1 a r : Nat} {z : Int} (h1 : Rd w A1 n c1 a) (hn : n ≤ 1000000) (hz : z ≤ 16777216) (hr : a * 2 ^ z.toNat = r) : Calls Tryz.prog 52 #[.slice A1 n c1, .int .i64 z] w (P1 w (n + z.toNat / 32 + 1) r) := by
  subst hr
  by_cases h0 : z < 1
  · rw [show z.toNat = 0 by omega, Nat.pow_zero, Nat.mul_one]
    refine (vShl_low z h1 h0).mono ?_
    rintro e w' ⟨A, m, c, e, h, k, B⟩
    exact ⟨A, m, c, e, h, by omega, B⟩
  · have := vShl z.toNat h1 (by omega) (by omega)
    rwa [show ((z.toNat : Nat) : Int) = z by omega] at this
/-- A word is answered. -/
def PU (w : World) (z : Int) (e : Ending) (w' : World) : Prop := e = .returned (.int .u64 z) ∧ Below w.heap.size w w'
theorem tp_word {a : Nat} {v : Int} (hv : v = (blen a : Int) - 64) : a / 2 ^ v.toNat * 2 ^ (-v).toNat = tp a := by
  subst hv
  rcases Nat.lt_or_ge (blen a) 64 with h | h
  · rw [show ((blen a : Int) - 64).toNat = 0 by omega, Nat.pow_zero, Nat.div_one, tp_small (by omega), show (-((blen a : Int) - 64)).toNat = 64 - blen a by omega]
  · rw [show (-((blen a : Int) - 64)).toNat = 0 by omega, Nat.pow_zero, Nat.mul_one, tp_big h, show ((blen a : Int) - 64).toNat = blen a - 64 by omega]
theorem limbs_two {v : Nat} (h1 : 4294967296 ≤ v) (h2 : v < 18446744073709551616) : limbs v = [v % 4294967296, v / 4294967296] := by
  rw [limbs_pos (by omega), limbs_pos (by omega), show v / 4294967296 / 4294967296 = 0 by omega, limbs_zero, Nat.mod_eq_of_lt (show v / 4294967296 < 4294967296 by omega)]
set_option maxHeartbeats 4000000 in
theorem nWord {w : World} {A : Option Addr} {n c a : Nat} {L T : Int} (h : Rd w A n c a) (hn : n ≤ 100000) (h0 : a ≠ 0) (hL : ((blen a : Nat) : Int) = L) (hT : ((tp a : Nat) : Int) = T) : Calls Tryz.prog 115 #[.slice A n c, .int .i64 L] w (PU w T) := by
  have hb := h.blen_le
  obtain ⟨v, hv⟩ : ∃ v : Int, L - 64 = v := ⟨_, rfl⟩
  have hw := tp_word (a := a) (v := v) (by omega)
  have HW1 : Hid (IntKind.i64.wrap (L - 64) = v) := Lib.hid (by rw [hv]; exact IntWalk.i64_in _ (by omega))
  have HW2 : Hid (IntKind.i64.wrap (-v) = -v) := Lib.hid (IntWalk.i64_in _ (by omega))
  obtain ⟨q, hq⟩ : ∃ q, a / 2 ^ v.toNat = q := ⟨_, rfl⟩
  rw [hq] at hw
  have HQ := Lib.hid hq
  have HT := Lib.hid hw
  have g1 := tp_ge h0
  have g2 := tp_lt a
  revert hT g1 g2 HT
  generalize tp a = W
  intro hT HT g1 g2
  have hlm := limbs_two (v := W) (by omega) (by omega)
  obtain ⟨X, hX0⟩ : ∃ X, W / 4294967296 = X := ⟨_, rfl⟩
  obtain ⟨Y, hY0⟩ : ∃ Y, W % 4294967296 = Y := ⟨_, rfl⟩
  rw [hX0, hY0] at hlm
  have hX : X < 4294967296 := by omega
  have hY : Y < 4294967296 := by omega
  have hTT : (X : Int) * 4294967296 + (Y : Int) = T := by omega
  have hor := or_join X Y hX hY
  rw [hTT] at hor
  have HS1 := Lib.hid (show IntKind.u64.wrap (X : Int) = X from IntWalk.u64_in _ (by omega))
  have HS2 := Lib.hid (show IntKind.u64.wrap ((X : Int) * 4294967296) = (X : Int) * 4294967296 from IntWalk.u64_in _ (by omega))
  have HS3 := Lib.hid (show IntKind.u64.wrap (Y : Int) = Y from IntWalk.u64_in _ (by omega))
  have hv1 : -64 ≤ v := by omega
  have hv2 : v ≤ 3200000 := by omega
  have HO := Lib.hid hor
  have HL := Lib.hid hlm
  clear hor hlm hTT hT g1 g2 hw hq hv hL hX0 hY0
  go_enter Tryz.func115, Tryz.ntmps115
  have HB := Lib.hid (Below.refl w.heap.size w)
  have hw1 := HW1.out
  go_wp2_with fail
  refine (vShrE h (by omega) HQ.out).mono ?_
  rintro ee w2 ⟨A2, n2, c2, rfl, p2, k2, B⟩
  replace h := h.below B
  replace HB := Lib.hid (bt HB.out B)
  clear B
  clear hw1
  have hw2 := HW2.out
  go_wp2_with fail
  refine (vShlA p2.rd (by omega) (by omega) HT.out).mono ?_
  rintro ee w3 ⟨A3, n3, c3, rfl, p3, k3, B⟩
  replace p2 := p2.below B
  replace HB := Lib.hid (bt HB.out B)
  clear B
  clear hw2 HW1 HW2 HQ HT
  obtain ⟨b, hs⟩ := p3
  have hl := hs.len
  rw [HL.out] at hs hl
  obtain rfl : 2 = n3 := hl
  obtain ⟨o, rfl, hc⟩ := hs.at (by decide)
  have c0 := hc 0 (by decide)
  have c1 := hc 1 (by decide)
  rw [List.getD_cons_zero, Nat.add_zero] at c0
  rw [List.getD_cons_succ, List.getD_cons_zero] at c1
  clear hc hs HL
  go_upto_region 3 with (fail)
  refine Jo.region_joint (T := [0, 1, 2, 3, 4, 5, 6, 7, 8, 9, 10]) (ds := [some 15, some 16, some 17, some 18, some 19, some 20, some 21, some 22, some 23, some 24, some 4]) (ls := [[], [0], [1], [2], [3], [], [5], [6], [7], [4, 8], [9]]) (k := 11) (L := [(some 15, 0), (some 16, 1), (some 17, 2), (some 18, 3), (some 19, 4), (some 20, 5), (some 21, 6), (some 22, 7), (some 23, 8), (some 24, 9), (some 4, 10)]) (fuel := 0) (J := fun wj => Below (World.heap w3).size w3 wj)
    (F := [Jo.Fact.eq (.slice (some ⟨b, o, none⟩) 2 c3), Jo.Fact.eq (.pointer (some ⟨b, o + 1, none⟩)), Jo.Fact.eq (.int .u32 (X : Int)), Jo.Fact.eq (.int .u64 (X : Int)), Jo.Fact.eq (.int .u64 ((X : Int) * 4294967296)), Jo.Fact.eq (.slice (some ⟨b, o, none⟩) 2 c3), Jo.Fact.eq (.pointer (some ⟨b, o, none⟩)), Jo.Fact.eq (.int .u32 (Y : Int)), Jo.Fact.eq (.int .u64 (Y : Int)), Jo.Fact.eq (.int .u64 T), Jo.Fact.eq (.int .u64 T)])
    (by kernel_rfl) (by kernel_rfl) (by decide) rfl rfl (fun _ _ h b => bt h b) ((Below.refl _ _).drew) ?_ (fun vs w4 hJ hd => ?_)
  · refine Jo.jd 0 (some 15) [] (Jo.Fact.eq (.slice (some ⟨b, o, none⟩) 2 c3)) rfl rfl rfl rfl (fun vs wj hJ hd K hK => ?_) ?_
    · simp only [Jo.putl, Jo.ze, Act.put, Jo.za, Jo.zb, Jo.zc] at hK ⊢
      clear hd
      go_simp
      exact hK.out _ _ rfl (Below.refl _ _)
    refine Jo.jd 1 (some 16) [(some 15, 0)] (Jo.Fact.eq (.pointer (some ⟨b, o + 1, none⟩))) rfl rfl rfl rfl (fun vs wj hJ hd K hK => ?_) ?_
    · simp only [Jo.putl, Jo.zd, Jo.ze, Act.put, Jo.za, Jo.zb, Jo.zc] at hK ⊢
      rw [show vs 0 = _ from hd 0 (by decide)] at hK ⊢
      clear hd
      go_simp
      exact hK.out _ _ rfl (Below.refl _ _)
    refine Jo.jd 2 (some 17) [(some 16, 1)] (Jo.Fact.eq (.int .u32 (X : Int))) rfl rfl rfl rfl (fun vs wj hJ hd K hK => ?_) ?_
    · simp only [Jo.putl, Jo.zd, Jo.ze, Act.put, Jo.za, Jo.zb, Jo.zc] at hK ⊢
      rw [show vs 1 = _ from hd 1 (by decide)] at hK ⊢
      clear hd
      have c0' := (hJ.cell (p := ⟨b, _, none⟩) (block_lt_of_cell c0)).trans c0
      have c1' := (hJ.cell (p := ⟨b, _, none⟩) (block_lt_of_cell c1)).trans c1
      go_simp
      exact hK.out _ _ rfl (Below.refl _ _)
    refine Jo.jd 3 (some 18) [(some 17, 2)] (Jo.Fact.eq (.int .u64 (X : Int))) rfl rfl rfl rfl (fun vs wj hJ hd K hK => ?_) ?_
    · simp only [Jo.putl, Jo.zd, Jo.ze, Act.put, Jo.za, Jo.zb, Jo.zc] at hK ⊢
      rw [show vs 2 = _ from hd 2 (by decide)] at hK ⊢
      clear hd
      have hs1 := HS1.out
      go_simp
      exact hK.out _ _ rfl (Below.refl _ _)
    refine Jo.jd 4 (some 19) [(some 18, 3)] (Jo.Fact.eq (.int .u64 ((X : Int) * 4294967296))) rfl rfl rfl rfl (fun vs wj hJ hd K hK => ?_) ?_
    · simp only [Jo.putl, Jo.zd, Jo.ze, Act.put, Jo.za, Jo.zb, Jo.zc] at hK ⊢
      rw [show vs 3 = _ from hd 3 (by decide)] at hK ⊢
      clear hd
      have hs2 := HS2.out
      go_simp
      exact hK.out _ _ rfl (Below.refl _ _)
    refine Jo.jd 5 (some 20) [] (Jo.Fact.eq (.slice (some ⟨b, o, none⟩) 2 c3)) rfl rfl rfl rfl (fun vs wj hJ hd K hK => ?_) ?_
    · simp only [Jo.putl, Jo.ze, Act.put, Jo.za, Jo.zb, Jo.zc] at hK ⊢
      clear hd
      go_simp
      exact hK.out _ _ rfl (Below.refl _ _)
    refine Jo.jd 6 (some 21) [(some 20, 5)] (Jo.Fact.eq (.pointer (some ⟨b, o, none⟩))) rfl rfl rfl rfl (fun vs wj hJ hd K hK => ?_) ?_
    · simp only [Jo.putl, Jo.zd, Jo.ze, Act.put, Jo.za, Jo.zb, Jo.zc] at hK ⊢
      rw [show vs 5 = _ from hd 5 (by decide)] at hK ⊢
      clear hd
      go_simp
      exact hK.out _ _ rfl (Below.refl _ _)
    refine Jo.jd 7 (some 22) [(some 21, 6)] (Jo.Fact.eq (.int .u32 (Y : Int))) rfl rfl rfl rfl (fun vs wj hJ hd K hK => ?_) ?_
    · simp only [Jo.putl, Jo.zd, Jo.ze, Act.put, Jo.za, Jo.zb, Jo.zc] at hK ⊢
      rw [show vs 6 = _ from hd 6 (by decide)] at hK ⊢
      clear hd
      have c0' := (hJ.cell (p := ⟨b, _, none⟩) (block_lt_of_cell c0)).trans c0
      have c1' := (hJ.cell (p := ⟨b, _, none⟩) (block_lt_of_cell c1)).trans c1
      go_simp
      exact hK.out _ _ rfl (Below.refl _ _)
    refine Jo.jd 8 (some 23) [(some 22, 7)] (Jo.Fact.eq (.int .u64 (Y : Int))) rfl rfl rfl rfl (fun vs wj hJ hd K hK => ?_) ?_
    · simp only [Jo.putl, Jo.zd, Jo.ze, Act.put, Jo.za, Jo.zb, Jo.zc] at hK ⊢
      rw [show vs 7 = _ from hd 7 (by decide)] at hK ⊢
      clear hd
      have hs3 := HS3.out
      go_simp
      exact hK.out _ _ rfl (Below.refl _ _)
    refine Jo.jd 9 (some 24) [(some 19, 4), (some 23, 8)] (Jo.Fact.eq (.int .u64 T)) rfl rfl rfl rfl (fun vs wj hJ hd K hK => ?_) ?_
    · simp only [Jo.putl, Jo.zd, Jo.ze, Act.put, Jo.za, Jo.zb, Jo.zc] at hK ⊢
      rw [show vs 4 = _ from hd 4 (by decide), show vs 8 = _ from hd 8 (by decide)] at hK ⊢
      clear hd
      have hor := HO.out
      go_simp
      exact hK.out _ _ rfl (Below.refl _ _)
    refine Jo.jd 10 (some 4) [(some 24, 9)] (Jo.Fact.eq (.int .u64 T)) rfl rfl rfl rfl (fun vs wj hJ hd K hK => ?_) ?_
    · simp only [Jo.putl, Jo.zd, Jo.ze, Act.put, Jo.za, Jo.zb, Jo.zc] at hK ⊢
      rw [show vs 9 = _ from hd 9 (by decide)] at hK ⊢
      clear hd
      go_simp
      exact hK.out _ _ rfl (Below.refl _ _)
    exact Jo.Steps.nil
  simp only [Jo.putl, Jo.zd, Jo.ze, Act.put, Jo.za, Jo.zb, Jo.zc]
  rw [show vs 0 = _ from hd 0 (by decide), show vs 2 = _ from hd 2 (by decide), show vs 3 = _ from hd 3 (by decide), show vs 4 = _ from hd 4 (by decide), show vs 5 = _ from hd 5 (by decide), show vs 7 = _ from hd 7 (by decide), show vs 8 = _ from hd 8 (by decide), show vs 9 = _ from hd 9 (by decide), show vs 10 = _ from hd 10 (by decide)]
  clear hd
  replace HB := Lib.hid (bt HB.out hJ)
  refine Jo.jdone (by kernel_rfl) ?_
  go_wp2
  go_ret
  exact ⟨rfl, HB.out⟩

set_option maxHeartbeats 1000000 in
theorem yWord {w : World} {A : Option Addr} {n c v : Nat} {T : Int} (h : Nm w A n c v) (hv : v < 18446744073709551616) (hT : (v : Int) = T) : Calls Tryz.prog 68 #[.slice A n c] w (PU w T) := by
  have HT := Lib.hid hT
  clear hT
  have hn2 : n ≤ 2 := by
    have hl := h.len
    have : (limbs v).length ≤ 2 := limbs_length_le (by simpa using hv)
    omega
  obtain ⟨b, hs⟩ := h
  have HV := Lib.hid (val_limbs v)
  revert hs HV
  generalize limbs v = xs
  intro hs HV
  go_enter Tryz.func68, Tryz.ntmps68
  go_wp2
  go_loop [3, 4] (fun u i => ∃ k : Nat, k ≤ n ∧ i = .int .i64 ((k : Int) - 1) ∧ u = .int .u64 (val (xs.drop k) : Nat)) (fun _ i => (intOf i + 1).toNat)
  case atStart => exact ⟨n, Nat.le_refl _, rfl, by rw [List.drop_of_length_le (by rw [hs.len]; omega)]; rfl⟩
  case round =>
    obtain ⟨k, hk, rfl, rfl⟩ := hrel
    rcases Nat.eq_zero_or_pos k with e | hk0
    · subst e
      rw [List.drop_zero, HV.out, HT.out]
      have c0 : (((0 : Nat) : Int) - 1) = -1 := rfl
      rw [c0]
      go_wp2
      go_ret
      exact ⟨rfl, Below.refl _ _⟩
    · obtain ⟨o, rfl, hcell⟩ := hs.at (by omega)
      have hck := hcell (k - 1) (by omega)
      have hx := hs.lim.getD (k - 1)
      have HD : Hid (val (xs.drop (k - 1)) = xs.getD (k - 1) 0 + 4294967296 * val (xs.drop k)) := Lib.hid (by rw [val_drop (by rw [hs.len]; omega), show k - 1 + 1 = k by omega])
      have hu : val (xs.drop k) < 4294967296 := by
        have := val_lt (hs.lim.drop k)
        rw [List.length_drop, hs.len] at this
        exact Nat.lt_of_lt_of_le this (Nat.pow_le_pow_right (n := 4294967296) (j := 1) (by decide) (by omega))
      have hi : ((k : Int) - 1).toNat = k - 1 := by omega
      clear hcell
      revert hck hx HD hu
      generalize xs.getD (k - 1) 0 = x
      generalize val (xs.drop k) = u
      intro hck hx HD hu
      go_wp2
      go_round
      case rel => exact ⟨k - 1, by omega, val_int (by omega), val_int (by have := HD.out; omega)⟩
      case measure => simp [intOf]; omega

/-- A number and a truth are answered. -/
def PNB (w : World) (r : Int) (t : Bool) (e : Ending) (w' : World) : Prop := ∃ K s M E, e = .returned (.tuple #[.agg #[.int .i64 K, .bool s, .int .u64 M, .int .i64 E], .bool t]) ∧ Fq K s M E r ∧ Below w.heap.size w w'
set_option maxHeartbeats 4000000 in
theorem ncut_zero {w : World} {A : Option Addr} {n c a : Nat} {s : Bool} {E L x r : Int} {t : Bool} (h : Rd w A n c a) (hn : n ≤ 100000) (b1 : -4194304 ≤ E) (b2 : E ≤ 4194304) (h0 : a = 0) (hr : 0 = r) (ht : true = t) :
    Calls Tryz.prog 97 #[.agg #[.bool s, .slice A n c, .int .i64 E]] w (PNB w r t) := by
  have hb := h.blen_le
  subst h0
  subst hr
  subst ht
  go_enter Tryz.func97, Tryz.ntmps97
  go_upto_region 1 with (fail)
  have X1 := (Bo.newAt w (g := w.heap.size) (by simp) #[.bool s, .slice A n c, .int .i64 E] 51).below (bel1 _ (.cells #[.int .i64 0, .bool false, .int .u64 0, .int .i64 0] 24))
  have XR := (Bo.newAt (w.alloc (.cells #[.bool s, .slice A n c, .int .i64 E] 51)) (g := w.heap.size + 1) (by simp) #[.int .i64 0, .bool false, .int .u64 0, .int .i64 0] 24)
  have HB := Lib.hid (bel2 w (.cells #[.bool s, .slice A n c, .int .i64 E] 51) (.cells #[.int .i64 0, .bool false, .int .u64 0, .int .i64 0] 24))
  replace h := h.below HB.out
  generalize hW1 : ((w.alloc (.cells #[.bool s, .slice A n c, .int .i64 E] 51)).alloc (.cells #[.int .i64 0, .bool false, .int .u64 0, .int .i64 0] 24)) = w1 at *
  clear hW1
  have xX10 := X1.a 0 (.bool s) rfl
  have xX11 := X1.a 1 (.slice A n c) rfl
  have xX12 := X1.a 2 (.int .i64 E) rfl
  go_wp2_with fail
  refine (vLenE (z := 0) h rfl).mono ?_
  rintro ee w2 ⟨rfl, B⟩
  clear xX10 xX11 xX12
  replace X1 := X1.below B
  replace XR := XR.below B
  replace h := h.below B
  replace HB := Lib.hid (bt HB.out B)
  clear B
  have xXR0 := XR.a 0 (.int .i64 0) rfl
  have zXR0 := XR.frozen 0
  have xXR1 := XR.a 1 (.bool false) rfl
  have zXR1 := XR.frozen 1
  have xXR2 := XR.a 2 (.int .u64 0) rfl
  have zXR2 := XR.frozen 2
  have xXR3 := XR.a 3 (.int .i64 0) rfl
  have zXR3 := XR.frozen 3
  have xX10 := X1.a 0 (.bool s) rfl
  have xX11 := X1.a 1 (.slice A n c) rfl
  have xX12 := X1.a 2 (.int .i64 E) rfl
  go_wp2
  clear xXR0 zXR0 xXR1 zXR1 xXR2 zXR2 xXR3 zXR3 xX10 xX11 xX12
  have SX := StN.mk4 XR (.int .i64 0) (.bool false) (.int .u64 0) (.int .i64 0)
  replace X1 := X1.stn SX (by omega)
  replace h := h.stn SX (by simp [no32])
  replace HB := Lib.hid (SX.below HB.out (by omega))
  replace XR := SX.box
  clear SX
  generalize (World.setCell (World.setCell (World.setCell (World.setCell w2 ⟨w.heap.size + 1, 0, none⟩ (.int .i64 0)) ⟨w.heap.size + 1, 1, none⟩ (.bool false)) ⟨w.heap.size + 1, 2, none⟩ (.int .u64 0)) ⟨w.heap.size + 1, 3, none⟩ (.int .i64 0)) = w3 at *
  have r0 := XR.cell 0
  have r1 := XR.cell 1
  have r2 := XR.cell 2
  have r3 := XR.cell 3
  exact bodyPost_ret (v := .tuple #[.agg #[.int .i64 0, .bool false, .int .u64 0, .int .i64 0], .bool true]) (by simp [results, Tryz.results97, go_sem, r0, r1, r2, r3]) rfl ⟨_, _, _, _, rfl, Fq.nought, HB.out⟩
set_option maxHeartbeats 4000000 in
theorem ncut_big {w : World} {A : Option Addr} {n c a : Nat} {s : Bool} {E L x r : Int} (h : Rd w A n c a) (hn : n ≤ 100000) (b1 : -4194304 ≤ E) (b2 : E ≤ 4194304) (h0 : a ≠ 0) (hL : ((blen a : Nat) : Int) = L) (hx : E + L - 64 = x) (hx3 : 1048576 < x) (hr : sgi s 19342822337206103650074624 = r) :
    Calls Tryz.prog 97 #[.agg #[.bool s, .slice A n c, .int .i64 E]] w (PNB w r false) := by
  have hb := h.blen_le
  have h1 : blen a ≠ 0 := fun e => h0 (blen_eq_zero.1 e)
  have HL := Lib.hid hL
  have HX1 : Hid (IntKind.i64.wrap (E + L) = E + L) := Lib.hid (IntWalk.i64_in _ (by omega))
  have HX2 : Hid (IntKind.i64.wrap (E + L - 64) = x) := Lib.hid (by rw [hx]; exact IntWalk.i64_in _ (by omega))
  have e0 : (L == 0) = false := by
    have : L ≠ 0 := by omega
    simpa using this
  have hF : Fq 1 s 18446744073709551615 1048576 r := Fq.fin (by decide) (by decide) (by decide) (by decide) hr
  clear hL hx hr h1
  go_enter Tryz.func97, Tryz.ntmps97
  go_upto_region 1 with (fail)
  have X1 := (Bo.newAt w (g := w.heap.size) (by simp) #[.bool s, .slice A n c, .int .i64 E] 51).below (bel1 _ (.cells #[.int .i64 0, .bool false, .int .u64 0, .int .i64 0] 24))
  have XR := (Bo.newAt (w.alloc (.cells #[.bool s, .slice A n c, .int .i64 E] 51)) (g := w.heap.size + 1) (by simp) #[.int .i64 0, .bool false, .int .u64 0, .int .i64 0] 24)
  have HB := Lib.hid (bel2 w (.cells #[.bool s, .slice A n c, .int .i64 E] 51) (.cells #[.int .i64 0, .bool false, .int .u64 0, .int .i64 0] 24))
  replace h := h.below HB.out
  generalize hW1 : ((w.alloc (.cells #[.bool s, .slice A n c, .int .i64 E] 51)).alloc (.cells #[.int .i64 0, .bool false, .int .u64 0, .int .i64 0] 24)) = w1 at *
  clear hW1
  have xX10 := X1.a 0 (.bool s) rfl
  have xX11 := X1.a 1 (.slice A n c) rfl
  have xX12 := X1.a 2 (.int .i64 E) rfl
  go_wp2_with fail
  refine (vLenE h HL.out).mono ?_
  rintro ee w2 ⟨rfl, B⟩
  clear xX10 xX11 xX12
  replace X1 := X1.below B
  replace XR := XR.below B
  replace h := h.below B
  replace HB := Lib.hid (bt HB.out B)
  clear B
  have hx1 := HX1.out
  have hx2 := HX2.out
  have xX10 := X1.a 0 (.bool s) rfl
  have xX11 := X1.a 1 (.slice A n c) rfl
  have xX12 := X1.a 2 (.int .i64 E) rfl
  go_wp2_with fail
  refine (nH).mono ?_
  rintro ee w3 ⟨rfl, B⟩
  clear xX10 xX11 xX12
  replace X1 := X1.below B
  replace XR := XR.below B
  replace h := h.below B
  replace HB := Lib.hid (bt HB.out B)
  clear B
  have xXR0 := XR.a 0 (.int .i64 0) rfl
  have zXR0 := XR.frozen 0
  have xXR1 := XR.a 1 (.bool false) rfl
  have zXR1 := XR.frozen 1
  have xXR2 := XR.a 2 (.int .u64 0) rfl
  have zXR2 := XR.frozen 2
  have xXR3 := XR.a 3 (.int .i64 0) rfl
  have zXR3 := XR.frozen 3
  have xX10 := X1.a 0 (.bool s) rfl
  have xX11 := X1.a 1 (.slice A n c) rfl
  have xX12 := X1.a 2 (.int .i64 E) rfl
  go_wp2
  clear xXR0 zXR0 xXR1 zXR1 xXR2 zXR2 xXR3 zXR3 xX10 xX11 xX12
  have SX := StN.mk4 XR (.int .i64 1) (.bool s) (.int .u64 18446744073709551615) (.int .i64 1048576)
  replace X1 := X1.stn SX (by omega)
  replace h := h.stn SX (by simp [no32])
  replace HB := Lib.hid (SX.below HB.out (by omega))
  replace XR := SX.box
  clear SX
  generalize (World.setCell (World.setCell (World.setCell (World.setCell w3 ⟨w.heap.size + 1, 0, none⟩ (.int .i64 1)) ⟨w.heap.size + 1, 1, none⟩ (.bool s)) ⟨w.heap.size + 1, 2, none⟩ (.int .u64 18446744073709551615)) ⟨w.heap.size + 1, 3, none⟩ (.int .i64 1048576)) = w4 at *
  have r0 := XR.cell 0
  have r1 := XR.cell 1
  have r2 := XR.cell 2
  have r3 := XR.cell 3
  exact bodyPost_ret (v := .tuple #[.agg #[.int .i64 1, .bool s, .int .u64 18446744073709551615, .int .i64 1048576], .bool false]) (by simp [results, Tryz.results97, go_sem, r0, r1, r2, r3]) rfl ⟨_, _, _, _, rfl, hF, HB.out⟩
set_option maxHeartbeats 4000000 in
theorem ncut_low {w : World} {A : Option Addr} {n c a : Nat} {s : Bool} {E L x : Int} (h : Rd w A n c a) (hn : n ≤ 100000) (b1 : -4194304 ≤ E) (b2 : E ≤ 4194304) (h0 : a ≠ 0) (hL : ((blen a : Nat) : Int) = L) (hx : E + L - 64 = x) (hx3 : x < -1048576) :
    Calls Tryz.prog 97 #[.agg #[.bool s, .slice A n c, .int .i64 E]] w (PNB w 0 false) := by
  have hb := h.blen_le
  have h1 : blen a ≠ 0 := fun e => h0 (blen_eq_zero.1 e)
  have HL := Lib.hid hL
  have HX1 : Hid (IntKind.i64.wrap (E + L) = E + L) := Lib.hid (IntWalk.i64_in _ (by omega))
  have HX2 : Hid (IntKind.i64.wrap (E + L - 64) = x) := Lib.hid (by rw [hx]; exact IntWalk.i64_in _ (by omega))
  have e0 : (L == 0) = false := by
    have : L ≠ 0 := by omega
    simpa using this
  clear hL hx h1
  go_enter Tryz.func97, Tryz.ntmps97
  go_upto_region 1 with (fail)
  have X1 := (Bo.newAt w (g := w.heap.size) (by simp) #[.bool s, .slice A n c, .int .i64 E] 51).below (bel1 _ (.cells #[.int .i64 0, .bool false, .int .u64 0, .int .i64 0] 24))
  have XR := (Bo.newAt (w.alloc (.cells #[.bool s, .slice A n c, .int .i64 E] 51)) (g := w.heap.size + 1) (by simp) #[.int .i64 0, .bool false, .int .u64 0, .int .i64 0] 24)
  have HB := Lib.hid (bel2 w (.cells #[.bool s, .slice A n c, .int .i64 E] 51) (.cells #[.int .i64 0, .bool false, .int .u64 0, .int .i64 0] 24))
  replace h := h.below HB.out
  generalize hW1 : ((w.alloc (.cells #[.bool s, .slice A n c, .int .i64 E] 51)).alloc (.cells #[.int .i64 0, .bool false, .int .u64 0, .int .i64 0] 24)) = w1 at *
  clear hW1
  have xX10 := X1.a 0 (.bool s) rfl
  have xX11 := X1.a 1 (.slice A n c) rfl
  have xX12 := X1.a 2 (.int .i64 E) rfl
  go_wp2_with fail
  refine (vLenE h HL.out).mono ?_
  rintro ee w2 ⟨rfl, B⟩
  clear xX10 xX11 xX12
  replace X1 := X1.below B
  replace XR := XR.below B
  replace h := h.below B
  replace HB := Lib.hid (bt HB.out B)
  clear B
  have hx1 := HX1.out
  have hx2 := HX2.out
  have xXR0 := XR.a 0 (.int .i64 0) rfl
  have zXR0 := XR.frozen 0
  have xXR1 := XR.a 1 (.bool false) rfl
  have zXR1 := XR.frozen 1
  have xXR2 := XR.a 2 (.int .u64 0) rfl
  have zXR2 := XR.frozen 2
  have xXR3 := XR.a 3 (.int .i64 0) rfl
  have zXR3 := XR.frozen 3
  have xX10 := X1.a 0 (.bool s) rfl
  have xX11 := X1.a 1 (.slice A n c) rfl
  have xX12 := X1.a 2 (.int .i64 E) rfl
  go_wp2
  clear xXR0 zXR0 xXR1 zXR1 xXR2 zXR2 xXR3 zXR3 xX10 xX11 xX12
  have SX := StN.mk4 XR (.int .i64 0) (.bool false) (.int .u64 0) (.int .i64 0)
  replace X1 := X1.stn SX (by omega)
  replace h := h.stn SX (by simp [no32])
  replace HB := Lib.hid (SX.below HB.out (by omega))
  replace XR := SX.box
  clear SX
  generalize (World.setCell (World.setCell (World.setCell (World.setCell w2 ⟨w.heap.size + 1, 0, none⟩ (.int .i64 0)) ⟨w.heap.size + 1, 1, none⟩ (.bool false)) ⟨w.heap.size + 1, 2, none⟩ (.int .u64 0)) ⟨w.heap.size + 1, 3, none⟩ (.int .i64 0)) = w4 at *
  have r0 := XR.cell 0
  have r1 := XR.cell 1
  have r2 := XR.cell 2
  have r3 := XR.cell 3
  exact bodyPost_ret (v := .tuple #[.agg #[.int .i64 0, .bool false, .int .u64 0, .int .i64 0], .bool false]) (by simp [results, Tryz.results97, go_sem, r0, r1, r2, r3]) rfl ⟨_, _, _, _, rfl, Fq.nought, HB.out⟩
set_option maxHeartbeats 4000000 in
theorem ncut_mid {w : World} {A : Option Addr} {n c a : Nat} {s : Bool} {E L x r : Int} {t : Bool} (h : Rd w A n c a) (hn : n ≤ 100000) (b1 : -4194304 ≤ E) (b2 : E ≤ 4194304) (h0 : a ≠ 0) (hL : ((blen a : Nat) : Int) = L) (hx : E + L - 64 = x) (hx3 : -1048576 ≤ x) (hx4 : x ≤ 1048576) (hr : sgi s ((tp a : Int) - 9223372036854775808 + 1 + (x + 1048576) * 9223372036854775808) = r) (ht : decide (L ≤ 64) = t) :
    Calls Tryz.prog 97 #[.agg #[.bool s, .slice A n c, .int .i64 E]] w (PNB w r t) := by
  have hb := h.blen_le
  have h1 : blen a ≠ 0 := fun e => h0 (blen_eq_zero.1 e)
  have HL := Lib.hid hL
  have HX1 : Hid (IntKind.i64.wrap (E + L) = E + L) := Lib.hid (IntWalk.i64_in _ (by omega))
  have HX2 : Hid (IntKind.i64.wrap (E + L - 64) = x) := Lib.hid (by rw [hx]; exact IntWalk.i64_in _ (by omega))
  have e0 : (L == 0) = false := by
    have : L ≠ 0 := by omega
    simpa using this
  obtain ⟨T, hT⟩ : ∃ T, ((tp a : Nat) : Int) = T := ⟨_, rfl⟩
  rw [hT] at hr
  have hF : Fq 1 s T x r := by
    have g1 := tp_ge h0
    have g2 := tp_lt a
    exact Fq.fin (by omega) (by omega) hx3 hx4 hr
  have HT := Lib.hid hT
  have HTT := Lib.hid ht
  clear hL hx hr h1 hT ht
  go_enter Tryz.func97, Tryz.ntmps97
  go_upto_region 1 with (fail)
  have X1 := (Bo.newAt w (g := w.heap.size) (by simp) #[.bool s, .slice A n c, .int .i64 E] 51).below (bel1 _ (.cells #[.int .i64 0, .bool false, .int .u64 0, .int .i64 0] 24))
  have XR := (Bo.newAt (w.alloc (.cells #[.bool s, .slice A n c, .int .i64 E] 51)) (g := w.heap.size + 1) (by simp) #[.int .i64 0, .bool false, .int .u64 0, .int .i64 0] 24)
  have HB := Lib.hid (bel2 w (.cells #[.bool s, .slice A n c, .int .i64 E] 51) (.cells #[.int .i64 0, .bool false, .int .u64 0, .int .i64 0] 24))
  replace h := h.below HB.out
  generalize hW1 : ((w.alloc (.cells #[.bool s, .slice A n c, .int .i64 E] 51)).alloc (.cells #[.int .i64 0, .bool false, .int .u64 0, .int .i64 0] 24)) = w1 at *
  clear hW1
  have xX10 := X1.a 0 (.bool s) rfl
  have xX11 := X1.a 1 (.slice A n c) rfl
  have xX12 := X1.a 2 (.int .i64 E) rfl
  go_wp2_with fail
  refine (vLenE h HL.out).mono ?_
  rintro ee w2 ⟨rfl, B⟩
  clear xX10 xX11 xX12
  replace X1 := X1.below B
  replace XR := XR.below B
  replace h := h.below B
  replace HB := Lib.hid (bt HB.out B)
  clear B
  have hx1 := HX1.out
  have hx2 := HX2.out
  have xX10 := X1.a 0 (.bool s) rfl
  have xX11 := X1.a 1 (.slice A n c) rfl
  have xX12 := X1.a 2 (.int .i64 E) rfl
  go_upto_region 9 with (fail)
  clear hx1 hx2
  clear xX10 xX11 xX12
  refine Jo.region_late (g := w.heap.size + 1) (new := #[.int .i64 1, .bool s, .int .u64 T, .int .i64 x]) (R := 24) (T := [0, 1, 2, 3, 4, 5, 6, 7, 8, 9, 10, 11, 12]) (ds := [some 27, some 28, some 29, some 30, some 31, some 32, some 33, some 34, some 35, some 36, some 37, some 38, none, some 3]) (ls := [[], [0], [1], [], [3], [4], [], [5, 6], [], [2, 7, 8], [], [10], [9], []]) (k := 14) (L := [(some 27, 0), (some 28, 1), (some 29, 2), (some 30, 3), (some 31, 4), (some 32, 5), (some 33, 6), (some 34, 7), (some 35, 8), (some 36, 9), (some 37, 10), (some 38, 11), (none, 12)]) (fuel := 1)
    (F := [Jo.LFact.eq (.pointer (some ⟨w.heap.size, 0, none⟩)), Jo.LFact.eq (.pointer (some ⟨w.heap.size, 0, none⟩)), Jo.LFact.eq (.bool s), Jo.LFact.eq (.pointer (some ⟨w.heap.size, 0, none⟩)), Jo.LFact.eq (.pointer (some ⟨w.heap.size, 1, none⟩)), Jo.LFact.eq (.slice A n c), Jo.LFact.eq (.int .i64 L), Jo.LFact.eq (.int .u64 T), Jo.LFact.eq (.int .i64 x), Jo.LFact.eq (.agg #[.int .i64 1, .bool s, .int .u64 T, .int .i64 x]), Jo.LFact.eq (.int .i64 L), Jo.LFact.eq (.bool t), Jo.LFact.done, Jo.LFact.any])
    (by kernel_rfl) (by kernel_rfl) (by decide) rfl rfl ?_ (fun vs w3 hJ hd => ?_)
  · refine Jo.ld 0 (some 27) [] (Jo.LFact.eq (.pointer (some ⟨w.heap.size, 0, none⟩))) rfl rfl rfl rfl (fun vs wj hJ hd K hK => ?_) ?_
    · simp only [Jo.putl, Jo.ze, Act.put, Jo.za, Jo.zb, Jo.zc] at hK ⊢
      clear hd
      go_simp
      exact hK.out _ _ rfl (Jo.Off.refl _ _ _ _)
    refine Jo.ld 1 (some 28) [(some 27, 0)] (Jo.LFact.eq (.pointer (some ⟨w.heap.size, 0, none⟩))) rfl rfl rfl rfl (fun vs wj hJ hd K hK => ?_) ?_
    · simp only [Jo.putl, Jo.zd, Jo.ze, Act.put, Jo.za, Jo.zb, Jo.zc] at hK ⊢
      rw [show vs 0 = _ from hd 0 (by decide)] at hK ⊢
      clear hd
      go_simp
      exact hK.out _ _ rfl (Jo.Off.refl _ _ _ _)
    refine Jo.ld 2 (some 29) [(some 28, 1)] (Jo.LFact.eq (.bool s)) rfl rfl rfl rfl (fun vs wj hJ hd K hK => ?_) ?_
    · simp only [Jo.putl, Jo.zd, Jo.ze, Act.put, Jo.za, Jo.zb, Jo.zc] at hK ⊢
      rw [show vs 1 = _ from hd 1 (by decide)] at hK ⊢
      clear hd
      replace X1 := X1.off (by omega) hJ
      have xX10 := X1.a 0 (.bool s) rfl
      have xX11 := X1.a 1 (.slice A n c) rfl
      have xX12 := X1.a 2 (.int .i64 E) rfl
      go_simp
      exact hK.out _ _ rfl (Jo.Off.refl _ _ _ _)
    refine Jo.ld 3 (some 30) [] (Jo.LFact.eq (.pointer (some ⟨w.heap.size, 0, none⟩))) rfl rfl rfl rfl (fun vs wj hJ hd K hK => ?_) ?_
    · simp only [Jo.putl, Jo.ze, Act.put, Jo.za, Jo.zb, Jo.zc] at hK ⊢
      clear hd
      go_simp
      exact hK.out _ _ rfl (Jo.Off.refl _ _ _ _)
    refine Jo.ld 4 (some 31) [(some 30, 3)] (Jo.LFact.eq (.pointer (some ⟨w.heap.size, 1, none⟩))) rfl rfl rfl rfl (fun vs wj hJ hd K hK => ?_) ?_
    · simp only [Jo.putl, Jo.zd, Jo.ze, Act.put, Jo.za, Jo.zb, Jo.zc] at hK ⊢
      rw [show vs 3 = _ from hd 3 (by decide)] at hK ⊢
      clear hd
      go_simp
      exact hK.out _ _ rfl (Jo.Off.refl _ _ _ _)
    refine Jo.ld 5 (some 32) [(some 31, 4)] (Jo.LFact.eq (.slice A n c)) rfl rfl rfl rfl (fun vs wj hJ hd K hK => ?_) ?_
    · simp only [Jo.putl, Jo.zd, Jo.ze, Act.put, Jo.za, Jo.zb, Jo.zc] at hK ⊢
      rw [show vs 4 = _ from hd 4 (by decide)] at hK ⊢
      clear hd
      replace X1 := X1.off (by omega) hJ
      have xX10 := X1.a 0 (.bool s) rfl
      have xX11 := X1.a 1 (.slice A n c) rfl
      have xX12 := X1.a 2 (.int .i64 E) rfl
      go_simp
      exact hK.out _ _ rfl (Jo.Off.refl _ _ _ _)
    refine Jo.ld 6 (some 33) [] (Jo.LFact.eq (.int .i64 L)) rfl rfl rfl rfl (fun vs wj hJ hd K hK => ?_) ?_
    · simp only [Jo.putl, Jo.ze, Act.put, Jo.za, Jo.zb, Jo.zc] at hK ⊢
      clear hd
      go_simp
      exact hK.out _ _ rfl (Jo.Off.refl _ _ _ _)
    refine Jo.ld 7 (some 34) [(some 32, 5), (some 33, 6)] (Jo.LFact.eq (.int .u64 T)) rfl rfl rfl rfl (fun vs wj hJ hd K hK => ?_) ?_
    · simp only [Jo.putl, Jo.zd, Jo.ze, Act.put, Jo.za, Jo.zb, Jo.zc] at hK ⊢
      rw [show vs 5 = _ from hd 5 (by decide), show vs 6 = _ from hd 6 (by decide)] at hK ⊢
      clear hd
      go_simp
      refine (nWord (h.off XR (by simp [no32]) hJ) hn h0 HL.out HT.out).mono ?_
      rintro ee wk ⟨rfl, B⟩
      exact hK.out _ _ rfl (Jo.Off.of_below B (Nat.lt_of_lt_of_le XR.lt hJ.size))
    refine Jo.ld 8 (some 35) [] (Jo.LFact.eq (.int .i64 x)) rfl rfl rfl rfl (fun vs wj hJ hd K hK => ?_) ?_
    · simp only [Jo.putl, Jo.ze, Act.put, Jo.za, Jo.zb, Jo.zc] at hK ⊢
      clear hd
      go_simp
      exact hK.out _ _ rfl (Jo.Off.refl _ _ _ _)
    refine Jo.ld 9 (some 36) [(some 29, 2), (some 34, 7), (some 35, 8)] (Jo.LFact.eq (.agg #[.int .i64 1, .bool s, .int .u64 T, .int .i64 x])) rfl rfl rfl rfl (fun vs wj hJ hd K hK => ?_) ?_
    · simp only [Jo.putl, Jo.zd, Jo.ze, Act.put, Jo.za, Jo.zb, Jo.zc] at hK ⊢
      rw [show vs 2 = _ from hd 2 (by decide), show vs 7 = _ from hd 7 (by decide), show vs 8 = _ from hd 8 (by decide)] at hK ⊢
      clear hd
      go_simp
      exact hK.out _ _ rfl (Jo.Off.refl _ _ _ _)
    refine Jo.ld 10 (some 37) [] (Jo.LFact.eq (.int .i64 L)) rfl rfl rfl rfl (fun vs wj hJ hd K hK => ?_) ?_
    · simp only [Jo.putl, Jo.ze, Act.put, Jo.za, Jo.zb, Jo.zc] at hK ⊢
      clear hd
      go_simp
      exact hK.out _ _ rfl (Jo.Off.refl _ _ _ _)
    refine Jo.ld 11 (some 38) [(some 37, 10)] (Jo.LFact.eq (.bool t)) rfl rfl rfl rfl (fun vs wj hJ hd K hK => ?_) ?_
    · simp only [Jo.putl, Jo.zd, Jo.ze, Act.put, Jo.za, Jo.zb, Jo.zc] at hK ⊢
      rw [show vs 10 = _ from hd 10 (by decide)] at hK ⊢
      clear hd
      have htt := HTT.out
      go_simp
      exact hK.out _ _ (by first | rfl | (show Value.bool _ = Value.bool _; rw [htt])) (Jo.Off.refl _ _ _ _)
    refine Jo.ld 12 (none) [(some 36, 9)] (Jo.LFact.done) rfl rfl rfl rfl (fun vs wj hJ hd K hK => ?_) ?_
    · simp only [Jo.putl, Jo.zd, Jo.ze, Act.put, Jo.za, Jo.zb, Jo.zc] at hK ⊢
      rw [show vs 9 = _ from hd 9 (by decide)] at hK ⊢
      clear hd
      obtain ⟨v0, v1, v2, v3, XO⟩ : ∃ v0 v1 v2 v3, Bo wj (w.heap.size + 1) #[v0, v1, v2, v3] 24 := by
        rcases hJ.own with e | e
        · exact ⟨_, _, _, _, XR.keep e⟩
        · exact ⟨_, _, _, _, e⟩
      have y0 := XO.a 0 (v0) rfl
      have u0 := XO.frozen 0
      have y1 := XO.a 1 (v1) rfl
      have u1 := XO.frozen 1
      have y2 := XO.a 2 (v2) rfl
      have u2 := XO.frozen 2
      have y3 := XO.a 3 (v3) rfl
      have u3 := XO.frozen 3
      go_simp
      have SX := StN.mk4 XO (.int .i64 1) (.bool s) (.int .u64 T) (.int .i64 x)
      exact hK.out undef _ SX.box (Jo.Off.of_stn SX)
    exact Jo.Steps.nil
  have d12 : (Jo.LFact.done).P (vs 12) w3 := hd 12 (by decide)
  simp only [Jo.putl, Jo.zd, Jo.ze, Act.put, Jo.za, Jo.zb, Jo.zc]
  rw [show vs 2 = _ from hd 2 (by decide), show vs 5 = _ from hd 5 (by decide), show vs 6 = _ from hd 6 (by decide), show vs 7 = _ from hd 7 (by decide), show vs 8 = _ from hd 8 (by decide), show vs 9 = _ from hd 9 (by decide), show vs 10 = _ from hd 10 (by decide), show vs 11 = _ from hd 11 (by decide)]
  clear hd
  generalize vs 12 = u12 at d12 ⊢
  replace h := h.off XR (by simp [no32]) hJ
  replace HB := Lib.hid (hJ.below HB.out (by omega) XR.lt)
  replace X1 := X1.off (by omega) hJ
  replace XR : Bo w3 (w.heap.size + 1) #[.int .i64 1, .bool s, .int .u64 T, .int .i64 x] 24 := d12
  refine Jo.jnext (i := 13) (o := ⟨some 3, _, _, _, _, _⟩) (by kernel_rfl) rfl (fun K hK => ?_)
  go_simp
  refine hK.out _ _ ?_
  clear hK K
  refine Jo.jdone (by kernel_rfl) ?_
  go_wp2
  have r0 := XR.cell 0
  have r1 := XR.cell 1
  have r2 := XR.cell 2
  have r3 := XR.cell 3
  exact bodyPost_ret (v := .tuple #[.agg #[.int .i64 1, .bool s, .int .u64 T, .int .i64 x], .bool t]) (by simp [results, Tryz.results97, go_sem, r0, r1, r2, r3]) rfl ⟨_, _, _, _, rfl, hF, HB.out⟩
theorem nCut {w : World} {A : Option Addr} {n c a : Nat} {s : Bool} {E r : Int} {t : Bool} (h : Rd w A n c a) (hn : n ≤ 100000) (b1 : -4194304 ≤ E) (b2 : E ≤ 4194304) (hr : sgi s (lo a E) = r) (ht : ext a E = t) :
    Calls Tryz.prog 97 #[.agg #[.bool s, .slice A n c, .int .i64 E]] w (PNB w r t) := by
  unfold lo at hr
  unfold ext at ht
  by_cases h0 : a = 0
  · rw [if_pos h0] at hr
    have e0 : (a == 0) = true := by simpa using h0
    rw [e0] at ht
    exact ncut_zero (L := 0) (x := 0) h hn b1 b2 h0 (by rw [← hr]; cases s <;> rfl) ht
  · rw [if_neg h0] at hr
    have e0 : (a == 0) = false := by simpa using h0
    rw [e0, Bool.false_or] at ht
    have hx : E + ((blen a : Nat) : Int) - 64 = xp a E := rfl
    by_cases c1 : 1048576 < xp a E
    · rw [if_pos c1] at hr
      rw [show decide (xp a E ≤ 1048576) = false from decide_eq_false (by omega), Bool.false_and] at ht
      subst ht
      exact ncut_big h hn b1 b2 h0 rfl hx c1 hr
    · rw [if_neg c1] at hr
      rw [show decide (xp a E ≤ 1048576) = true from decide_eq_true (by omega), Bool.true_and] at ht
      by_cases c2 : xp a E < -1048576
      · rw [if_pos c2] at hr
        rw [show decide (-1048576 ≤ xp a E) = false from decide_eq_false (by omega), Bool.false_and] at ht
        subst ht
        obtain rfl : 0 = r := by rw [← hr]; cases s <;> rfl
        exact ncut_low h hn b1 b2 h0 rfl hx c2
      · rw [if_neg c2] at hr
        rw [show decide (-1048576 ≤ xp a E) = true from decide_eq_true (by omega), Bool.true_and] at ht
        refine ncut_mid h hn b1 b2 h0 rfl hx (by omega) (by omega) hr ?_
        rw [← ht, Bool.eq_iff_iff]
        simp
        omega
end Go.Proofs.YtpmakljahhhnfaaGreatDoor
