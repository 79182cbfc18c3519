/-
  Contracts and words that the statement's proof rests on, several texts in one: Kf, Kg, Jt, Ee, Ef.
-/
import Derived.Test.YtpmakljahhhnfaaDoorYAal
import Derived.Test.YtpmakljahhhnfaaDoorYAao
import Derived.Test.YtpmakljahhhnfaaDoorYAap
/-
  How many bits a number of 64 bits needs, by math/bits; what num.Of does.
-/
namespace Go.Proofs.YtpmakljahhhnfaaDoor
open Go.RowKit
set_option linter.unusedVariables false
set_option linter.unusedSimpArgs false
set_option maxRecDepth 100000

set_option maxHeartbeats 1000000 in
theorem len64_111 (z : Int) (q : Nat) (w : World) (h0 : 0 ≤ z) (hz : z ≤ 18446744073709551615) (h1 : 4294967296 ≤ z) (h2 : 65536 ≤ z / 4294967296) (h3 : 256 ≤ z / 4294967296 / 65536) (hq : q ≤ 8)
    (hi : ∀ W, (Instr.index 9 (.string Lib.len8tab) (.int .u8 (z / 4294967296 / 65536 / 256))).run Tryd.prog W = .ok (.int .u8 (q : Int)) W) :
    Calls Tryd.prog 76 #[.int .u64 z] w fun e w' => e = .returned (.int .i64 (56 + q : Int)) ∧ w = w' := by
  go_enter Tryd.func76, Tryd.ntmps76
  go_wp2
  go_ret
  exact ⟨rfl, rfl⟩
set_option maxHeartbeats 1000000 in
theorem len64_110 (z : Int) (q : Nat) (w : World) (h0 : 0 ≤ z) (hz : z ≤ 18446744073709551615) (h1 : 4294967296 ≤ z) (h2 : 65536 ≤ z / 4294967296) (h3 : z / 4294967296 / 65536 < 256) (hq : q ≤ 8)
    (hi : ∀ W, (Instr.index 9 (.string Lib.len8tab) (.int .u8 (z / 4294967296 / 65536))).run Tryd.prog W = .ok (.int .u8 (q : Int)) W) :
    Calls Tryd.prog 76 #[.int .u64 z] w fun e w' => e = .returned (.int .i64 (48 + q : Int)) ∧ w = w' := by
  go_enter Tryd.func76, Tryd.ntmps76
  go_wp2
  go_ret
  exact ⟨rfl, rfl⟩
set_option maxHeartbeats 1000000 in
theorem len64_101 (z : Int) (q : Nat) (w : World) (h0 : 0 ≤ z) (hz : z ≤ 18446744073709551615) (h1 : 4294967296 ≤ z) (h2 : z / 4294967296 < 65536) (h3 : 256 ≤ z / 4294967296) (hq : q ≤ 8)
    (hi : ∀ W, (Instr.index 9 (.string Lib.len8tab) (.int .u8 (z / 4294967296 / 256))).run Tryd.prog W = .ok (.int .u8 (q : Int)) W) :
    Calls Tryd.prog 76 #[.int .u64 z] w fun e w' => e = .returned (.int .i64 (40 + q : Int)) ∧ w = w' := by
  go_enter Tryd.func76, Tryd.ntmps76
  go_wp2
  go_ret
  exact ⟨rfl, rfl⟩
set_option maxHeartbeats 1000000 in
theorem len64_100 (z : Int) (q : Nat) (w : World) (h0 : 0 ≤ z) (hz : z ≤ 18446744073709551615) (h1 : 4294967296 ≤ z) (h2 : z / 4294967296 < 65536) (h3 : z / 4294967296 < 256) (hq : q ≤ 8)
    (hi : ∀ W, (Instr.index 9 (.string Lib.len8tab) (.int .u8 (z / 4294967296))).run Tryd.prog W = .ok (.int .u8 (q : Int)) W) :
    Calls Tryd.prog 76 #[.int .u64 z] w fun e w' => e = .returned (.int .i64 (32 + q : Int)) ∧ w = w' := by
  go_enter Tryd.func76, Tryd.ntmps76
  go_wp2
  go_ret
  exact ⟨rfl, rfl⟩
set_option maxHeartbeats 1000000 in
theorem len64_011 (z : Int) (q : Nat) (w : World) (h0 : 0 ≤ z) (hz : z ≤ 18446744073709551615) (h1 : z < 4294967296) (h2 : 65536 ≤ z) (h3 : 256 ≤ z / 65536) (hq : q ≤ 8)
    (hi : ∀ W, (Instr.index 9 (.string Lib.len8tab) (.int .u8 (z / 65536 / 256))).run Tryd.prog W = .ok (.int .u8 (q : Int)) W) :
    Calls Tryd.prog 76 #[.int .u64 z] w fun e w' => e = .returned (.int .i64 (24 + q : Int)) ∧ w = w' := by
  go_enter Tryd.func76, Tryd.ntmps76
  go_wp2
  go_ret
  exact ⟨rfl, rfl⟩
set_option maxHeartbeats 1000000 in
theorem len64_010 (z : Int) (q : Nat) (w : World) (h0 : 0 ≤ z) (hz : z ≤ 18446744073709551615) (h1 : z < 4294967296) (h2 : 65536 ≤ z) (h3 : z / 65536 < 256) (hq : q ≤ 8)
    (hi : ∀ W, (Instr.index 9 (.string Lib.len8tab) (.int .u8 (z / 65536))).run Tryd.prog W = .ok (.int .u8 (q : Int)) W) :
    Calls Tryd.prog 76 #[.int .u64 z] w fun e w' => e = .returned (.int .i64 (16 + q : Int)) ∧ w = w' := by
  go_enter Tryd.func76, Tryd.ntmps76
  go_wp2
  go_ret
  exact ⟨rfl, rfl⟩
set_option maxHeartbeats 1000000 in
theorem len64_001 (z : Int) (q : Nat) (w : World) (h0 : 0 ≤ z) (hz : z ≤ 18446744073709551615) (h1 : z < 4294967296) (h2 : z < 65536) (h3 : 256 ≤ z) (hq : q ≤ 8)
    (hi : ∀ W, (Instr.index 9 (.string Lib.len8tab) (.int .u8 (z / 256))).run Tryd.prog W = .ok (.int .u8 (q : Int)) W) :
    Calls Tryd.prog 76 #[.int .u64 z] w fun e w' => e = .returned (.int .i64 (8 + q : Int)) ∧ w = w' := by
  go_enter Tryd.func76, Tryd.ntmps76
  go_wp2
  go_ret
  exact ⟨rfl, rfl⟩
set_option maxHeartbeats 1000000 in
theorem len64_000 (z : Int) (q : Nat) (w : World) (h0 : 0 ≤ z) (hz : z ≤ 18446744073709551615) (h1 : z < 4294967296) (h2 : z < 65536) (h3 : z < 256) (hq : q ≤ 8)
    (hi : ∀ W, (Instr.index 9 (.string Lib.len8tab) (.int .u8 (z))).run Tryd.prog W = .ok (.int .u8 (q : Int)) W) :
    Calls Tryd.prog 76 #[.int .u64 z] w fun e w' => e = .returned (.int .i64 (0 + q : Int)) ∧ w = w' := by
  go_enter Tryd.func76, Tryd.ntmps76
  go_wp2
  go_ret
  exact ⟨ret_int (by omega), rfl⟩
theorem len64_any (x : Nat) (hx : x < 18446744073709551616) (w : World) :
    Calls Tryd.prog 76 #[.int .u64 (x : Int)] w fun e w' => e = .returned (.int .i64 (blen x : Int)) ∧ w = w' := by
  by_cases h0 : 4294967296 ≤ x
  · have s0 := blen_shift (x) 32 (by omega)
    rw [show 2 ^ 32 = 4294967296 by decide] at s0
    by_cases h1 : 65536 ≤ x / 4294967296
    · have s1 := blen_shift (x / 4294967296) 16 (by omega)
      rw [show 2 ^ 16 = 65536 by decide] at s1
      by_cases h2 : 256 ≤ x / 4294967296 / 65536
      · have s2 := blen_shift (x / 4294967296 / 65536) 8 (by omega)
        rw [show 2 ^ 8 = 256 by decide] at s2
        have := len64_111 (x : Int) (blen (x / 4294967296 / 65536 / 256)) w (by omega) (by omega) (by omega) (by omega) (by omega) (blen_mono_le (by omega)) (fun W => index_len8 W (x / 4294967296 / 65536 / 256) (by omega))
        exact this.mono fun e w' h => ⟨h.1.trans (ret_int (by omega)), h.2⟩
      · have := len64_110 (x : Int) (blen (x / 4294967296 / 65536)) w (by omega) (by omega) (by omega) (by omega) (by omega) (blen_mono_le (by omega)) (fun W => index_len8 W (x / 4294967296 / 65536) (by omega))
        exact this.mono fun e w' h => ⟨h.1.trans (ret_int (by omega)), h.2⟩
    · by_cases h2 : 256 ≤ x / 4294967296
      · have s2 := blen_shift (x / 4294967296) 8 (by omega)
        rw [show 2 ^ 8 = 256 by decide] at s2
        have := len64_101 (x : Int) (blen (x / 4294967296 / 256)) w (by omega) (by omega) (by omega) (by omega) (by omega) (blen_mono_le (by omega)) (fun W => index_len8 W (x / 4294967296 / 256) (by omega))
        exact this.mono fun e w' h => ⟨h.1.trans (ret_int (by omega)), h.2⟩
      · have := len64_100 (x : Int) (blen (x / 4294967296)) w (by omega) (by omega) (by omega) (by omega) (by omega) (blen_mono_le (by omega)) (fun W => index_len8 W (x / 4294967296) (by omega))
        exact this.mono fun e w' h => ⟨h.1.trans (ret_int (by omega)), h.2⟩
  · by_cases h1 : 65536 ≤ x
    · have s1 := blen_shift (x) 16 (by omega)
      rw [show 2 ^ 16 = 65536 by decide] at s1
      by_cases h2 : 256 ≤ x / 65536
      · have s2 := blen_shift (x / 65536) 8 (by omega)
        rw [show 2 ^ 8 = 256 by decide] at s2
        have := len64_011 (x : Int) (blen (x / 65536 / 256)) w (by omega) (by omega) (by omega) (by omega) (by omega) (blen_mono_le (by omega)) (fun W => index_len8 W (x / 65536 / 256) (by omega))
        exact this.mono fun e w' h => ⟨h.1.trans (ret_int (by omega)), h.2⟩
      · have := len64_010 (x : Int) (blen (x / 65536)) w (by omega) (by omega) (by omega) (by omega) (by omega) (blen_mono_le (by omega)) (fun W => index_len8 W (x / 65536) (by omega))
        exact this.mono fun e w' h => ⟨h.1.trans (ret_int (by omega)), h.2⟩
    · by_cases h2 : 256 ≤ x
      · have s2 := blen_shift (x) 8 (by omega)
        rw [show 2 ^ 8 = 256 by decide] at s2
        have := len64_001 (x : Int) (blen (x / 256)) w (by omega) (by omega) (by omega) (by omega) (by omega) (blen_mono_le (by omega)) (fun W => index_len8 W (x / 256) (by omega))
        exact this.mono fun e w' h => ⟨h.1.trans (ret_int (by omega)), h.2⟩
      · have := len64_000 (x : Int) (blen (x)) w (by omega) (by omega) (by omega) (by omega) (by omega) (blen_mono_le (by omega)) (fun W => index_len8 W (x) (by omega))
        exact this.mono fun e w' h => ⟨h.1.trans (ret_int (by omega)), h.2⟩

set_option maxHeartbeats 400000 in
theorem lead64_any {x : Nat} {z a : Int} (w : World) (hx : x < 18446744073709551616) (hz : (x : Int) = z) (ha : 64 - (blen x : Int) = a) :
    Calls Tryd.prog 53 #[.int .u64 z] w (PI w a) := by
  have hb := blen_mono_le (n := x) (k := 64) hx
  subst hz
  subst ha
  go_enter Tryd.func53, Tryd.ntmps53
  go_wp2_with (go_at_call 76; refine (len64_any x hx _).mono ?_; rintro e w' ⟨rfl, rfl⟩)
  go_ret
  exact ⟨rfl, Below.refl _ _⟩
theorem of_fq {n : Int} (h0 : n ≠ 0) (h1 : -9223372036854775808 ≤ n) (h2 : n ≤ 9223372036854775807) : Fq 1 (decide (n < 0)) ((tp n.natAbs : Nat) : Int) (-(64 - (blen n.natAbs : Int))) (sgi (decide (n < 0)) (lo n.natAbs 0)) := by
  have hm : n.natAbs ≠ 0 := by omega
  have a1 := tp_ge hm
  have a2 := tp_lt n.natAbs
  have a3 := blen_mono_le (n := n.natAbs) (k := 64) (by omega)
  refine Fq.fin (by omega) (by omega) (by omega) (by omega) ?_
  congr 1
  unfold lo xp
  rw [if_neg hm, if_neg (by omega), if_neg (by omega)]
  omega
theorem of_shl {n : Int} (h0 : n ≠ 0) (h1 : -9223372036854775808 ≤ n) (h2 : n ≤ 9223372036854775807) : (n.natAbs : Int) * 2 ^ (64 - (blen n.natAbs : Int)).toNat = ((tp n.natAbs : Nat) : Int) := by
  have a3 := blen_mono_le (n := n.natAbs) (k := 64) (by omega)
  rw [tp_small a3, show (64 - (blen n.natAbs : Int)).toNat = 64 - blen n.natAbs by omega]
  push_cast
  rfl
set_option maxHeartbeats 2000000 in
theorem nOf {n r : Int} (w : World) (h1 : -9223372036854775808 ≤ n) (h2 : n ≤ 9223372036854775807) (hr : sgi (decide (n < 0)) (lo n.natAbs 0) = r) : Calls Tryd.prog 22 #[.int .i64 n] w (PN w r) := by
  by_cases h0 : n = 0
  · subst h0
    obtain rfl : 0 = r := hr
    go_enter Tryd.func22, Tryd.ntmps22
    go_upto_region 1 with (fail)
    have XR := (Bo.newAt w (g := w.heap.size) (by simp) #[.int .i64 0, .bool false, .int .u64 0, .int .i64 0] 24)
    have HB := Lib.hid (bel1 w (.cells #[.int .i64 0, .bool false, .int .u64 0, .int .i64 0] 24))
    generalize hW1 : (w.alloc (.cells #[.int .i64 0, .bool false, .int .u64 0, .int .i64 0] 24)) = w1 at *
    clear hW1
    have xXR0 := XR.at (i := 0) (v := .int .i64 0) rfl
    have zXR0 := XR.frozen 0
    have xXR1 := XR.at (i := 1) (v := .bool false) rfl
    have zXR1 := XR.frozen 1
    have xXR2 := XR.at (i := 2) (v := .int .u64 0) rfl
    have zXR2 := XR.frozen 2
    have xXR3 := XR.at (i := 3) (v := .int .i64 0) rfl
    have zXR3 := XR.frozen 3
    go_wp2
    clear xXR0 zXR0 xXR1 zXR1 xXR2 zXR2 xXR3 zXR3
    have SX := StN.mk4 XR (.int .i64 0) (.bool false) (.int .u64 0) (.int .i64 0)
    replace HB := Lib.hid (SX.below HB.out (by omega))
    replace XR := SX.box
    clear SX
    generalize (World.setCell (World.setCell (World.setCell (World.setCell w1 ⟨w.heap.size, 0, none⟩ (.int .i64 0)) ⟨w.heap.size, 1, none⟩ (.bool false)) ⟨w.heap.size, 2, none⟩ (.int .u64 0)) ⟨w.heap.size, 3, none⟩ (.int .i64 0)) = w3 at *
    have r0 := XR.cell 0
    have r1 := XR.cell 1
    have r2 := XR.cell 2
    have r3 := XR.cell 3
    exact bodyPost_ret (v := .agg #[.int .i64 0, .bool false, .int .u64 0, .int .i64 0]) (by simp [results, Tryd.results22, go_sem, r0, r1, r2, r3]) rfl ⟨_, _, _, _, rfl, Fq.nought, HB.out⟩
  · have HQ := of_fq h0 h1 h2
    have hs := of_shl h0 h1 h2
    have e0 : (n == 0) = false := by simpa using h0
    have hx : n.natAbs < 18446744073709551616 := by omega
    have hb := blen_mono_le (n := n.natAbs) (k := 64) (by omega)
    have t1 := tp_lt n.natAbs
    rw [hr] at HQ
    clear hr
    by_cases hs0 : n < 0
    · obtain ⟨a, ha⟩ : ∃ a, 64 - (blen n.natAbs : Int) = a := ⟨_, rfl⟩
      have hn : ((n.natAbs : Nat) : Int) = -n := by omega
      rw [ha] at HQ hs
      rw [hn] at hs
      have hd : decide (n < 0) = true := by simp; omega
      rw [hd] at HQ
      have HA := Lib.hid ha
      have HN := Lib.hid hn
      obtain ⟨T, hT⟩ : ∃ T, ((tp n.natAbs : Nat) : Int) = T := ⟨_, rfl⟩
      rw [hT] at HQ hs
      have hT2 : 0 ≤ T ∧ T < 18446744073709551616 := by omega
      have HS := Lib.hid hs
      have HW := Lib.hid (show IntKind.u64.wrap T = T from IntWalk.u64_in _ (by omega))
      have a1 : 0 ≤ a := by omega
      have hb0 : blen n.natAbs ≠ 0 := fun e => h0 (by have := blen_eq_zero.1 e; omega)
      have a2 : a < 64 := by omega
      clear hb0
      clear hs ha hb t1 hT hn hT2
      go_enter Tryd.func22, Tryd.ntmps22
      go_upto_region 1 with (fail)
      have XR := (Bo.newAt w (g := w.heap.size) (by simp) #[.int .i64 0, .bool false, .int .u64 0, .int .i64 0] 24)
      have HB := Lib.hid (bel1 w (.cells #[.int .i64 0, .bool false, .int .u64 0, .int .i64 0] 24))
      generalize hW1 : (w.alloc (.cells #[.int .i64 0, .bool false, .int .u64 0, .int .i64 0] 24)) = w1 at *
      clear hW1
      have hx1 : n.natAbs < 18446744073709551616 := hx
      have hc : IntKind.u64.wrap (-IntKind.u64.wrap n) = -n := by
        show (-(n % 18446744073709551616)) % 18446744073709551616 = -n
        omega
      go_wp2_with fail
      refine (lead64_any _ hx HN.out HA.out).mono ?_
      rintro ee w2 ⟨rfl, B⟩
      replace XR := XR.below B
      replace HB := Lib.hid (bt HB.out B)
      clear B
      have hs := HS.out
      have hw := HW.out
      have xXR0 := XR.at (i := 0) (v := .int .i64 0) rfl
      have zXR0 := XR.frozen 0
      have xXR1 := XR.at (i := 1) (v := .bool false) rfl
      have zXR1 := XR.frozen 1
      have xXR2 := XR.at (i := 2) (v := .int .u64 0) rfl
      have zXR2 := XR.frozen 2
      have xXR3 := XR.at (i := 3) (v := .int .i64 0) rfl
      have zXR3 := XR.frozen 3
      go_wp2
      clear xXR0 zXR0 xXR1 zXR1 xXR2 zXR2 xXR3 zXR3
      have SX := StN.mk4 XR (.int .i64 1) (.bool true) (.int .u64 T) (.int .i64 (-a))
      replace HB := Lib.hid (SX.below HB.out (by omega))
      replace XR := SX.box
      clear SX
      generalize (World.setCell (World.setCell (World.setCell (World.setCell w2 ⟨w.heap.size, 0, none⟩ (.int .i64 1)) ⟨w.heap.size, 1, none⟩ (.bool true)) ⟨w.heap.size, 2, none⟩ (.int .u64 T)) ⟨w.heap.size, 3, none⟩ (.int .i64 (-a))) = w3 at *
      have r0 := XR.cell 0
      have r1 := XR.cell 1
      have r2 := XR.cell 2
      have r3 := XR.cell 3
      exact bodyPost_ret (v := .agg #[.int .i64 1, .bool true, .int .u64 T, .int .i64 (-a)]) (by simp [results, Tryd.results22, go_sem, r0, r1, r2, r3]) rfl ⟨_, _, _, _, rfl, HQ, HB.out⟩
    · obtain ⟨a, ha⟩ : ∃ a, 64 - (blen n.natAbs : Int) = a := ⟨_, rfl⟩
      have hn : ((n.natAbs : Nat) : Int) = n := by omega
      rw [ha] at HQ hs
      rw [hn] at hs
      have hd : decide (n < 0) = false := by simp; omega
      rw [hd] at HQ
      have HA := Lib.hid ha
      have HN := Lib.hid hn
      obtain ⟨T, hT⟩ : ∃ T, ((tp n.natAbs : Nat) : Int) = T := ⟨_, rfl⟩
      rw [hT] at HQ hs
      have hT2 : 0 ≤ T ∧ T < 18446744073709551616 := by omega
      have HS := Lib.hid hs
      have HW := Lib.hid (show IntKind.u64.wrap T = T from IntWalk.u64_in _ (by omega))
      have a1 : 0 ≤ a := by omega
      have hb0 : blen n.natAbs ≠ 0 := fun e => h0 (by have := blen_eq_zero.1 e; omega)
      have a2 : a < 64 := by omega
      clear hb0
      clear hs ha hb t1 hT hn hT2
      go_enter Tryd.func22, Tryd.ntmps22
      go_upto_region 1 with (fail)
      have XR := (Bo.newAt w (g := w.heap.size) (by simp) #[.int .i64 0, .bool false, .int .u64 0, .int .i64 0] 24)
      have HB := Lib.hid (bel1 w (.cells #[.int .i64 0, .bool false, .int .u64 0, .int .i64 0] 24))
      generalize hW1 : (w.alloc (.cells #[.int .i64 0, .bool false, .int .u64 0, .int .i64 0] 24)) = w1 at *
      clear hW1
      have hx1 : n.natAbs < 18446744073709551616 := hx
      go_wp2_with fail
      refine (lead64_any _ hx HN.out HA.out).mono ?_
      rintro ee w2 ⟨rfl, B⟩
      replace XR := XR.below B
      replace HB := Lib.hid (bt HB.out B)
      clear B
      have hs := HS.out
      have hw := HW.out
      have xXR0 := XR.at (i := 0) (v := .int .i64 0) rfl
      have zXR0 := XR.frozen 0
      have xXR1 := XR.at (i := 1) (v := .bool false) rfl
      have zXR1 := XR.frozen 1
      have xXR2 := XR.at (i := 2) (v := .int .u64 0) rfl
      have zXR2 := XR.frozen 2
      have xXR3 := XR.at (i := 3) (v := .int .i64 0) rfl
      have zXR3 := XR.frozen 3
      go_wp2
      clear xXR0 zXR0 xXR1 zXR1 xXR2 zXR2 xXR3 zXR3
      have SX := StN.mk4 XR (.int .i64 1) (.bool false) (.int .u64 T) (.int .i64 (-a))
      replace HB := Lib.hid (SX.below HB.out (by omega))
      replace XR := SX.box
      clear SX
      generalize (World.setCell (World.setCell (World.setCell (World.setCell w2 ⟨w.heap.size, 0, none⟩ (.int .i64 1)) ⟨w.heap.size, 1, none⟩ (.bool false)) ⟨w.heap.size, 2, none⟩ (.int .u64 T)) ⟨w.heap.size, 3, none⟩ (.int .i64 (-a))) = w3 at *
      have r0 := XR.cell 0
      have r1 := XR.cell 1
      have r2 := XR.cell 2
      have r3 := XR.cell 3
      exact bodyPost_ret (v := .agg #[.int .i64 1, .bool false, .int .u64 T, .int .i64 (-a)]) (by simp [results, Tryd.results22, go_sem, r0, r1, r2, r3]) rfl ⟨_, _, _, _, rfl, HQ, HB.out⟩
end Go.Proofs.YtpmakljahhhnfaaDoor

/-
  What num.Least and Most do, and the document's.
-/
namespace Go.Proofs.YtpmakljahhhnfaaDoor
open Go.RowKit
set_option linter.unusedVariables false
set_option linter.unusedSimpArgs false
set_option maxRecDepth 100000

/-- A slice of numbers, as they came in or as they are; their places are l. -/
def Nl (w : World) (A : Option Addr) (n c : Nat) (l : List Int) : Prop :=
  l.length = n ∧ n ≤ c ∧ n ≤ 1099511627776 ∧ (0 < n → ∃ b o, A = some ⟨b, o, none⟩ ∧ ∀ k, k < n → ∃ D s M E, w.cell? ⟨b, o + k * 4, none⟩ = some (.int .i64 D) ∧ w.cell? ⟨b, o + k * 4 + 1, none⟩ = some (.bool s) ∧ w.cell? ⟨b, o + k * 4 + 2, none⟩ = some (.int .u64 M) ∧ w.cell? ⟨b, o + k * 4 + 3, none⟩ = some (.int .i64 E) ∧ M < 18446744073709551616 ∧ rk D s M E = l.getD k 0)
theorem Nl.below {w w' : World} {A : Option Addr} {n c : Nat} {l : List Int} (h : Nl w A n c l) (hb : Below w.heap.size w w') : Nl w' A n c l := by
  obtain ⟨h1, h2, h3, h4⟩ := h
  refine ⟨h1, h2, h3, fun hn => ?_⟩
  obtain ⟨b, o, e, hc⟩ := h4 hn
  refine ⟨b, o, e, fun k hk => ?_⟩
  obtain ⟨D, s, M, E, c0, c1, c2, c3, hM, hr⟩ := hc k hk
  exact ⟨D, s, M, E, (hb.cell (p := ⟨b, _, none⟩) (block_lt_of_cell c0)).trans c0, (hb.cell (p := ⟨b, _, none⟩) (block_lt_of_cell c1)).trans c1, (hb.cell (p := ⟨b, _, none⟩) (block_lt_of_cell c2)).trans c2, (hb.cell (p := ⟨b, _, none⟩) (block_lt_of_cell c3)).trans c3, hM, hr⟩
def Jo.Fact.num (r : Int) : Jo.Fact := ⟨fun v w => ∃ K s M E, v = .agg #[.int .i64 K, .bool s, .int .u64 M, .int .i64 E] ∧ Fq K s M E r, fun v w w' h b => h⟩
end Go.Proofs.YtpmakljahhhnfaaDoor

/-
  The joint rule for a region with a store that may come before or behind other operations: the stored box is as it was or as it is to be, all other blocks are as they were. No Go text.
-/
namespace Go.Proofs.YtpmakljahhhnfaaDoor.Jo
open Go Go.RowKit
set_option linter.unusedVariables false

/-- All blocks but g are as they were; g is as it was, or just the cells new. -/
structure Off (g : Nat) (new : Array Value) (R : TypeId) (w w' : World) : Prop where
  os : w'.os = w.os
  tape : w'.tape = w.tape
  output : w'.output = w.output
  size : w.heap.size ≤ w'.heap.size
  block : ∀ k, k < w.heap.size → k ≠ g → w'.heap[k]? = w.heap[k]?
  own : w'.heap[g]? = w.heap[g]? ∨ w'.heap[g]? = some (.cells new R (0, 0))

section
variable {g : Nat} {new : Array Value} {R : TypeId} {w w' w'' : World}
theorem Off.refl (g : Nat) (new : Array Value) (R : TypeId) (w : World) : Off g new R w w := ⟨rfl, rfl, rfl, Nat.le_refl _, fun _ _ _ => rfl, .inl rfl⟩
theorem Off.drew (w : World) : Off g new R w w.drew := ⟨rfl, rfl, rfl, Nat.le_refl _, fun _ _ _ => rfl, .inl rfl⟩
theorem Off.trans (h : Off g new R w w') (k : Off g new R w' w'') : Off g new R w w'' :=
  ⟨k.os.trans h.os, k.tape.trans h.tape, k.output.trans h.output, Nat.le_trans h.size k.size, fun i hi hn => (k.block i (Nat.lt_of_lt_of_le hi h.size) hn).trans (h.block i hi hn), by
    rcases k.own with e | e
    · rcases h.own with f | f
      · exact .inl (e.trans f)
      · exact .inr (e.trans f)
    · exact .inr e⟩
theorem Off.of_below (h : Below w.heap.size w w') (hg : g < w.heap.size) : Off g new R w w' := ⟨h.os, h.tape, h.output, h.size, fun k hk _ => h.block k hk, .inl (h.block g hg)⟩
theorem Off.of_stn {old : Array Value} (S : StN w w' g old new R) : Off g new R w w' := by
  have hb := S.2.2.2 0 w (Nat.zero_le _) (Below.refl 0 w)
  exact ⟨hb.os, hb.tape, hb.output, hb.size, fun k _ hn => S.2.2.1 k hn, .inr S.2.1⟩
theorem Off.below {B : Nat} {a : World} (O : Off g new R w w') (h : Below B a w) (hB : B ≤ g) (hg : g < w.heap.size) : Below B a w' :=
  ⟨O.os.trans h.os, O.tape.trans h.tape, O.output.trans h.output, Nat.le_trans h.size O.size, fun k hk => (O.block k (by omega) (by omega)).trans (h.block k hk)⟩
theorem _root_.Go.Proofs.YtpmakljahhhnfaaDoor.Bo.off {k : Nat} {cs : Array Value} {T : TypeId} (X : Bo w k cs T) (hk : k ≠ g) (O : Off g new R w w') : Bo w' k cs T := X.keep (O.block k X.lt hk)
theorem _root_.Go.Proofs.YtpmakljahhhnfaaDoor.Nm.off {old : Array Value} {B : Option Addr} {m d a : Nat} (h : Nm w B m d a) (X : Bo w g old R) (hn : old.all no32 = true) (O : Off g new R w w') : Nm w' B m d a := by
  obtain ⟨b, h⟩ := h
  exact ⟨b, h.keep fun hm => O.block b (h.lt hm) (fun e => by
    obtain ⟨o, _, hc⟩ := h.at hm
    have := hc 0 hm
    rw [e] at this
    exact X.no hn this)⟩
theorem _root_.Go.Proofs.YtpmakljahhhnfaaDoor.Rd.off {old : Array Value} {B : Option Addr} {m d a : Nat} (h : Rd w B m d a) (X : Bo w g old R) (hn : old.all no32 = true) (O : Off g new R w w') : Rd w' B m d a := by
  obtain ⟨b, xs, h, e⟩ := h
  exact ⟨b, xs, h.keep fun hm => O.block b (h.lt hm) (fun e => by
    obtain ⟨o, _, hc⟩ := h.at hm
    have := hc 0 hm
    rw [e] at this
    exact X.no hn this), e⟩
end

/-- What is known of a value, kept by what such a region does. -/
structure LFact (g : Nat) (new : Array Value) (R : TypeId) where
  P : Value → World → Prop
  keep : ∀ v w w', P v w → Off g new R w w' → P v w'
section
variable {g : Nat} {new : Array Value} {R : TypeId}
def LFact.any : LFact g new R := ⟨fun _ _ => True, fun _ _ _ h _ => h⟩
def LFact.eq (u : Value) : LFact g new R := ⟨fun v _ => v = u, fun _ _ _ h _ => h⟩
/-- The store is done. -/
def LFact.done : LFact g new R := ⟨fun _ w => Bo w g new R, fun v w w' h o => by
  rcases o.own with e | e
  · exact h.keep e
  · exact e⟩
def lphi (F : List (LFact g new R)) (i : Nat) (v : Value) (w : World) : Prop := (F.getD i LFact.any).P v w
variable {P : Program} {ops : Array Oper} {Q : Exit → Act → World → Prop} {a0 : Act} {T : List Nat} {ds : List (Option Tmp)} {ls : List (List Nat)} {k : Nat} {F : List (LFact g new R)} {J : World → Prop}
theorem lcons {i : Nat} {o : Oper} {r : List Nat} {di : Option Tmp} {L : List (Option Tmp × Nat)} {f : LFact g new R} (ho : ops[i]? = some o) (hdi : ds.getD i none = di) (hL : ((ls.getD i []).map fun j => (ds.getD j none, j)) = L) (hf : F.getD i LFact.any = f)
    (h : ∀ vs w, J w → (∀ j ∈ ls.getD i [], lphi F j (vs j) w) → ∀ K : Act → World → Prop, Shut (∀ v w', f.P v w' → Off g new R w w' → K ((putl vs L a0).put di v) w') →
      if Region.wanted o (yielded ops (putl vs L a0).tmps) = true then Oper.wp P o (putl vs L a0) w K Q else K ((putl vs L a0).put o.dst undef) w)
    (hs : Steps P ops Q a0 (dstOf ds) (depOf ls) (lphi F) J (Off g new R) r) : Steps P ops Q a0 (dstOf ds) (depOf ls) (lphi F) J (Off g new R) (i :: r) := by
  refine Steps.cons ho (fun vs w hJ hd K hK => ?_) hs
  have e : base (dstOf ds) vs (depOf ls i) a0 = putl vs L a0 := by
    rw [base_putl, ← hL]
    rfl
  rw [e] at hK ⊢
  refine h vs w hJ hd K ?_
  intro v w' h1 h2
  have := hK.out v w' (by unfold lphi; rw [hf]; exact h1) h2
  rwa [show dstOf ds i = di from hdi] at this
theorem region_late {id fuel : Nat} {w : World} {L : List (Option Tmp × Nat)} (hm : P.follows .mixedOrders = true) (hok : ok .any ops T (dstOf ds) (depOf ls) k a0.tmps.size = true) (hnd : T.Nodup)
    (hL : (T.map fun j => (ds.getD j none, j)) = L) (hfu : ops.size - T.length = fuel)
    (step : Steps P ops (NoPanic Q) a0 (dstOf ds) (depOf ls) (lphi F) (fun wj => Off g new R w wj) (Off g new R) T)
    (fin : ∀ vs wj, Off g new R w wj → (∀ j ∈ T, lphi F j (vs j) wj) → wpAny P .any ops (NoPanic Q) fuel (mark T ops.size) (putl vs L a0) wj) :
    (Code.region id ops true).wp P Q a0 w := by
  refine wp_region_noPanic ?_
  refine wp_region_joint (T := T) (dst := dstOf ds) (D := depOf ls) (k := k) (Φ := lphi F) (J := fun wj => Off g new R w wj) (St := Off g new R) hm hok hnd (fun _ _ _ _ h => h) (fun i _ v w w' h b => (F.getD i LFact.any).keep v w w' h b) (fun _ _ h b => h.trans b) (Off.drew w) step ?_
  intro vs w hJ hd
  have e : base (dstOf ds) vs T a0 = putl vs L a0 := by
    rw [base_putl, ← hL]
    rfl
  rw [e, hfu]
  exact fin vs w hJ hd
end
end Go.Proofs.YtpmakljahhhnfaaDoor.Jo

/-
  What dy.times and dy.highest do.
-/
namespace Go.Proofs.YtpmakljahhhnfaaDoor
open Go.RowKit
set_option linter.unusedVariables false
set_option maxRecDepth 100000

set_option maxHeartbeats 2000000 in
theorem dTimes {w : World} {A : Option Addr} {n c : Nat} {s : Bool} {N E low r : Int} (h : Wn w s A n c N) (hn : n ≤ 100000) (h0 : low ≤ E) (h1 : E - low ≤ 8388608) (hr : N * ((2 ^ (E - low).toNat : Nat) : Int) = r) :
    Calls Tryd.prog 38 #[.agg #[.bool s, .slice A n c, .int .i64 E], .int .i64 low] w (W1 w (n + (E - low).toNat / 32 + 1) r) := by
  have HR := Lib.hid hr
  clear hr
  obtain ⟨d, hd⟩ : ∃ d, E - low = d := ⟨_, rfl⟩
  have HW : Hid (IntKind.i64.wrap (E - low) = d) := Lib.hid (by rw [hd]; exact IntWalk.i64_in _ (by omega))
  rw [hd] at h1
  have hd0 : 0 ≤ d := by omega
  rw [hd] at HR ⊢
  clear hd h0
  go_enter Tryd.func38, Tryd.ntmps38
  go_wp2_with fail
  have X1 := (Bo.new w #[.bool s, .slice A n c, .int .i64 E] 30).below (bel1 _ (.cells #[.bool false, .slice none 0 0] 28))
  have XR := Bo.newAt (w.alloc (.cells #[.bool s, .slice A n c, .int .i64 E] 30)) (g := w.heap.size + 1) (by simp) #[.bool false, .slice none 0 0] 28
  replace h := h.below (bel2 w (.cells #[.bool s, .slice A n c, .int .i64 E] 30) (.cells #[.bool false, .slice none 0 0] 28))
  have HB := Lib.hid (bel2 w (.cells #[.bool s, .slice A n c, .int .i64 E] 30) (.cells #[.bool false, .slice none 0 0] 28))
  generalize hW1 : (w.alloc (.cells #[.bool s, .slice A n c, .int .i64 E] 30)).alloc (.cells #[.bool false, .slice none 0 0] 28) = w1 at *
  clear hW1
  go_wp2
  refine Jo.region_joint (T := [0, 1, 2, 3, 4, 5, 6, 7, 8, 9, 10, 11]) (ds := [some 5, some 6, some 7, some 8, some 9, some 10, some 11, some 12, some 13, some 14, some 15, some 16, none]) (ls := [[], [0], [1], [], [3], [4], [], [6], [], [7, 8], [5, 9], [2, 10], []]) (k := 13) (L := [(some 5, 0), (some 6, 1), (some 7, 2), (some 8, 3), (some 9, 4), (some 10, 5), (some 11, 6), (some 12, 7), (some 13, 8), (some 14, 9), (some 15, 10), (some 16, 11)]) (fuel := 1) (J := fun wj => Below (World.heap w1).size w1 wj)
    (F := [Jo.Fact.eq (.pointer (some ⟨w.heap.size, 0, none⟩)), Jo.Fact.eq (.pointer (some ⟨w.heap.size, 0, none⟩)), Jo.Fact.eq (.bool s), Jo.Fact.eq (.pointer (some ⟨w.heap.size, 0, none⟩)), Jo.Fact.eq (.pointer (some ⟨w.heap.size, 1, none⟩)), Jo.Fact.eq (.slice A n c), Jo.Fact.eq (.pointer (some ⟨w.heap.size, 2, none⟩)), Jo.Fact.eq (.int .i64 E), Jo.Fact.eq (.int .i64 low), Jo.Fact.eq (.int .i64 d), Jo.Fact.nm (N.natAbs * 2 ^ d.toNat) (n + d.toNat / 32 + 1), Jo.Fact.wn r (n + d.toNat / 32 + 1), Jo.Fact.any])
    (by kernel_rfl) (by kernel_rfl) (by decide) rfl rfl (fun _ _ h b => bt h b) ((Below.refl _ _).drew) ?_ (fun vs w2 hJ hd => ?_)
  · refine Jo.jcons (i := 0) (o := ⟨some 5, _, _, _, _, _⟩) (di := some 5) (L := []) (f := Jo.Fact.eq (.pointer (some ⟨w.heap.size, 0, none⟩))) rfl rfl rfl rfl (fun vs wj hJ hd K hK => ?_) ?_
    · clear hd
      simp only [Jo.putl, Jo.ze, Act.put, Jo.za, Jo.zb, Jo.zc] at hK ⊢
      go_simp
      exact hK.out _ _ rfl (Below.refl _ _)
    refine Jo.jcons (i := 1) (o := ⟨some 6, _, _, _, _, _⟩) (di := some 6) (L := [(some 5, 0)]) (f := Jo.Fact.eq (.pointer (some ⟨w.heap.size, 0, none⟩))) rfl rfl rfl rfl (fun vs wj hJ hd K hK => ?_) ?_
    · have d0 : (Jo.Fact.eq (.pointer (some ⟨w.heap.size, 0, none⟩))).P (vs 0) wj := hd 0 (by decide)
      clear hd
      simp only [Jo.putl, Jo.zd, Jo.ze, Act.put, Jo.za, Jo.zb, Jo.zc] at hK ⊢
      generalize vs 0 = u0 at hK d0 ⊢
      replace d0 : u0 = _ := d0
      subst d0
      go_simp
      exact hK.out _ _ rfl (Below.refl _ _)
    refine Jo.jcons (i := 2) (o := ⟨some 7, _, _, _, _, _⟩) (di := some 7) (L := [(some 6, 1)]) (f := Jo.Fact.eq (.bool s)) rfl rfl rfl rfl (fun vs wj hJ hd K hK => ?_) ?_
    · have d1 : (Jo.Fact.eq (.pointer (some ⟨w.heap.size, 0, none⟩))).P (vs 1) wj := hd 1 (by decide)
      clear hd
      simp only [Jo.putl, Jo.zd, Jo.ze, Act.put, Jo.za, Jo.zb, Jo.zc] at hK ⊢
      generalize vs 1 = u1 at hK d1 ⊢
      replace d1 : u1 = _ := d1
      subst d1
      have xX10 : World.cell? wj ⟨w.heap.size, 0, none⟩ = some (.bool s) := (X1.below hJ).cell 0
      have xX11 : World.cell? wj ⟨w.heap.size, 1, none⟩ = some (.slice A n c) := (X1.below hJ).cell 1
      have xX12 : World.cell? wj ⟨w.heap.size, 2, none⟩ = some (.int .i64 E) := (X1.below hJ).cell 2
      go_simp
      exact hK.out _ _ rfl (Below.refl _ _)
    refine Jo.jcons (i := 3) (o := ⟨some 8, _, _, _, _, _⟩) (di := some 8) (L := []) (f := Jo.Fact.eq (.pointer (some ⟨w.heap.size, 0, none⟩))) rfl rfl rfl rfl (fun vs wj hJ hd K hK => ?_) ?_
    · clear hd
      simp only [Jo.putl, Jo.ze, Act.put, Jo.za, Jo.zb, Jo.zc] at hK ⊢
      go_simp
      exact hK.out _ _ rfl (Below.refl _ _)
    refine Jo.jcons (i := 4) (o := ⟨some 9, _, _, _, _, _⟩) (di := some 9) (L := [(some 8, 3)]) (f := Jo.Fact.eq (.pointer (some ⟨w.heap.size, 1, none⟩))) rfl rfl rfl rfl (fun vs wj hJ hd K hK => ?_) ?_
    · have d3 : (Jo.Fact.eq (.pointer (some ⟨w.heap.size, 0, none⟩))).P (vs 3) wj := hd 3 (by decide)
      clear hd
      simp only [Jo.putl, Jo.zd, Jo.ze, Act.put, Jo.za, Jo.zb, Jo.zc] at hK ⊢
      generalize vs 3 = u3 at hK d3 ⊢
      replace d3 : u3 = _ := d3
      subst d3
      go_simp
      exact hK.out _ _ rfl (Below.refl _ _)
    refine Jo.jcons (i := 5) (o := ⟨some 10, _, _, _, _, _⟩) (di := some 10) (L := [(some 9, 4)]) (f := Jo.Fact.eq (.slice A n c)) rfl rfl rfl rfl (fun vs wj hJ hd K hK => ?_) ?_
    · have d4 : (Jo.Fact.eq (.pointer (some ⟨w.heap.size, 1, none⟩))).P (vs 4) wj := hd 4 (by decide)
      clear hd
      simp only [Jo.putl, Jo.zd, Jo.ze, Act.put, Jo.za, Jo.zb, Jo.zc] at hK ⊢
      generalize vs 4 = u4 at hK d4 ⊢
      replace d4 : u4 = _ := d4
      subst d4
      have xX10 : World.cell? wj ⟨w.heap.size, 0, none⟩ = some (.bool s) := (X1.below hJ).cell 0
      have xX11 : World.cell? wj ⟨w.heap.size, 1, none⟩ = some (.slice A n c) := (X1.below hJ).cell 1
      have xX12 : World.cell? wj ⟨w.heap.size, 2, none⟩ = some (.int .i64 E) := (X1.below hJ).cell 2
      go_simp
      exact hK.out _ _ rfl (Below.refl _ _)
    refine Jo.jcons (i := 6) (o := ⟨some 11, _, _, _, _, _⟩) (di := some 11) (L := []) (f := Jo.Fact.eq (.pointer (some ⟨w.heap.size, 2, none⟩))) rfl rfl rfl rfl (fun vs wj hJ hd K hK => ?_) ?_
    · clear hd
      simp only [Jo.putl, Jo.ze, Act.put, Jo.za, Jo.zb, Jo.zc] at hK ⊢
      go_simp
      exact hK.out _ _ rfl (Below.refl _ _)
    refine Jo.jcons (i := 7) (o := ⟨some 12, _, _, _, _, _⟩) (di := some 12) (L := [(some 11, 6)]) (f := Jo.Fact.eq (.int .i64 E)) rfl rfl rfl rfl (fun vs wj hJ hd K hK => ?_) ?_
    · have d6 : (Jo.Fact.eq (.pointer (some ⟨w.heap.size, 2, none⟩))).P (vs 6) wj := hd 6 (by decide)
      clear hd
      simp only [Jo.putl, Jo.zd, Jo.ze, Act.put, Jo.za, Jo.zb, Jo.zc] at hK ⊢
      generalize vs 6 = u6 at hK d6 ⊢
      replace d6 : u6 = _ := d6
      subst d6
      have xX10 : World.cell? wj ⟨w.heap.size, 0, none⟩ = some (.bool s) := (X1.below hJ).cell 0
      have xX11 : World.cell? wj ⟨w.heap.size, 1, none⟩ = some (.slice A n c) := (X1.below hJ).cell 1
      have xX12 : World.cell? wj ⟨w.heap.size, 2, none⟩ = some (.int .i64 E) := (X1.below hJ).cell 2
      go_simp
      exact hK.out _ _ rfl (Below.refl _ _)
    refine Jo.jcons (i := 8) (o := ⟨some 13, _, _, _, _, _⟩) (di := some 13) (L := []) (f := Jo.Fact.eq (.int .i64 low)) rfl rfl rfl rfl (fun vs wj hJ hd K hK => ?_) ?_
    · clear hd
      simp only [Jo.putl, Jo.ze, Act.put, Jo.za, Jo.zb, Jo.zc] at hK ⊢
      go_simp
      exact hK.out _ _ rfl (Below.refl _ _)
    refine Jo.jcons (i := 9) (o := ⟨some 14, _, _, _, _, _⟩) (di := some 14) (L := [(some 12, 7), (some 13, 8)]) (f := Jo.Fact.eq (.int .i64 d)) rfl rfl rfl rfl (fun vs wj hJ hd K hK => ?_) ?_
    · have d7 : (Jo.Fact.eq (.int .i64 E)).P (vs 7) wj := hd 7 (by decide)
      have d8 : (Jo.Fact.eq (.int .i64 low)).P (vs 8) wj := hd 8 (by decide)
      clear hd
      simp only [Jo.putl, Jo.zd, Jo.ze, Act.put, Jo.za, Jo.zb, Jo.zc] at hK ⊢
      generalize vs 7 = u7 at hK d7 ⊢
      generalize vs 8 = u8 at hK d8 ⊢
      replace d7 : u7 = _ := d7
      subst d7
      replace d8 : u8 = _ := d8
      subst d8
      have hw := HW.out
      go_simp
      exact hK.out _ _ rfl (Below.refl _ _)
    refine Jo.jcons (i := 10) (o := ⟨some 15, _, _, _, _, _⟩) (di := some 15) (L := [(some 10, 5), (some 14, 9)]) (f := Jo.Fact.nm (N.natAbs * 2 ^ d.toNat) (n + d.toNat / 32 + 1)) rfl rfl rfl rfl (fun vs wj hJ hd K hK => ?_) ?_
    · have d5 : (Jo.Fact.eq (.slice A n c)).P (vs 5) wj := hd 5 (by decide)
      have d9 : (Jo.Fact.eq (.int .i64 d)).P (vs 9) wj := hd 9 (by decide)
      clear hd
      simp only [Jo.putl, Jo.zd, Jo.ze, Act.put, Jo.za, Jo.zb, Jo.zc] at hK ⊢
      generalize vs 5 = u5 at hK d5 ⊢
      generalize vs 9 = u9 at hK d9 ⊢
      replace d5 : u5 = _ := d5
      subst d5
      replace d9 : u9 = _ := d9
      subst d9
      go_simp
      refine (vShlZ (h.below hJ).1.rd (by omega) hd0 (by omega) rfl).mono ?_
      rintro ee wk ⟨A3, n3, c3, rfl, p3, k3, B⟩
      exact hK.out _ _ ⟨A3, n3, c3, rfl, p3, k3⟩ B
    refine Jo.jcons (i := 11) (o := ⟨some 16, _, _, _, _, _⟩) (di := some 16) (L := [(some 7, 2), (some 15, 10)]) (f := Jo.Fact.wn r (n + d.toNat / 32 + 1)) rfl rfl rfl rfl (fun vs wj hJ hd K hK => ?_) ?_
    · have d2 : (Jo.Fact.eq (.bool s)).P (vs 2) wj := hd 2 (by decide)
      have d10 : (Jo.Fact.nm (N.natAbs * 2 ^ d.toNat) (n + d.toNat / 32 + 1)).P (vs 10) wj := hd 10 (by decide)
      clear hd
      simp only [Jo.putl, Jo.zd, Jo.ze, Act.put, Jo.za, Jo.zb, Jo.zc] at hK ⊢
      generalize vs 2 = u2 at hK d2 ⊢
      generalize vs 10 = u10 at hK d10 ⊢
      replace d2 : u2 = _ := d2
      subst d2
      obtain ⟨A3, n3, c3, rfl, p3, k3⟩ := d10
      go_simp
      exact hK.out _ _ ⟨s, A3, n3, c3, rfl, HR.out ▸ sg_times h (Nat.pow_pos (by decide)) p3, k3⟩ (Below.refl _ _)
    exact Jo.Steps.nil
  have d0 : (Jo.Fact.eq (.pointer (some ⟨w.heap.size, 0, none⟩))).P (vs 0) w2 := hd 0 (by decide)
  have d1 : (Jo.Fact.eq (.pointer (some ⟨w.heap.size, 0, none⟩))).P (vs 1) w2 := hd 1 (by decide)
  have d2 : (Jo.Fact.eq (.bool s)).P (vs 2) w2 := hd 2 (by decide)
  have d3 : (Jo.Fact.eq (.pointer (some ⟨w.heap.size, 0, none⟩))).P (vs 3) w2 := hd 3 (by decide)
  have d4 : (Jo.Fact.eq (.pointer (some ⟨w.heap.size, 1, none⟩))).P (vs 4) w2 := hd 4 (by decide)
  have d5 : (Jo.Fact.eq (.slice A n c)).P (vs 5) w2 := hd 5 (by decide)
  have d6 : (Jo.Fact.eq (.pointer (some ⟨w.heap.size, 2, none⟩))).P (vs 6) w2 := hd 6 (by decide)
  have d7 : (Jo.Fact.eq (.int .i64 E)).P (vs 7) w2 := hd 7 (by decide)
  have d8 : (Jo.Fact.eq (.int .i64 low)).P (vs 8) w2 := hd 8 (by decide)
  have d9 : (Jo.Fact.eq (.int .i64 d)).P (vs 9) w2 := hd 9 (by decide)
  have d10 : (Jo.Fact.nm (N.natAbs * 2 ^ d.toNat) (n + d.toNat / 32 + 1)).P (vs 10) w2 := hd 10 (by decide)
  have d11 : (Jo.Fact.wn r (n + d.toNat / 32 + 1)).P (vs 11) w2 := hd 11 (by decide)
  clear hd
  simp only [Jo.putl, Jo.zd, Jo.ze, Act.put, Jo.za, Jo.zb, Jo.zc]
  generalize vs 0 = u0 at d0 ⊢
  generalize vs 1 = u1 at d1 ⊢
  generalize vs 2 = u2 at d2 ⊢
  generalize vs 3 = u3 at d3 ⊢
  generalize vs 4 = u4 at d4 ⊢
  generalize vs 5 = u5 at d5 ⊢
  generalize vs 6 = u6 at d6 ⊢
  generalize vs 7 = u7 at d7 ⊢
  generalize vs 8 = u8 at d8 ⊢
  generalize vs 9 = u9 at d9 ⊢
  generalize vs 10 = u10 at d10 ⊢
  generalize vs 11 = u11 at d11 ⊢
  clear vs
  replace d0 : u0 = _ := d0
  subst d0
  replace d1 : u1 = _ := d1
  subst d1
  replace d2 : u2 = _ := d2
  subst d2
  replace d3 : u3 = _ := d3
  subst d3
  replace d4 : u4 = _ := d4
  subst d4
  replace d5 : u5 = _ := d5
  subst d5
  replace d6 : u6 = _ := d6
  subst d6
  replace d7 : u7 = _ := d7
  subst d7
  replace d8 : u8 = _ := d8
  subst d8
  replace d9 : u9 = _ := d9
  subst d9
  obtain ⟨A3, n3, c3, rfl, p3, k3⟩ := d10
  obtain ⟨s4, A4, n4, c4, rfl, p4, k4⟩ := d11
  replace X1 := X1.below hJ
  replace XR := XR.below hJ
  replace h := h.below hJ
  replace HB := Lib.hid (bt HB.out hJ)
  have xXR0 := XR.at (i := 0) (v := .bool false) rfl
  have zXR0 := XR.frozen 0
  have xXR1 := XR.at (i := 1) (v := .slice none 0 0) rfl
  have zXR1 := XR.frozen 1
  refine Jo.jnext (i := 12) (o := ⟨none, _, _, _, _, _⟩) (by kernel_rfl) rfl (fun K hK => ?_)
  go_simp
  refine hK.out _ _ ?_
  clear hK K xXR0 zXR0 xXR1 zXR1
  have SX := StN.mk2 XR (.bool s4) (.slice A4 n4 c4)
  replace X1 := X1.stn SX (by omega)
  replace h := h.stn SX (by simp [no32])
  replace p4 := p4.stn SX (by simp [no32])
  replace HB := Lib.hid (SX.below HB.out (by omega))
  replace XR := SX.box
  clear SX
  generalize (World.setCell (World.setCell w2 ⟨w.heap.size + 1, 0, none⟩ (.bool s4)) ⟨w.heap.size + 1, 1, none⟩ (.slice A4 n4 c4)) = w3 at *
  refine Jo.jdone (by kernel_rfl) ?_
  go_wp2
  have r0 := XR.cell 0
  have r1 := XR.cell 1
  exact bodyPost_ret (v := .agg #[.bool s4, .slice A4 n4 c4]) (by simp [results, Tryd.results38, go_sem, r0, r1]) rfl ⟨s4, A4, n4, c4, rfl, p4, k4, HB.out⟩
end Go.Proofs.YtpmakljahhhnfaaDoor

/-
  What dy.highest, Neg, Move and Mul do.
-/
namespace Go.Proofs.YtpmakljahhhnfaaDoor
open Go.RowKit
set_option linter.unusedVariables false
set_option maxRecDepth 100000

set_option maxHeartbeats 2000000 in
theorem dHighest {w : World} {A : Option Addr} {n c : Nat} {s : Bool} {N E r : Int} (h : Wn w s A n c N) (hn : n ≤ 100000) (h0 : -4194304 ≤ E) (h1 : E ≤ 4194304) (hr : ((blen N.natAbs : Nat) : Int) + E = r) :
    Calls Tryd.prog 36 #[.agg #[.bool s, .slice A n c, .int .i64 E]] w (PI w r) := by
  have hb := h.1.rd.blen_le
  obtain ⟨b, hb1⟩ : ∃ b, ((blen N.natAbs : Nat) : Int) = b := ⟨_, rfl⟩
  have hb0 : 0 ≤ b := by omega
  have hb2 : b ≤ 3200000 := by omega
  rw [hb1] at hr
  have HV := Lib.hid hb1
  have HW : Hid (IntKind.i64.wrap (b + E) = r) := Lib.hid (by rw [hr]; exact IntWalk.i64_in _ (by omega))
  clear hb hb1 hr
  go_enter Tryd.func36, Tryd.ntmps36
  go_upto_region 1 with (fail)
  have X1 := (Bo.newAt w (g := w.heap.size) (by simp) #[.bool s, .slice A n c, .int .i64 E] 30)
  have HB := Lib.hid (bel1 w (.cells #[.bool s, .slice A n c, .int .i64 E] 30))
  replace h := h.below HB.out
  generalize hW1 : (w.alloc (.cells #[.bool s, .slice A n c, .int .i64 E] 30)) = w1 at *
  clear hW1
  refine Jo.region_joint (T := [0, 1, 2, 3, 4, 5, 6, 7]) (ds := [some 3, some 4, some 5, some 6, some 7, some 8, some 9, some 2]) (ls := [[], [0], [1], [2], [], [4], [3, 5], [6]]) (k := 8) (L := [(some 3, 0), (some 4, 1), (some 5, 2), (some 6, 3), (some 7, 4), (some 8, 5), (some 9, 6), (some 2, 7)]) (fuel := 0) (J := fun wj => Below (World.heap w1).size w1 wj)
    (F := [Jo.Fact.eq (.pointer (some ⟨w.heap.size, 0, none⟩)), Jo.Fact.eq (.pointer (some ⟨w.heap.size, 1, none⟩)), Jo.Fact.eq (.slice A n c), Jo.Fact.eq (.int .i64 b), Jo.Fact.eq (.pointer (some ⟨w.heap.size, 2, none⟩)), Jo.Fact.eq (.int .i64 E), Jo.Fact.eq (.int .i64 r), Jo.Fact.eq (.int .i64 r)])
    (by kernel_rfl) (by kernel_rfl) (by decide) rfl rfl (fun _ _ h b => bt h b) ((Below.refl _ _).drew) ?_ (fun vs w2 hJ hd => ?_)
  · refine Jo.jcons (i := 0) (o := ⟨some 3, _, _, _, _, _⟩) (di := some 3) (L := []) (f := Jo.Fact.eq (.pointer (some ⟨w.heap.size, 0, none⟩))) rfl rfl rfl rfl (fun vs wj hJ hd K hK => ?_) ?_
    · clear hd
      simp only [Jo.putl, Jo.ze, Act.put, Jo.za, Jo.zb, Jo.zc] at hK ⊢
      go_simp
      exact hK.out _ _ rfl (Below.refl _ _)
    refine Jo.jcons (i := 1) (o := ⟨some 4, _, _, _, _, _⟩) (di := some 4) (L := [(some 3, 0)]) (f := Jo.Fact.eq (.pointer (some ⟨w.heap.size, 1, none⟩))) rfl rfl rfl rfl (fun vs wj hJ hd K hK => ?_) ?_
    · have d0 : (Jo.Fact.eq (.pointer (some ⟨w.heap.size, 0, none⟩))).P (vs 0) wj := hd 0 (by decide)
      clear hd
      simp only [Jo.putl, Jo.zd, Jo.ze, Act.put, Jo.za, Jo.zb, Jo.zc] at hK ⊢
      generalize vs 0 = u0 at hK d0 ⊢
      replace d0 : u0 = _ := d0
      subst d0
      go_simp
      exact hK.out _ _ rfl (Below.refl _ _)
    refine Jo.jcons (i := 2) (o := ⟨some 5, _, _, _, _, _⟩) (di := some 5) (L := [(some 4, 1)]) (f := Jo.Fact.eq (.slice A n c)) rfl rfl rfl rfl (fun vs wj hJ hd K hK => ?_) ?_
    · have d1 : (Jo.Fact.eq (.pointer (some ⟨w.heap.size, 1, none⟩))).P (vs 1) wj := hd 1 (by decide)
      clear hd
      simp only [Jo.putl, Jo.zd, Jo.ze, Act.put, Jo.za, Jo.zb, Jo.zc] at hK ⊢
      generalize vs 1 = u1 at hK d1 ⊢
      replace d1 : u1 = _ := d1
      subst d1
      have xX10 : World.cell? wj ⟨w.heap.size, 0, none⟩ = some (.bool s) := (X1.below hJ).cell 0
      have xX11 : World.cell? wj ⟨w.heap.size, 1, none⟩ = some (.slice A n c) := (X1.below hJ).cell 1
      have xX12 : World.cell? wj ⟨w.heap.size, 2, none⟩ = some (.int .i64 E) := (X1.below hJ).cell 2
      go_simp
      exact hK.out _ _ rfl (Below.refl _ _)
    refine Jo.jcons (i := 3) (o := ⟨some 6, _, _, _, _, _⟩) (di := some 6) (L := [(some 5, 2)]) (f := Jo.Fact.eq (.int .i64 b)) rfl rfl rfl rfl (fun vs wj hJ hd K hK => ?_) ?_
    · have d2 : (Jo.Fact.eq (.slice A n c)).P (vs 2) wj := hd 2 (by decide)
      clear hd
      simp only [Jo.putl, Jo.zd, Jo.ze, Act.put, Jo.za, Jo.zb, Jo.zc] at hK ⊢
      generalize vs 2 = u2 at hK d2 ⊢
      replace d2 : u2 = _ := d2
      subst d2
      go_simp
      refine (vLenE (h.below hJ).1.rd HV.out).mono ?_
      rintro ee wk ⟨rfl, B⟩
      exact hK.out _ _ rfl B
    refine Jo.jcons (i := 4) (o := ⟨some 7, _, _, _, _, _⟩) (di := some 7) (L := []) (f := Jo.Fact.eq (.pointer (some ⟨w.heap.size, 2, none⟩))) rfl rfl rfl rfl (fun vs wj hJ hd K hK => ?_) ?_
    · clear hd
      simp only [Jo.putl, Jo.ze, Act.put, Jo.za, Jo.zb, Jo.zc] at hK ⊢
      go_simp
      exact hK.out _ _ rfl (Below.refl _ _)
    refine Jo.jcons (i := 5) (o := ⟨some 8, _, _, _, _, _⟩) (di := some 8) (L := [(some 7, 4)]) (f := Jo.Fact.eq (.int .i64 E)) rfl rfl rfl rfl (fun vs wj hJ hd K hK => ?_) ?_
    · have d4 : (Jo.Fact.eq (.pointer (some ⟨w.heap.size, 2, none⟩))).P (vs 4) wj := hd 4 (by decide)
      clear hd
      simp only [Jo.putl, Jo.zd, Jo.ze, Act.put, Jo.za, Jo.zb, Jo.zc] at hK ⊢
      generalize vs 4 = u4 at hK d4 ⊢
      replace d4 : u4 = _ := d4
      subst d4
      have xX10 : World.cell? wj ⟨w.heap.size, 0, none⟩ = some (.bool s) := (X1.below hJ).cell 0
      have xX11 : World.cell? wj ⟨w.heap.size, 1, none⟩ = some (.slice A n c) := (X1.below hJ).cell 1
      have xX12 : World.cell? wj ⟨w.heap.size, 2, none⟩ = some (.int .i64 E) := (X1.below hJ).cell 2
      go_simp
      exact hK.out _ _ rfl (Below.refl _ _)
    refine Jo.jcons (i := 6) (o := ⟨some 9, _, _, _, _, _⟩) (di := some 9) (L := [(some 6, 3), (some 8, 5)]) (f := Jo.Fact.eq (.int .i64 r)) rfl rfl rfl rfl (fun vs wj hJ hd K hK => ?_) ?_
    · have d3 : (Jo.Fact.eq (.int .i64 b)).P (vs 3) wj := hd 3 (by decide)
      have d5 : (Jo.Fact.eq (.int .i64 E)).P (vs 5) wj := hd 5 (by decide)
      clear hd
      simp only [Jo.putl, Jo.zd, Jo.ze, Act.put, Jo.za, Jo.zb, Jo.zc] at hK ⊢
      generalize vs 3 = u3 at hK d3 ⊢
      generalize vs 5 = u5 at hK d5 ⊢
      replace d3 : u3 = _ := d3
      subst d3
      replace d5 : u5 = _ := d5
      subst d5
      have hw := HW.out
      go_simp
      exact hK.out _ _ rfl (Below.refl _ _)
    refine Jo.jcons (i := 7) (o := ⟨some 2, _, _, _, _, _⟩) (di := some 2) (L := [(some 9, 6)]) (f := Jo.Fact.eq (.int .i64 r)) rfl rfl rfl rfl (fun vs wj hJ hd K hK => ?_) ?_
    · have d6 : (Jo.Fact.eq (.int .i64 r)).P (vs 6) wj := hd 6 (by decide)
      clear hd
      simp only [Jo.putl, Jo.zd, Jo.ze, Act.put, Jo.za, Jo.zb, Jo.zc] at hK ⊢
      generalize vs 6 = u6 at hK d6 ⊢
      replace d6 : u6 = _ := d6
      subst d6
      go_simp
      exact hK.out _ _ rfl (Below.refl _ _)
    exact Jo.Steps.nil
  have d0 : (Jo.Fact.eq (.pointer (some ⟨w.heap.size, 0, none⟩))).P (vs 0) w2 := hd 0 (by decide)
  have d1 : (Jo.Fact.eq (.pointer (some ⟨w.heap.size, 1, none⟩))).P (vs 1) w2 := hd 1 (by decide)
  have d2 : (Jo.Fact.eq (.slice A n c)).P (vs 2) w2 := hd 2 (by decide)
  have d3 : (Jo.Fact.eq (.int .i64 b)).P (vs 3) w2 := hd 3 (by decide)
  have d4 : (Jo.Fact.eq (.pointer (some ⟨w.heap.size, 2, none⟩))).P (vs 4) w2 := hd 4 (by decide)
  have d5 : (Jo.Fact.eq (.int .i64 E)).P (vs 5) w2 := hd 5 (by decide)
  have d6 : (Jo.Fact.eq (.int .i64 r)).P (vs 6) w2 := hd 6 (by decide)
  have d7 : (Jo.Fact.eq (.int .i64 r)).P (vs 7) w2 := hd 7 (by decide)
  clear hd
  simp only [Jo.putl, Jo.zd, Jo.ze, Act.put, Jo.za, Jo.zb, Jo.zc]
  generalize vs 0 = u0 at d0 ⊢
  generalize vs 1 = u1 at d1 ⊢
  generalize vs 2 = u2 at d2 ⊢
  generalize vs 3 = u3 at d3 ⊢
  generalize vs 4 = u4 at d4 ⊢
  generalize vs 5 = u5 at d5 ⊢
  generalize vs 6 = u6 at d6 ⊢
  generalize vs 7 = u7 at d7 ⊢
  clear vs
  replace d0 : u0 = _ := d0
  subst d0
  replace d1 : u1 = _ := d1
  subst d1
  replace d2 : u2 = _ := d2
  subst d2
  replace d3 : u3 = _ := d3
  subst d3
  replace d4 : u4 = _ := d4
  subst d4
  replace d5 : u5 = _ := d5
  subst d5
  replace d6 : u6 = _ := d6
  subst d6
  replace d7 : u7 = _ := d7
  subst d7
  replace X1 := X1.below hJ
  replace h := h.below hJ
  replace HB := Lib.hid (bt HB.out hJ)
  refine Jo.jdone (by kernel_rfl) ?_
  go_wp2
  go_ret
  exact ⟨rfl, HB.out⟩

set_option maxHeartbeats 4000000 in
theorem dMul {w : World} {A B : Option Addr} {n c m d : Nat} {s t : Bool} {z e y f N E : Int} (hT : Tab w) (h : Wr w s A n c z) (k : Wr w t B m d y) (hn : n ≤ 20000) (hm : m ≤ 20000)
    (hN : (ml (mk z e) (mk y f)).1 = N) (hE : (ml (mk z e) (mk y f)).2 = E) :
    Calls Tryd.prog 13 #[.agg #[.bool s, .slice A n c, .int .i64 e], .agg #[.bool t, .slice B m d, .int .i64 f]] w (D1 w (1 + 2 * 20000) N E) := by
  unfold ml at hN hE
  obtain ⟨b1, b2⟩ := mk_bd z e
  obtain ⟨b3, b4⟩ := mk_bd y f
  revert b1 b2 b3 b4 hN hE
  generalize hN1 : (mk z e).1 = N1
  generalize hE1 : (mk z e).2 = E1
  generalize hN2 : (mk y f).1 = N2
  generalize hE2 : (mk y f).2 = E2
  intro hN hE b1 b2 b3 b4
  have HW : Hid (IntKind.i64.wrap (E1 + E2) = E1 + E2) := Lib.hid (IntWalk.i64_in _ (by omega))
  have HP : Hid (prd [N1, N2] = N1 * N2) := Lib.hid (by simp [prd])
  have HN1 := Lib.hid hN1
  have HE1 := Lib.hid hE1
  have HN2 := Lib.hid hN2
  have HE2 := Lib.hid hE2
  have HN := Lib.hid hN
  have HE := Lib.hid hE
  clear hN hE hN1 hE1 hN2 hE2
  go_enter Tryd.func13, Tryd.ntmps13
  go_upto_region 1 with (fail)
  have X1 := (Bo.newAt w (g := w.heap.size) (by simp) #[.bool s, .slice A n c, .int .i64 e] 30).below (bel2 _ (.cells #[.bool t, .slice B m d, .int .i64 f] 30) (.cells #[.bool false, .slice none 0 0, .int .i64 0] 30))
  have X2 := (Bo.newAt (w.alloc (.cells #[.bool s, .slice A n c, .int .i64 e] 30)) (g := w.heap.size + 1) (by simp) #[.bool t, .slice B m d, .int .i64 f] 30).below (bel1 _ (.cells #[.bool false, .slice none 0 0, .int .i64 0] 30))
  have XR := (Bo.newAt ((w.alloc (.cells #[.bool s, .slice A n c, .int .i64 e] 30)).alloc (.cells #[.bool t, .slice B m d, .int .i64 f] 30)) (g := w.heap.size + 1 + 1) (by simp) #[.bool false, .slice none 0 0, .int .i64 0] 30)
  have HB := Lib.hid (bel3 w (.cells #[.bool s, .slice A n c, .int .i64 e] 30) (.cells #[.bool t, .slice B m d, .int .i64 f] 30) (.cells #[.bool false, .slice none 0 0, .int .i64 0] 30))
  replace hT := hT.below HB.out
  replace h := h.below HB.out
  replace k := k.below HB.out
  generalize hW1 : (((w.alloc (.cells #[.bool s, .slice A n c, .int .i64 e] 30)).alloc (.cells #[.bool t, .slice B m d, .int .i64 f] 30)).alloc (.cells #[.bool false, .slice none 0 0, .int .i64 0] 30)) = w1 at *
  clear hW1
  refine Jo.region_joint (T := [0, 1, 2, 3]) (ds := [some 5, some 6, some 7, some 8, none, none]) (ls := [[], [0], [], [2], [], []]) (k := 6) (L := [(some 5, 0), (some 6, 1), (some 7, 2), (some 8, 3)]) (fuel := 2) (J := fun wj => Below (World.heap w1).size w1 wj)
    (F := [Jo.Fact.eq (.agg #[.bool s, .slice A n c, .int .i64 e]), Jo.Fact.dy N1 E1 n, Jo.Fact.eq (.agg #[.bool t, .slice B m d, .int .i64 f]), Jo.Fact.dy N2 E2 m, Jo.Fact.any, Jo.Fact.any])
    (by kernel_rfl) (by kernel_rfl) (by decide) rfl rfl (fun _ _ h b => bt h b) ((Below.refl _ _).drew) ?_ (fun vs w2 hJ hd => ?_)
  · refine Jo.jcons (i := 0) (o := ⟨some 5, _, _, _, _, _⟩) (di := some 5) (L := []) (f := Jo.Fact.eq (.agg #[.bool s, .slice A n c, .int .i64 e])) rfl rfl rfl rfl (fun vs wj hJ hd K hK => ?_) ?_
    · clear hd
      simp only [Jo.putl, Jo.ze, Act.put, Jo.za, Jo.zb, Jo.zc] at hK ⊢
      have xX10 : World.cell? wj ⟨w.heap.size, 0, none⟩ = some (.bool s) := (X1.below hJ).cell 0
      have xX11 : World.cell? wj ⟨w.heap.size, 1, none⟩ = some (.slice A n c) := (X1.below hJ).cell 1
      have xX12 : World.cell? wj ⟨w.heap.size, 2, none⟩ = some (.int .i64 e) := (X1.below hJ).cell 2
      go_simp
      exact hK.out _ _ rfl (Below.refl _ _)
    refine Jo.jcons (i := 1) (o := ⟨some 6, _, _, _, _, _⟩) (di := some 6) (L := [(some 5, 0)]) (f := Jo.Fact.dy N1 E1 n) rfl rfl rfl rfl (fun vs wj hJ hd K hK => ?_) ?_
    · have d0 : (Jo.Fact.eq (.agg #[.bool s, .slice A n c, .int .i64 e])).P (vs 0) wj := hd 0 (by decide)
      clear hd
      simp only [Jo.putl, Jo.zd, Jo.ze, Act.put, Jo.za, Jo.zb, Jo.zc] at hK ⊢
      generalize vs 0 = u0 at hK d0 ⊢
      replace d0 : u0 = _ := d0
      subst d0
      go_simp
      refine (dTaken (hT.below hJ) (h.below hJ) (by omega) HN1.out HE1.out).mono ?_
      rintro ee wk ⟨s1, A1, n1, c1, rfl, p1, k1, B⟩
      exact hK.out _ _ ⟨s1, A1, n1, c1, rfl, p1, k1⟩ B
    refine Jo.jcons (i := 2) (o := ⟨some 7, _, _, _, _, _⟩) (di := some 7) (L := []) (f := Jo.Fact.eq (.agg #[.bool t, .slice B m d, .int .i64 f])) rfl rfl rfl rfl (fun vs wj hJ hd K hK => ?_) ?_
    · clear hd
      simp only [Jo.putl, Jo.ze, Act.put, Jo.za, Jo.zb, Jo.zc] at hK ⊢
      have xX20 : World.cell? wj ⟨w.heap.size + 1, 0, none⟩ = some (.bool t) := (X2.below hJ).cell 0
      have xX21 : World.cell? wj ⟨w.heap.size + 1, 1, none⟩ = some (.slice B m d) := (X2.below hJ).cell 1
      have xX22 : World.cell? wj ⟨w.heap.size + 1, 2, none⟩ = some (.int .i64 f) := (X2.below hJ).cell 2
      go_simp
      exact hK.out _ _ rfl (Below.refl _ _)
    refine Jo.jcons (i := 3) (o := ⟨some 8, _, _, _, _, _⟩) (di := some 8) (L := [(some 7, 2)]) (f := Jo.Fact.dy N2 E2 m) rfl rfl rfl rfl (fun vs wj hJ hd K hK => ?_) ?_
    · have d2 : (Jo.Fact.eq (.agg #[.bool t, .slice B m d, .int .i64 f])).P (vs 2) wj := hd 2 (by decide)
      clear hd
      simp only [Jo.putl, Jo.zd, Jo.ze, Act.put, Jo.za, Jo.zb, Jo.zc] at hK ⊢
      generalize vs 2 = u2 at hK d2 ⊢
      replace d2 : u2 = _ := d2
      subst d2
      go_simp
      refine (dTaken (hT.below hJ) (k.below hJ) (by omega) HN2.out HE2.out).mono ?_
      rintro ee wk ⟨s2, A2, n2, c2, rfl, p2, k2, B⟩
      exact hK.out _ _ ⟨s2, A2, n2, c2, rfl, p2, k2⟩ B
    exact Jo.Steps.nil
  have d0 : (Jo.Fact.eq (.agg #[.bool s, .slice A n c, .int .i64 e])).P (vs 0) w2 := hd 0 (by decide)
  have d1 : (Jo.Fact.dy N1 E1 n).P (vs 1) w2 := hd 1 (by decide)
  have d2 : (Jo.Fact.eq (.agg #[.bool t, .slice B m d, .int .i64 f])).P (vs 2) w2 := hd 2 (by decide)
  have d3 : (Jo.Fact.dy N2 E2 m).P (vs 3) w2 := hd 3 (by decide)
  clear hd
  simp only [Jo.putl, Jo.zd, Jo.ze, Act.put, Jo.za, Jo.zb, Jo.zc]
  generalize vs 0 = u0 at d0 ⊢
  generalize vs 1 = u1 at d1 ⊢
  generalize vs 2 = u2 at d2 ⊢
  generalize vs 3 = u3 at d3 ⊢
  clear vs
  replace d0 : u0 = _ := d0
  subst d0
  obtain ⟨s1, A1, n1, c1, rfl, p1, k1⟩ := d1
  replace d2 : u2 = _ := d2
  subst d2
  obtain ⟨s2, A2, n2, c2, rfl, p2, k2⟩ := d3
  replace X1 := X1.below hJ
  replace X2 := X2.below hJ
  replace XR := XR.below hJ
  replace hT := hT.below hJ
  replace h := h.below hJ
  replace k := k.below hJ
  replace HB := Lib.hid (bt HB.out hJ)
  have xX10 := X1.at (i := 0) (v := .bool s) rfl
  have zX10 := X1.frozen 0
  have xX11 := X1.at (i := 1) (v := .slice A n c) rfl
  have zX11 := X1.frozen 1
  have xX12 := X1.at (i := 2) (v := .int .i64 e) rfl
  have zX12 := X1.frozen 2
  refine Jo.jnext (i := 4) (o := ⟨none, _, _, _, _, _⟩) (by kernel_rfl) rfl (fun K hK => ?_)
  go_simp
  refine hK.out _ _ ?_
  clear hK K xX10 zX10 xX11 zX11 xX12 zX12
  have SX := StN.mk3 X1 (.bool s1) (.slice A1 n1 c1) (.int .i64 E1)
  replace X2 := X2.stn SX (by omega)
  replace XR := XR.stn SX (by omega)
  replace hT := hT.stn SX (by simp [no8])
  replace h := h.stn SX (by simp [no32])
  replace k := k.stn SX (by simp [no32])
  replace p1 := p1.stn SX (by simp [no32])
  replace p2 := p2.stn SX (by simp [no32])
  replace HB := Lib.hid (SX.below HB.out (by omega))
  replace X1 := SX.box
  clear SX
  generalize (World.setCell (World.setCell (World.setCell w2 ⟨w.heap.size, 0, none⟩ (.bool s1)) ⟨w.heap.size, 1, none⟩ (.slice A1 n1 c1)) ⟨w.heap.size, 2, none⟩ (.int .i64 E1)) = w3 at *
  have xX20 := X2.at (i := 0) (v := .bool t) rfl
  have zX20 := X2.frozen 0
  have xX21 := X2.at (i := 1) (v := .slice B m d) rfl
  have zX21 := X2.frozen 1
  have xX22 := X2.at (i := 2) (v := .int .i64 f) rfl
  have zX22 := X2.frozen 2
  refine Jo.jnext (i := 5) (o := ⟨none, _, _, _, _, _⟩) (by kernel_rfl) rfl (fun K hK => ?_)
  go_simp
  refine hK.out _ _ ?_
  clear hK K xX20 zX20 xX21 zX21 xX22 zX22
  have SX := StN.mk3 X2 (.bool s2) (.slice A2 n2 c2) (.int .i64 E2)
  replace X1 := X1.stn SX (by omega)
  replace XR := XR.stn SX (by omega)
  replace hT := hT.stn SX (by simp [no8])
  replace h := h.stn SX (by simp [no32])
  replace k := k.stn SX (by simp [no32])
  replace p1 := p1.stn SX (by simp [no32])
  replace p2 := p2.stn SX (by simp [no32])
  replace HB := Lib.hid (SX.below HB.out (by omega))
  replace X2 := SX.box
  clear SX
  generalize (World.setCell (World.setCell (World.setCell w3 ⟨w.heap.size + 1, 0, none⟩ (.bool s2)) ⟨w.heap.size + 1, 1, none⟩ (.slice A2 n2 c2)) ⟨w.heap.size + 1, 2, none⟩ (.int .i64 E2)) = w4 at *
  refine Jo.jdone (by kernel_rfl) ?_
  go_upto_region 2 with (fail)
  refine Jo.region_joint (T := [0, 1, 2, 3, 4, 5, 6, 7, 8, 9, 10, 11]) (ds := [some 9, some 10, some 11, some 12, some 13, some 14, some 15, some 16, some 17, some 18, some 19, some 20, none]) (ls := [[], [0], [], [2], [1, 3], [4], [], [6], [], [8], [7, 9], [5, 10], []]) (k := 13) (L := [(some 9, 0), (some 10, 1), (some 11, 2), (some 12, 3), (some 13, 4), (some 14, 5), (some 15, 6), (some 16, 7), (some 17, 8), (some 18, 9), (some 19, 10), (some 20, 11)]) (fuel := 1) (J := fun wj => Below (World.heap w4).size w4 wj)
    (F := [Jo.Fact.eq (.pointer (some ⟨w.heap.size, 0, none⟩)), Jo.Fact.eq (.agg #[.bool s1, .slice A1 n1 c1]), Jo.Fact.eq (.pointer (some ⟨w.heap.size + 1, 0, none⟩)), Jo.Fact.eq (.agg #[.bool s2, .slice A2 n2 c2]), Jo.Fact.wl 20000 2 [N1, N2], Jo.Fact.wn (N1 * N2) (1 + 2 * 20000), Jo.Fact.eq (.pointer (some ⟨w.heap.size, 2, none⟩)), Jo.Fact.eq (.int .i64 E1), Jo.Fact.eq (.pointer (some ⟨w.heap.size + 1, 2, none⟩)), Jo.Fact.eq (.int .i64 E2), Jo.Fact.eq (.int .i64 (E1 + E2)), Jo.Fact.dy N E (1 + 2 * 20000), Jo.Fact.any])
    (by kernel_rfl) (by kernel_rfl) (by decide) rfl rfl (fun _ _ h b => bt h b) ((Below.refl _ _).drew) ?_ (fun vs w5 hJ hd => ?_)
  · refine Jo.jcons (i := 0) (o := ⟨some 9, _, _, _, _, _⟩) (di := some 9) (L := []) (f := Jo.Fact.eq (.pointer (some ⟨w.heap.size, 0, none⟩))) rfl rfl rfl rfl (fun vs wj hJ hd K hK => ?_) ?_
    · clear hd
      simp only [Jo.putl, Jo.ze, Act.put, Jo.za, Jo.zb, Jo.zc] at hK ⊢
      go_simp
      exact hK.out _ _ rfl (Below.refl _ _)
    refine Jo.jcons (i := 1) (o := ⟨some 10, _, _, _, _, _⟩) (di := some 10) (L := [(some 9, 0)]) (f := Jo.Fact.eq (.agg #[.bool s1, .slice A1 n1 c1])) rfl rfl rfl rfl (fun vs wj hJ hd K hK => ?_) ?_
    · have d0 : (Jo.Fact.eq (.pointer (some ⟨w.heap.size, 0, none⟩))).P (vs 0) wj := hd 0 (by decide)
      clear hd
      simp only [Jo.putl, Jo.zd, Jo.ze, Act.put, Jo.za, Jo.zb, Jo.zc] at hK ⊢
      generalize vs 0 = u0 at hK d0 ⊢
      replace d0 : u0 = _ := d0
      subst d0
      have xX10 : World.cell? wj ⟨w.heap.size, 0, none⟩ = some (.bool s1) := (X1.below hJ).cell 0
      have xX11 : World.cell? wj ⟨w.heap.size, 1, none⟩ = some (.slice A1 n1 c1) := (X1.below hJ).cell 1
      have xX12 : World.cell? wj ⟨w.heap.size, 2, none⟩ = some (.int .i64 E1) := (X1.below hJ).cell 2
      go_simp
      exact hK.out _ _ rfl (Below.refl _ _)
    refine Jo.jcons (i := 2) (o := ⟨some 11, _, _, _, _, _⟩) (di := some 11) (L := []) (f := Jo.Fact.eq (.pointer (some ⟨w.heap.size + 1, 0, none⟩))) rfl rfl rfl rfl (fun vs wj hJ hd K hK => ?_) ?_
    · clear hd
      simp only [Jo.putl, Jo.ze, Act.put, Jo.za, Jo.zb, Jo.zc] at hK ⊢
      go_simp
      exact hK.out _ _ rfl (Below.refl _ _)
    refine Jo.jcons (i := 3) (o := ⟨some 12, _, _, _, _, _⟩) (di := some 12) (L := [(some 11, 2)]) (f := Jo.Fact.eq (.agg #[.bool s2, .slice A2 n2 c2])) rfl rfl rfl rfl (fun vs wj hJ hd K hK => ?_) ?_
    · have d2 : (Jo.Fact.eq (.pointer (some ⟨w.heap.size + 1, 0, none⟩))).P (vs 2) wj := hd 2 (by decide)
      clear hd
      simp only [Jo.putl, Jo.zd, Jo.ze, Act.put, Jo.za, Jo.zb, Jo.zc] at hK ⊢
      generalize vs 2 = u2 at hK d2 ⊢
      replace d2 : u2 = _ := d2
      subst d2
      have xX20 : World.cell? wj ⟨w.heap.size + 1, 0, none⟩ = some (.bool s2) := (X2.below hJ).cell 0
      have xX21 : World.cell? wj ⟨w.heap.size + 1, 1, none⟩ = some (.slice A2 n2 c2) := (X2.below hJ).cell 1
      have xX22 : World.cell? wj ⟨w.heap.size + 1, 2, none⟩ = some (.int .i64 E2) := (X2.below hJ).cell 2
      go_simp
      exact hK.out _ _ rfl (Below.refl _ _)
    refine Jo.jcons (i := 4) (o := ⟨some 13, _, _, _, _, _⟩) (di := some 13) (L := [(some 10, 1), (some 12, 3)]) (f := Jo.Fact.wl 20000 2 [N1, N2]) rfl rfl rfl rfl (fun vs wj hJ hd K hK => ?_) ?_
    · have d1 : (Jo.Fact.eq (.agg #[.bool s1, .slice A1 n1 c1])).P (vs 1) wj := hd 1 (by decide)
      have d3 : (Jo.Fact.eq (.agg #[.bool s2, .slice A2 n2 c2])).P (vs 3) wj := hd 3 (by decide)
      clear hd
      simp only [Jo.putl, Jo.zd, Jo.ze, Act.put, Jo.za, Jo.zb, Jo.zc] at hK ⊢
      generalize vs 1 = u1 at hK d1 ⊢
      generalize vs 3 = u3 at hK d3 ⊢
      replace d1 : u1 = _ := d1
      subst d1
      replace d3 : u3 = _ := d3
      subst d3
      go_simp
      exact hK.out _ _ ⟨_, 2, rfl, Wl.lit2 rfl (p1.wr.below hJ) (p2.wr.below hJ) (by omega) (by omega)⟩ (bel1 _ _)
    refine Jo.jcons (i := 5) (o := ⟨some 14, _, _, _, _, _⟩) (di := some 14) (L := [(some 13, 4)]) (f := Jo.Fact.wn (N1 * N2) (1 + 2 * 20000)) rfl rfl rfl rfl (fun vs wj hJ hd K hK => ?_) ?_
    · have d4 : (Jo.Fact.wl 20000 2 [N1, N2]).P (vs 4) wj := hd 4 (by decide)
      clear hd
      simp only [Jo.putl, Jo.zd, Jo.ze, Act.put, Jo.za, Jo.zb, Jo.zc] at hK ⊢
      generalize vs 4 = u4 at hK d4 ⊢
      obtain ⟨A3, c3, rfl, p3⟩ := d4
      go_simp
      refine (wMul p3 (by omega) HP.out).mono ?_
      rintro ee wk ⟨s4, A4, n4, c4, rfl, p4, k4, B⟩
      exact hK.out _ _ ⟨s4, A4, n4, c4, rfl, p4, k4⟩ B
    refine Jo.jcons (i := 6) (o := ⟨some 15, _, _, _, _, _⟩) (di := some 15) (L := []) (f := Jo.Fact.eq (.pointer (some ⟨w.heap.size, 2, none⟩))) rfl rfl rfl rfl (fun vs wj hJ hd K hK => ?_) ?_
    · clear hd
      simp only [Jo.putl, Jo.ze, Act.put, Jo.za, Jo.zb, Jo.zc] at hK ⊢
      go_simp
      exact hK.out _ _ rfl (Below.refl _ _)
    refine Jo.jcons (i := 7) (o := ⟨some 16, _, _, _, _, _⟩) (di := some 16) (L := [(some 15, 6)]) (f := Jo.Fact.eq (.int .i64 E1)) rfl rfl rfl rfl (fun vs wj hJ hd K hK => ?_) ?_
    · have d6 : (Jo.Fact.eq (.pointer (some ⟨w.heap.size, 2, none⟩))).P (vs 6) wj := hd 6 (by decide)
      clear hd
      simp only [Jo.putl, Jo.zd, Jo.ze, Act.put, Jo.za, Jo.zb, Jo.zc] at hK ⊢
      generalize vs 6 = u6 at hK d6 ⊢
      replace d6 : u6 = _ := d6
      subst d6
      have xX10 : World.cell? wj ⟨w.heap.size, 0, none⟩ = some (.bool s1) := (X1.below hJ).cell 0
      have xX11 : World.cell? wj ⟨w.heap.size, 1, none⟩ = some (.slice A1 n1 c1) := (X1.below hJ).cell 1
      have xX12 : World.cell? wj ⟨w.heap.size, 2, none⟩ = some (.int .i64 E1) := (X1.below hJ).cell 2
      go_simp
      exact hK.out _ _ rfl (Below.refl _ _)
    refine Jo.jcons (i := 8) (o := ⟨some 17, _, _, _, _, _⟩) (di := some 17) (L := []) (f := Jo.Fact.eq (.pointer (some ⟨w.heap.size + 1, 2, none⟩))) rfl rfl rfl rfl (fun vs wj hJ hd K hK => ?_) ?_
    · clear hd
      simp only [Jo.putl, Jo.ze, Act.put, Jo.za, Jo.zb, Jo.zc] at hK ⊢
      go_simp
      exact hK.out _ _ rfl (Below.refl _ _)
    refine Jo.jcons (i := 9) (o := ⟨some 18, _, _, _, _, _⟩) (di := some 18) (L := [(some 17, 8)]) (f := Jo.Fact.eq (.int .i64 E2)) rfl rfl rfl rfl (fun vs wj hJ hd K hK => ?_) ?_
    · have d8 : (Jo.Fact.eq (.pointer (some ⟨w.heap.size + 1, 2, none⟩))).P (vs 8) wj := hd 8 (by decide)
      clear hd
      simp only [Jo.putl, Jo.zd, Jo.ze, Act.put, Jo.za, Jo.zb, Jo.zc] at hK ⊢
      generalize vs 8 = u8 at hK d8 ⊢
      replace d8 : u8 = _ := d8
      subst d8
      have xX20 : World.cell? wj ⟨w.heap.size + 1, 0, none⟩ = some (.bool s2) := (X2.below hJ).cell 0
      have xX21 : World.cell? wj ⟨w.heap.size + 1, 1, none⟩ = some (.slice A2 n2 c2) := (X2.below hJ).cell 1
      have xX22 : World.cell? wj ⟨w.heap.size + 1, 2, none⟩ = some (.int .i64 E2) := (X2.below hJ).cell 2
      go_simp
      exact hK.out _ _ rfl (Below.refl _ _)
    refine Jo.jcons (i := 10) (o := ⟨some 19, _, _, _, _, _⟩) (di := some 19) (L := [(some 16, 7), (some 18, 9)]) (f := Jo.Fact.eq (.int .i64 (E1 + E2))) rfl rfl rfl rfl (fun vs wj hJ hd K hK => ?_) ?_
    · have d7 : (Jo.Fact.eq (.int .i64 E1)).P (vs 7) wj := hd 7 (by decide)
      have d9 : (Jo.Fact.eq (.int .i64 E2)).P (vs 9) wj := hd 9 (by decide)
      clear hd
      simp only [Jo.putl, Jo.zd, Jo.ze, Act.put, Jo.za, Jo.zb, Jo.zc] at hK ⊢
      generalize vs 7 = u7 at hK d7 ⊢
      generalize vs 9 = u9 at hK d9 ⊢
      replace d7 : u7 = _ := d7
      subst d7
      replace d9 : u9 = _ := d9
      subst d9
      have hw := HW.out
      go_simp
      exact hK.out _ _ rfl (Below.refl _ _)
    refine Jo.jcons (i := 11) (o := ⟨some 20, _, _, _, _, _⟩) (di := some 20) (L := [(some 14, 5), (some 19, 10)]) (f := Jo.Fact.dy N E (1 + 2 * 20000)) rfl rfl rfl rfl (fun vs wj hJ hd K hK => ?_) ?_
    · have d5 : (Jo.Fact.wn (N1 * N2) (1 + 2 * 20000)).P (vs 5) wj := hd 5 (by decide)
      have d10 : (Jo.Fact.eq (.int .i64 (E1 + E2))).P (vs 10) wj := hd 10 (by decide)
      clear hd
      simp only [Jo.putl, Jo.zd, Jo.ze, Act.put, Jo.za, Jo.zb, Jo.zc] at hK ⊢
      generalize vs 5 = u5 at hK d5 ⊢
      generalize vs 10 = u10 at hK d10 ⊢
      obtain ⟨s4, A4, n4, c4, rfl, p4, k4⟩ := d5
      replace d10 : u10 = _ := d10
      subst d10
      go_simp
      refine (dMake (hT.below hJ) p4.wr (by omega) HN.out HE.out).mono ?_
      rintro ee wk ⟨s5, A5, n5, c5, rfl, p5, k5, B⟩
      exact hK.out _ _ ⟨s5, A5, n5, c5, rfl, p5, Nat.le_trans k5 k4⟩ B
    exact Jo.Steps.nil
  have d0 : (Jo.Fact.eq (.pointer (some ⟨w.heap.size, 0, none⟩))).P (vs 0) w5 := hd 0 (by decide)
  have d1 : (Jo.Fact.eq (.agg #[.bool s1, .slice A1 n1 c1])).P (vs 1) w5 := hd 1 (by decide)
  have d2 : (Jo.Fact.eq (.pointer (some ⟨w.heap.size + 1, 0, none⟩))).P (vs 2) w5 := hd 2 (by decide)
  have d3 : (Jo.Fact.eq (.agg #[.bool s2, .slice A2 n2 c2])).P (vs 3) w5 := hd 3 (by decide)
  have d4 : (Jo.Fact.wl 20000 2 [N1, N2]).P (vs 4) w5 := hd 4 (by decide)
  have d5 : (Jo.Fact.wn (N1 * N2) (1 + 2 * 20000)).P (vs 5) w5 := hd 5 (by decide)
  have d6 : (Jo.Fact.eq (.pointer (some ⟨w.heap.size, 2, none⟩))).P (vs 6) w5 := hd 6 (by decide)
  have d7 : (Jo.Fact.eq (.int .i64 E1)).P (vs 7) w5 := hd 7 (by decide)
  have d8 : (Jo.Fact.eq (.pointer (some ⟨w.heap.size + 1, 2, none⟩))).P (vs 8) w5 := hd 8 (by decide)
  have d9 : (Jo.Fact.eq (.int .i64 E2)).P (vs 9) w5 := hd 9 (by decide)
  have d10 : (Jo.Fact.eq (.int .i64 (E1 + E2))).P (vs 10) w5 := hd 10 (by decide)
  have d11 : (Jo.Fact.dy N E (1 + 2 * 20000)).P (vs 11) w5 := hd 11 (by decide)
  clear hd
  simp only [Jo.putl, Jo.zd, Jo.ze, Act.put, Jo.za, Jo.zb, Jo.zc]
  generalize vs 0 = u0 at d0 ⊢
  generalize vs 1 = u1 at d1 ⊢
  generalize vs 2 = u2 at d2 ⊢
  generalize vs 3 = u3 at d3 ⊢
  generalize vs 4 = u4 at d4 ⊢
  generalize vs 5 = u5 at d5 ⊢
  generalize vs 6 = u6 at d6 ⊢
  generalize vs 7 = u7 at d7 ⊢
  generalize vs 8 = u8 at d8 ⊢
  generalize vs 9 = u9 at d9 ⊢
  generalize vs 10 = u10 at d10 ⊢
  generalize vs 11 = u11 at d11 ⊢
  clear vs
  replace d0 : u0 = _ := d0
  subst d0
  replace d1 : u1 = _ := d1
  subst d1
  replace d2 : u2 = _ := d2
  subst d2
  replace d3 : u3 = _ := d3
  subst d3
  obtain ⟨A3, c3, rfl, _⟩ := d4
  obtain ⟨s4, A4, n4, c4, rfl, _, _⟩ := d5
  replace d6 : u6 = _ := d6
  subst d6
  replace d7 : u7 = _ := d7
  subst d7
  replace d8 : u8 = _ := d8
  subst d8
  replace d9 : u9 = _ := d9
  subst d9
  replace d10 : u10 = _ := d10
  subst d10
  obtain ⟨s5, A5, n5, c5, rfl, p5, k5⟩ := d11
  replace X1 := X1.below hJ
  replace X2 := X2.below hJ
  replace XR := XR.below hJ
  replace hT := hT.below hJ
  replace h := h.below hJ
  replace k := k.below hJ
  replace p1 := p1.below hJ
  replace p2 := p2.below hJ
  replace HB := Lib.hid (bt HB.out hJ)
  have xXR0 := XR.at (i := 0) (v := .bool false) rfl
  have zXR0 := XR.frozen 0
  have xXR1 := XR.at (i := 1) (v := .slice none 0 0) rfl
  have zXR1 := XR.frozen 1
  have xXR2 := XR.at (i := 2) (v := .int .i64 0) rfl
  have zXR2 := XR.frozen 2
  refine Jo.jnext (i := 12) (o := ⟨none, _, _, _, _, _⟩) (by kernel_rfl) rfl (fun K hK => ?_)
  go_simp
  refine hK.out _ _ ?_
  clear hK K xXR0 zXR0 xXR1 zXR1 xXR2 zXR2
  have SX := StN.mk3 XR (.bool s5) (.slice A5 n5 c5) (.int .i64 E)
  replace X1 := X1.stn SX (by omega)
  replace X2 := X2.stn SX (by omega)
  replace p5 := p5.stn SX (by simp [no32])
  replace HB := Lib.hid (SX.below HB.out (by omega))
  replace XR := SX.box
  clear SX
  generalize (World.setCell (World.setCell (World.setCell w5 ⟨w.heap.size + 1 + 1, 0, none⟩ (.bool s5)) ⟨w.heap.size + 1 + 1, 1, none⟩ (.slice A5 n5 c5)) ⟨w.heap.size + 1 + 1, 2, none⟩ (.int .i64 E)) = w6 at *
  refine Jo.jdone (by kernel_rfl) ?_
  go_wp2
  have r0 := XR.cell 0
  have r1 := XR.cell 1
  have r2 := XR.cell 2
  exact bodyPost_ret (v := .agg #[.bool s5, .slice A5 n5 c5, .int .i64 E]) (by simp [results, Tryd.results13, go_sem, r0, r1, r2]) rfl ⟨s5, A5, n5, c5, rfl, p5, k5, HB.out⟩
end Go.Proofs.YtpmakljahhhnfaaDoor
