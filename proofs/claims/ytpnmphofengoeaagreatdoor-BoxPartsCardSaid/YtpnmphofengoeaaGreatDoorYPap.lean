/-
  Contracts and words that the statement's proof rests on: Kf, Kg, Jt, Kh, Ki, Kj.
-/
import Derived.Test.YtpnmphofengoeaaGreatDoorYPao
namespace Go.Proofs.YtpnmphofengoeaaGreatDoor
set_option maxHeartbeats 2000000
open Go.RowKit
set_option linter.unusedVariables false
set_option linter.unusedSimpArgs false
set_option maxRecDepth 100000

theorem len64_111 (z : Int) (q : Nat) (w : World) (h0 : 0 ≤ z) (hz : z ≤ 18446744073709551615) (h1 : 4294967296 ≤ z) (h2 : 65536 ≤ z / 4294967296) (h3 : 256 ≤ z / 4294967296 / 65536) (hq : q ≤ 8)
    (hi : ∀ W, (Instr.index 9 (.string Lib.len8tab) (.int .u8 (z / 4294967296 / 65536 / 256))).run Tryz.prog W = .ok (.int .u8 (q : Int)) W) :
    Calls Tryz.prog 73 #[.int .u64 z] w fun e w' => e = .returned (.int .i64 (56 + q : Int)) ∧ w = w' := by
  go_enter Tryz.func73, Tryz.ntmps73
  go_wp2
  go_ret
  exact ⟨rfl, rfl⟩
theorem len64_110 (z : Int) (q : Nat) (w : World) (h0 : 0 ≤ z) (hz : z ≤ 18446744073709551615) (h1 : 4294967296 ≤ z) (h2 : 65536 ≤ z / 4294967296) (h3 : z / 4294967296 / 65536 < 256) (hq : q ≤ 8)
    (hi : ∀ W, (Instr.index 9 (.string Lib.len8tab) (.int .u8 (z / 4294967296 / 65536))).run Tryz.prog W = .ok (.int .u8 (q : Int)) W) :
    Calls Tryz.prog 73 #[.int .u64 z] w fun e w' => e = .returned (.int .i64 (48 + q : Int)) ∧ w = w' := by
  go_enter Tryz.func73, Tryz.ntmps73
  go_wp2
  go_ret
  exact ⟨rfl, rfl⟩
theorem len64_101 (z : Int) (q : Nat) (w : World) (h0 : 0 ≤ z) (hz : z ≤ 18446744073709551615) (h1 : 4294967296 ≤ z) (h2 : z / 4294967296 < 65536) (h3 : 256 ≤ z / 4294967296) (hq : q ≤ 8)
    (hi : ∀ W, (Instr.index 9 (.string Lib.len8tab) (.int .u8 (z / 4294967296 / 256))).run Tryz.prog W = .ok (.int .u8 (q : Int)) W) :
    Calls Tryz.prog 73 #[.int .u64 z] w fun e w' => e = .returned (.int .i64 (40 + q : Int)) ∧ w = w' := by
  go_enter Tryz.func73, Tryz.ntmps73
  go_wp2
  go_ret
  exact ⟨rfl, rfl⟩
theorem len64_100 (z : Int) (q : Nat) (w : World) (h0 : 0 ≤ z) (hz : z ≤ 18446744073709551615) (h1 : 4294967296 ≤ z) (h2 : z / 4294967296 < 65536) (h3 : z / 4294967296 < 256) (hq : q ≤ 8)
    (hi : ∀ W, (Instr.index 9 (.string Lib.len8tab) (.int .u8 (z / 4294967296))).run Tryz.prog W = .ok (.int .u8 (q : Int)) W) :
    Calls Tryz.prog 73 #[.int .u64 z] w fun e w' => e = .returned (.int .i64 (32 + q : Int)) ∧ w = w' := by
  go_enter Tryz.func73, Tryz.ntmps73
  go_wp2
  go_ret
  exact ⟨rfl, rfl⟩
theorem len64_011 (z : Int) (q : Nat) (w : World) (h0 : 0 ≤ z) (hz : z ≤ 18446744073709551615) (h1 : z < 4294967296) (h2 : 65536 ≤ z) (h3 : 256 ≤ z / 65536) (hq : q ≤ 8)
    (hi : ∀ W, (Instr.index 9 (.string Lib.len8tab) (.int .u8 (z / 65536 / 256))).run Tryz.prog W = .ok (.int .u8 (q : Int)) W) :
    Calls Tryz.prog 73 #[.int .u64 z] w fun e w' => e = .returned (.int .i64 (24 + q : Int)) ∧ w = w' := by
  go_enter Tryz.func73, Tryz.ntmps73
  go_wp2
  go_ret
  exact ⟨rfl, rfl⟩
theorem len64_010 (z : Int) (q : Nat) (w : World) (h0 : 0 ≤ z) (hz : z ≤ 18446744073709551615) (h1 : z < 4294967296) (h2 : 65536 ≤ z) (h3 : z / 65536 < 256) (hq : q ≤ 8)
    (hi : ∀ W, (Instr.index 9 (.string Lib.len8tab) (.int .u8 (z / 65536))).run Tryz.prog W = .ok (.int .u8 (q : Int)) W) :
    Calls Tryz.prog 73 #[.int .u64 z] w fun e w' => e = .returned (.int .i64 (16 + q : Int)) ∧ w = w' := by
  go_enter Tryz.func73, Tryz.ntmps73
  go_wp2
  go_ret
  exact ⟨rfl, rfl⟩
theorem len64_001 (z : Int) (q : Nat) (w : World) (h0 : 0 ≤ z) (hz : z ≤ 18446744073709551615) (h1 : z < 4294967296) (h2 : z < 65536) (h3 : 256 ≤ z) (hq : q ≤ 8)
    (hi : ∀ W, (Instr.index 9 (.string Lib.len8tab) (.int .u8 (z / 256))).run Tryz.prog W = .ok (.int .u8 (q : Int)) W) :
    Calls Tryz.prog 73 #[.int .u64 z] w fun e w' => e = .returned (.int .i64 (8 + q : Int)) ∧ w = w' := by
  go_enter Tryz.func73, Tryz.ntmps73
  go_wp2
  go_ret
  exact ⟨rfl, rfl⟩
theorem len64_000 (z : Int) (q : Nat) (w : World) (h0 : 0 ≤ z) (hz : z ≤ 18446744073709551615) (h1 : z < 4294967296) (h2 : z < 65536) (h3 : z < 256) (hq : q ≤ 8)
    (hi : ∀ W, (Instr.index 9 (.string Lib.len8tab) (.int .u8 (z))).run Tryz.prog W = .ok (.int .u8 (q : Int)) W) :
    Calls Tryz.prog 73 #[.int .u64 z] w fun e w' => e = .returned (.int .i64 (0 + q : Int)) ∧ w = w' := by
  go_enter Tryz.func73, Tryz.ntmps73
  go_wp2
  go_ret
  exact ⟨ret_int (by omega), rfl⟩
theorem len64_any (x : Nat) (hx : x < 18446744073709551616) (w : World) :
    Calls Tryz.prog 73 #[.int .u64 (x : Int)] w fun e w' => e = .returned (.int .i64 (blen x : Int)) ∧ w = w' := by
  by_cases h0 : 4294967296 ≤ x
  · have s0 := blen_shift (x) 32 (by omega)
    rw [show 2 ^ 32 = 4294967296 by decide] at s0
    by_cases h1 : 65536 ≤ x / 4294967296
    · have s1 := blen_shift (x / 4294967296) 16 (by omega)
      rw [show 2 ^ 16 = 65536 by decide] at s1
      by_cases h2 : 256 ≤ x / 4294967296 / 65536
      · have s2 := blen_shift (x / 4294967296 / 65536) 8 (by omega)
        rw [show 2 ^ 8 = 256 by decide] at s2
        have := len64_111 (x : Int) (blen (x / 4294967296 / 65536 / 256)) w (by omega) (by omega) (by omega) (by omega) (by omega) (blen_mono_le (by omega)) (fun W => index_len8 W (x / 4294967296 / 65536 / 256) (by omega))
        exact this.mono fun e w' h => ⟨h.1.trans (ret_int (by omega)), h.2⟩
      · have := len64_110 (x : Int) (blen (x / 4294967296 / 65536)) w (by omega) (by omega) (by omega) (by omega) (by omega) (blen_mono_le (by omega)) (fun W => index_len8 W (x / 4294967296 / 65536) (by omega))
        exact this.mono fun e w' h => ⟨h.1.trans (ret_int (by omega)), h.2⟩
    · by_cases h2 : 256 ≤ x / 4294967296
      · have s2 := blen_shift (x / 4294967296) 8 (by omega)
        rw [show 2 ^ 8 = 256 by decide] at s2
        have := len64_101 (x : Int) (blen (x / 4294967296 / 256)) w (by omega) (by omega) (by omega) (by omega) (by omega) (blen_mono_le (by omega)) (fun W => index_len8 W (x / 4294967296 / 256) (by omega))
        exact this.mono fun e w' h => ⟨h.1.trans (ret_int (by omega)), h.2⟩
      · have := len64_100 (x : Int) (blen (x / 4294967296)) w (by omega) (by omega) (by omega) (by omega) (by omega) (blen_mono_le (by omega)) (fun W => index_len8 W (x / 4294967296) (by omega))
        exact this.mono fun e w' h => ⟨h.1.trans (ret_int (by omega)), h.2⟩
  · by_cases h1 : 65536 ≤ x
    · have s1 := blen_shift (x) 16 (by omega)
      rw [show 2 ^ 16 = 65536 by decide] at s1
      by_cases h2 : 256 ≤ x / 65536
      · have s2 := blen_shift (x / 65536) 8 (by omega)
        rw [show 2 ^ 8 = 256 by decide] at s2
        have := len64_011 (x : Int) (blen (x / 65536 / 256)) w (by omega) (by omega) (by omega) (by omega) (by omega) (blen_mono_le (by omega)) (fun W => index_len8 W (x / 65536 / 256) (by omega))
        exact this.mono fun e w' h => ⟨h.1.trans (ret_int (by omega)), h.2⟩
      · have := len64_010 (x : Int) (blen (x / 65536)) w (by omega) (by omega) (by omega) (by omega) (by omega) (blen_mono_le (by omega)) (fun W => index_len8 W (x / 65536) (by omega))
        exact this.mono fun e w' h => ⟨h.1.trans (ret_int (by omega)), h.2⟩
    · by_cases h2 : 256 ≤ x
      · have s2 := blen_shift (x) 8 (by omega)
        rw [show 2 ^ 8 = 256 by decide] at s2
        have := len64_001 (x : Int) (blen (x / 256)) w (by omega) (by omega) (by omega) (by omega) (by omega) (blen_mono_le (by omega)) (fun W => index_len8 W (x / 256) (by omega))
        exact this.mono fun e w' h => ⟨h.1.trans (ret_int (by omega)), h.2⟩
      · have := len64_000 (x : Int) (blen (x)) w (by omega) (by omega) (by omega) (by omega) (by omega) (blen_mono_le (by omega)) (fun W => index_len8 W (x) (by omega))
        exact this.mono fun e w' h => ⟨h.1.trans (ret_int (by omega)), h.2⟩

theorem lead64_any {x : Nat} {z a : Int} (w : World) (hx : x < 18446744073709551616) (hz : (x : Int) = z) (ha : 64 - (blen x : Int) = a) :
    Calls Tryz.prog 50 #[.int .u64 z] w (PI w a) := by
  have hb := blen_mono_le (n := x) (k := 64) hx; subst hz; subst ha
  go_enter Tryz.func50, Tryz.ntmps50
  go_wp2_with (go_at_call 73; refine (len64_any x hx _).mono ?_; rintro e w' ⟨rfl, rfl⟩)
  go_ret
  exact ⟨rfl, Below.refl _ _⟩
theorem of_fq {n : Int} (h0 : n ≠ 0) (h1 : -9223372036854775808 ≤ n) (h2 : n ≤ 9223372036854775807) : Fq 1 (decide (n < 0)) ((tp n.natAbs : Nat) : Int) (-(64 - (blen n.natAbs : Int))) (sgi (decide (n < 0)) (lo n.natAbs 0)) := by
  have hm : n.natAbs ≠ 0 := by omega
  have a1 := tp_ge hm; have a2 := tp_lt n.natAbs; have a3 := blen_mono_le (n := n.natAbs) (k := 64) (by omega); refine Fq.fin (by omega) (by omega) (by omega) (by omega) ?_
  congr 1
  unfold lo xp
  rw [if_neg hm, if_neg (by omega), if_neg (by omega)]
  omega
theorem of_shl {n : Int} (h0 : n ≠ 0) (h1 : -9223372036854775808 ≤ n) (h2 : n ≤ 9223372036854775807) : (n.natAbs : Int) * 2 ^ (64 - (blen n.natAbs : Int)).toNat = ((tp n.natAbs : Nat) : Int) := by
  have a3 := blen_mono_le (n := n.natAbs) (k := 64) (by omega)
  rw [tp_small a3, show (64 - (blen n.natAbs : Int)).toNat = 64 - blen n.natAbs by omega]
  push_cast
  rfl
theorem nOf {n r : Int} (w : World) (h1 : -9223372036854775808 ≤ n) (h2 : n ≤ 9223372036854775807) (hr : sgi (decide (n < 0)) (lo n.natAbs 0) = r) : Calls Tryz.prog 27 #[.int .i64 n] w (PN w r) := by
  by_cases h0 : n = 0
  · subst h0
    obtain rfl : 0 = r := hr
    go_enter Tryz.func27, Tryz.ntmps27
    go_upto_region 1 with (fail)
    generalize hW1 : w.alloc _ = w1 at *; obtain ⟨XR, HB⟩ := Bo.en1 hW1; clear hW1; have xXR := XR.cell; have zXR0 := XR.frozen; go_wp2; clear xXR zXR0; have SX := StN.mk4 XR (.int .i64 0) (.bool false) (.int .u64 0) (.int .i64 0); exact bodyPost_ret (by simp [results, Tryz.results27, go_sem, SX.box.cell]) rfl ⟨_, _, _, _, rfl, Fq.nought, (SX.below HB.out (by omega))⟩
  · have HQ := of_fq h0 h1 h2; have hs := of_shl h0 h1 h2
    have e0 : (n == 0) = false := by simpa using h0
    have hx : n.natAbs < 18446744073709551616 := by omega
    have hb := blen_mono_le (n := n.natAbs) (k := 64) (by omega); have t1 := tp_lt n.natAbs; rw [hr] at HQ; clear hr
    by_cases hs0 : n < 0
    · obtain ⟨a, ha⟩ : ∃ a, 64 - (blen n.natAbs : Int) = a := ⟨_, rfl⟩
      have hn : ((n.natAbs : Nat) : Int) = -n := by omega
      rw [ha] at HQ hs; rw [hn] at hs
      have hd : decide (n < 0) = true := by simp; omega
      rw [hd] at HQ; have HA := Lib.hid ha; have HN := Lib.hid hn; obtain ⟨T, hT⟩ : ∃ T, ((tp n.natAbs : Nat) : Int) = T := ⟨_, rfl⟩; rw [hT] at HQ hs
      have hT2 : 0 ≤ T ∧ T < 18446744073709551616 := by omega
      have HS := Lib.hid hs
      have HW := Lib.hid (show IntKind.u64.wrap T = T from IntWalk.u64_in _ (by omega))
      have a1 : 0 ≤ a := by omega
      have hb0 : blen n.natAbs ≠ 0 := fun e => h0 (by have := blen_eq_zero.1 e; omega)
      have a2 : a < 64 := by omega
      clear hb0; clear hs ha hb t1 hT hn hT2
      go_enter Tryz.func27, Tryz.ntmps27
      go_upto_region 1 with (fail)
      generalize hW1 : w.alloc _ = w1 at *; obtain ⟨XR, HB⟩ := Bo.en1 hW1; clear hW1
      have hx1 : n.natAbs < 18446744073709551616 := hx
      have hc : IntKind.u64.wrap (-IntKind.u64.wrap n) = -n := by
        show (-(n % 18446744073709551616)) % 18446744073709551616 = -n
        omega
      go_wp2_with fail
      refine (lead64_any _ hx HN.out HA.out).mono ?_; rintro ee w2 ⟨rfl, B⟩; replace XR := XR.below B; replace HB := Hqb HB B; clear B; have hs := HS.out; have hw := HW.out; have xXR := XR.cell; have zXR0 := XR.frozen; go_wp2; clear xXR zXR0; have SX := StN.mk4 XR (.int .i64 1) (.bool true) (.int .u64 T) (.int .i64 (-a)); exact bodyPost_ret (by simp [results, Tryz.results27, go_sem, SX.box.cell]) rfl ⟨_, _, _, _, rfl, HQ, (SX.below HB.out (by omega))⟩
    · obtain ⟨a, ha⟩ : ∃ a, 64 - (blen n.natAbs : Int) = a := ⟨_, rfl⟩
      have hn : ((n.natAbs : Nat) : Int) = n := by omega
      rw [ha] at HQ hs; rw [hn] at hs
      have hd : decide (n < 0) = false := by simp; omega
      rw [hd] at HQ; have HA := Lib.hid ha; have HN := Lib.hid hn; obtain ⟨T, hT⟩ : ∃ T, ((tp n.natAbs : Nat) : Int) = T := ⟨_, rfl⟩; rw [hT] at HQ hs
      have hT2 : 0 ≤ T ∧ T < 18446744073709551616 := by omega
      have HS := Lib.hid hs
      have HW := Lib.hid (show IntKind.u64.wrap T = T from IntWalk.u64_in _ (by omega))
      have a1 : 0 ≤ a := by omega
      have hb0 : blen n.natAbs ≠ 0 := fun e => h0 (by have := blen_eq_zero.1 e; omega)
      have a2 : a < 64 := by omega
      clear hb0; clear hs ha hb t1 hT hn hT2
      go_enter Tryz.func27, Tryz.ntmps27
      go_upto_region 1 with (fail)
      generalize hW1 : w.alloc _ = w1 at *; obtain ⟨XR, HB⟩ := Bo.en1 hW1; clear hW1
      have hx1 : n.natAbs < 18446744073709551616 := hx
      go_wp2_with fail
      refine (lead64_any _ hx HN.out HA.out).mono ?_; rintro ee w2 ⟨rfl, B⟩; replace XR := XR.below B; replace HB := Hqb HB B; clear B; have hs := HS.out; have hw := HW.out; have xXR := XR.cell; have zXR0 := XR.frozen; go_wp2; clear xXR zXR0; have SX := StN.mk4 XR (.int .i64 1) (.bool false) (.int .u64 T) (.int .i64 (-a)); exact bodyPost_ret (by simp [results, Tryz.results27, go_sem, SX.box.cell]) rfl ⟨_, _, _, _, rfl, HQ, (SX.below HB.out (by omega))⟩
end Go.Proofs.YtpnmphofengoeaaGreatDoor

namespace Go.Proofs.YtpnmphofengoeaaGreatDoor
set_option maxHeartbeats 4000000
open Go.RowKit
set_option linter.unusedVariables false
set_option linter.unusedSimpArgs false
set_option maxRecDepth 100000

def Nl (w : World) (A : Option Addr) (n c : Nat) (l : List Int) : Prop :=
  l.length = n ∧ n ≤ c ∧ n ≤ 1099511627776 ∧ (0 < n → ∃ b o, A = some ⟨b, o, none⟩ ∧ ∀ k, k < n → ∃ D s M E, w.cell? ⟨b, o + k * 4, none⟩ = some (.int .i64 D) ∧ w.cell? ⟨b, o + k * 4 + 1, none⟩ = some (.bool s) ∧ w.cell? ⟨b, o + k * 4 + 2, none⟩ = some (.int .u64 M) ∧ w.cell? ⟨b, o + k * 4 + 3, none⟩ = some (.int .i64 E) ∧ M < 18446744073709551616 ∧ rk D s M E = l.getD k 0)
theorem Nl.below {w w' : World} {A : Option Addr} {n c : Nat} {l : List Int} (h : Nl w A n c l) (hb : Below w.heap.size w w') : Nl w' A n c l := by
  obtain ⟨h1, h2, h3, h4⟩ := h
  refine ⟨h1, h2, h3, fun hn => ?_⟩
  obtain ⟨b, o, e, hc⟩ := h4 hn
  refine ⟨b, o, e, fun k hk => ?_⟩
  obtain ⟨D, s, M, E, c0, c1, c2, c3, hM, hr⟩ := hc k hk; exact ⟨D, s, M, E, (hb.cell (p := ⟨b, _, none⟩) (block_lt_of_cell c0)).trans c0, (hb.cell (p := ⟨b, _, none⟩) (block_lt_of_cell c1)).trans c1, (hb.cell (p := ⟨b, _, none⟩) (block_lt_of_cell c2)).trans c2, (hb.cell (p := ⟨b, _, none⟩) (block_lt_of_cell c3)).trans c3, hM, hr⟩
def Jo.Fact.nl (n : Nat) (l : List Int) : Jo.Fact := ⟨fun v w => ∃ A c, v = .slice A n c ∧ Nl w A n c l, fun v w w' h b => by
  obtain ⟨A, c, e, h⟩ := h; exact ⟨A, c, e, h.below b⟩⟩
def Jo.Fact.num (r : Int) : Jo.Fact := ⟨fun v w => ∃ K s M E, v = .agg #[.int .i64 K, .bool s, .int .u64 M, .int .i64 E] ∧ Fq K s M E r, fun v w w' h b => h⟩
def mnp (l : List Int) : Int := l.foldl min TP
def mxp (l : List Int) : Int := l.foldl max (-TP)
theorem mnp_take {l : List Int} {k : Nat} (h : k < l.length) : mnp (l.take (k + 1)) = min (mnp (l.take k)) (l.getD k 0) := by
  unfold mnp
  rw [List.take_succ_eq_append_getElem h, List.foldl_append]
  simp [List.getD_eq_getElem?_getD, h]
theorem mxp_take {l : List Int} {k : Nat} (h : k < l.length) : mxp (l.take (k + 1)) = max (mxp (l.take k)) (l.getD k 0) := by
  unfold mxp
  rw [List.take_succ_eq_append_getElem h, List.foldl_append]
  simp [List.getD_eq_getElem?_getD, h]
def NInv (w : World) (g3 : Nat) (r : Int) (wr : World) : Prop :=
  ∃ K s M E, Bo wr w.heap.size #[.int .i64 0, .bool false, .int .u64 0, .int .i64 0] 32 ∧ Bo wr g3 #[.int .i64 K, .bool s, .int .u64 M, .int .i64 E] 32 ∧ Fq K s M E r ∧ Below w.heap.size w wr
theorem nLeast {w : World} {A : Option Addr} {n c : Nat} {l : List Int} {r : Int} (h : Nl w A n c l) (hr : mnp l = r) : Calls Tryz.prog 54 #[.slice A n c] w (PN w r) := by
  have HR := Lib.hid hr; have HLn := Lib.hid h.1; have hcap := h.2.1; have hbig := h.2.2.1; have hD0 := h; clear hr
  go_enter Tryz.func54, Tryz.ntmps54
  go_upto_region 1 with (fail)
  generalize hW1 : w.alloc _ = w1 at *; obtain ⟨XR, HB⟩ := Bo.en1 hW1; replace h := h.below HB.out; clear hW1
  go_wp2_with fail
  refine (nInf (s := false) rfl).mono ?_; rintro ee w2 ⟨K1, s1, M1, E1, rfl, q1, B⟩; replace XR := XR.below B; replace h := h.below B; replace HB := Hqb HB B; clear B
  go_upto_region 2 with (fail)
  have hg3 := XR.lt; have lX3 := Nat.le_refl (World.heap w2).size; have nX3XR := XR.lt; generalize hWn : w2.alloc _ = w3 at *; obtain ⟨X3, BW⟩ := Bo.nw hWn; clear hWn; replace XR := XR.below BW; replace h := h.below BW; replace HB := Hqb HB BW; clear BW
  go_wp2_with fail
  generalize w2.heap.size = g3 at *; clear h w1
  go_loopw [9] (fun i wr => ∃ k : Nat, k ≤ n ∧ i = .int .i64 k ∧ NInv w g3 (mnp (l.take k)) wr) (fun i _ => n - (intOf i).toNat)
  case atStart => exact ⟨0, Nat.zero_le _, rfl, _, _, _, _, XR, X3, q1, HB.out⟩
  case round =>
    obtain ⟨k, hk, rfl, hI⟩ := hrel; obtain ⟨K1, s1, M1, E1, XR, X3, q1, hB⟩ := hI; have HB := Lib.hid hB; have h := hD0.below hB; clear hB
    by_cases hlt : k < n
    · obtain ⟨b, o, rfl, hcell⟩ := h.2.2.2 (by omega); obtain ⟨D, s, M, E, c0, c1, c2, c3, hM, hx⟩ := hcell k hlt; clear hcell h hD0; have ht := mnp_take (l := l) (k := k) (by rw [HLn.out]; exact hlt); rw [← hx] at ht; generalize mnp (l.take k) = R at *; obtain ⟨x, hX⟩ : ∃ x, rk D s M E = x := ⟨_, rfl⟩; rw [hX] at ht; have HX := Lib.hid hX; have HT := Lib.hid ht; obtain ⟨z, hz⟩ : ∃ z, cmpI x R = z := ⟨_, rfl⟩
      have HZ := Lib.hid (show cmpI (rk D s M E) (rk K1 s1 M1 E1) = z by rw [hX, q1.rk]; exact hz)
      clear ht hX hx
      have i1 : (k : Int) < n := by omega
      have i2 : (0 : Int) ≤ k := by omega
      go_upto_region 5 with (fail)
      have hgd := X3.lt; have lX5 := Nat.le_refl (World.heap wr).size; have nX5XR := XR.lt; have nX5X3 := X3.lt; generalize hWn : wr.alloc _ = w3 at *; obtain ⟨X5, BW⟩ := Bo.nw hWn; clear hWn; replace XR := XR.below BW; replace X3 := X3.below BW; replace HB := Hqb HB BW; clear BW; clear c0 c1 c2 c3 lX5; have xX3 := X3.cell; have xX5 := X5.cell
      go_wp2_with fail
      refine (nCmp hM q1.top HZ.out).mono ?_; rintro ee w4 ⟨rfl, B⟩; clear xX3 xX5; replace XR := XR.below B; replace X3 := X3.below B; replace X5 := X5.below B; replace HB := Hqb HB B; clear B
      by_cases hb : x < R
      · obtain rfl : -1 = z := by rw [← hz, cmpI_lt hb]
        have hT2 := HT.out
        rw [show min R x = x by omega] at hT2
        have xX5 := X5.cell
        go_wp2_with fail
        refine (nTaken hM HX.out).mono ?_; rintro ee w5 ⟨K2, s2, M2, E2, rfl, q2, B⟩; clear xX5; replace XR := XR.below B; replace X3 := X3.below B; replace X5 := X5.below B; replace HB := Hqb HB B; clear B; have xX3 := X3.cell; have zX30 := X3.frozen
        go_upto_region 7 with (fail)
        clear xX3 zX30; generalize hS : (((w5.setCell _ _).setCell _ _).setCell _ _).setCell _ _ = w6 at *; have SX := StN.of4 X3 hS; replace XR := XR.stn SX (by omega); replace X5 := X5.stn SX (by omega); replace HB := Hqs HB SX (by omega); replace X3 := SX.box; clear SX hS; go_wp2
        go_roundw
        case rel =>
          refine ⟨k + 1, by omega, by go_num, K2, s2, M2, E2, XR, X3, ?_, HB.out⟩
          rw [hT2]; exact q2
        case measure => simp [intOf]; omega
      · have hT2 := HT.out
        rw [show min R x = R by omega] at hT2
        have hz0 : ¬ z < 0 := by
          rw [← hz]
          rcases cmpI_tri x R with ⟨a1, a2⟩ | ⟨a1, a2⟩ | ⟨a1, a2⟩ <;> rw [a2] <;> omega
        have e0 : decide (z < 0) = false := decide_eq_false hz0
        go_wp2
        go_roundw
        case rel =>
          refine ⟨k + 1, by omega, by go_num, K1, s1, M1, E1, XR, X3, ?_, HB.out⟩
          rw [hT2]; exact q1
        case measure => simp [intOf]; omega
    · obtain rfl : k = n := by omega
      rw [List.take_of_length_le (by rw [HLn.out]; omega), HR.out] at q1; have xXR := XR.cell; have zXR0 := XR.frozen; have xX3 := X3.cell; go_wp2; clear xXR zXR0 xX3; have SX := StN.mk4 XR (.int .i64 K1) (.bool s1) (.int .u64 M1) (.int .i64 E1); exact bodyPost_ret (by simp [results, Tryz.results54, go_sem, SX.box.cell]) rfl ⟨_, _, _, _, rfl, q1, (SX.below HB.out (by omega))⟩
theorem nMost {w : World} {A : Option Addr} {n c : Nat} {l : List Int} {r : Int} (h : Nl w A n c l) (hr : mxp l = r) : Calls Tryz.prog 53 #[.slice A n c] w (PN w r) := by
  have HR := Lib.hid hr; have HLn := Lib.hid h.1; have hcap := h.2.1; have hbig := h.2.2.1; have hD0 := h; clear hr
  go_enter Tryz.func53, Tryz.ntmps53
  go_upto_region 1 with (fail)
  generalize hW1 : w.alloc _ = w1 at *; obtain ⟨XR, HB⟩ := Bo.en1 hW1; replace h := h.below HB.out; clear hW1
  go_wp2_with fail
  refine (nInf (s := true) rfl).mono ?_; rintro ee w2 ⟨K1, s1, M1, E1, rfl, q1, B⟩; replace XR := XR.below B; replace h := h.below B; replace HB := Hqb HB B; clear B
  go_upto_region 2 with (fail)
  have hg3 := XR.lt; have lX3 := Nat.le_refl (World.heap w2).size; have nX3XR := XR.lt; generalize hWn : w2.alloc _ = w3 at *; obtain ⟨X3, BW⟩ := Bo.nw hWn; clear hWn; replace XR := XR.below BW; replace h := h.below BW; replace HB := Hqb HB BW; clear BW
  go_wp2_with fail
  generalize w2.heap.size = g3 at *; clear h w1
  go_loopw [9] (fun i wr => ∃ k : Nat, k ≤ n ∧ i = .int .i64 k ∧ NInv w g3 (mxp (l.take k)) wr) (fun i _ => n - (intOf i).toNat)
  case atStart => exact ⟨0, Nat.zero_le _, rfl, _, _, _, _, XR, X3, q1, HB.out⟩
  case round =>
    obtain ⟨k, hk, rfl, hI⟩ := hrel; obtain ⟨K1, s1, M1, E1, XR, X3, q1, hB⟩ := hI; have HB := Lib.hid hB; have h := hD0.below hB; clear hB
    by_cases hlt : k < n
    · obtain ⟨b, o, rfl, hcell⟩ := h.2.2.2 (by omega); obtain ⟨D, s, M, E, c0, c1, c2, c3, hM, hx⟩ := hcell k hlt; clear hcell h hD0; have ht := mxp_take (l := l) (k := k) (by rw [HLn.out]; exact hlt); rw [← hx] at ht; generalize mxp (l.take k) = R at *; obtain ⟨x, hX⟩ : ∃ x, rk D s M E = x := ⟨_, rfl⟩; rw [hX] at ht; have HX := Lib.hid hX; have HT := Lib.hid ht; obtain ⟨z, hz⟩ : ∃ z, cmpI x R = z := ⟨_, rfl⟩
      have HZ := Lib.hid (show cmpI (rk D s M E) (rk K1 s1 M1 E1) = z by rw [hX, q1.rk]; exact hz)
      clear ht hX hx
      have i1 : (k : Int) < n := by omega
      have i2 : (0 : Int) ≤ k := by omega
      go_upto_region 5 with (fail)
      have hgd := X3.lt; have lX5 := Nat.le_refl (World.heap wr).size; have nX5XR := XR.lt; have nX5X3 := X3.lt; generalize hWn : wr.alloc _ = w3 at *; obtain ⟨X5, BW⟩ := Bo.nw hWn; clear hWn; replace XR := XR.below BW; replace X3 := X3.below BW; replace HB := Hqb HB BW; clear BW; clear c0 c1 c2 c3 lX5; have xX3 := X3.cell; have xX5 := X5.cell
      go_wp2_with fail
      refine (nCmp hM q1.top HZ.out).mono ?_; rintro ee w4 ⟨rfl, B⟩; clear xX3 xX5; replace XR := XR.below B; replace X3 := X3.below B; replace X5 := X5.below B; replace HB := Hqb HB B; clear B
      by_cases hb : R < x
      · obtain rfl : 1 = z := by rw [← hz, cmpI_gt hb]
        have hT2 := HT.out
        rw [show max R x = x by omega] at hT2
        have xX5 := X5.cell
        go_wp2_with fail
        refine (nTaken hM HX.out).mono ?_; rintro ee w5 ⟨K2, s2, M2, E2, rfl, q2, B⟩; clear xX5; replace XR := XR.below B; replace X3 := X3.below B; replace X5 := X5.below B; replace HB := Hqb HB B; clear B; have xX3 := X3.cell; have zX30 := X3.frozen
        go_upto_region 7 with (fail)
        clear xX3 zX30; generalize hS : (((w5.setCell _ _).setCell _ _).setCell _ _).setCell _ _ = w6 at *; have SX := StN.of4 X3 hS; replace XR := XR.stn SX (by omega); replace X5 := X5.stn SX (by omega); replace HB := Hqs HB SX (by omega); replace X3 := SX.box; clear SX hS; go_wp2
        go_roundw
        case rel =>
          refine ⟨k + 1, by omega, by go_num, K2, s2, M2, E2, XR, X3, ?_, HB.out⟩
          rw [hT2]; exact q2
        case measure => simp [intOf]; omega
      · have hT2 := HT.out
        rw [show max R x = R by omega] at hT2
        have hz0 : ¬ 0 < z := by
          rw [← hz]
          rcases cmpI_tri x R with ⟨a1, a2⟩ | ⟨a1, a2⟩ | ⟨a1, a2⟩ <;> rw [a2] <;> omega
        have e0 : decide (0 < z) = false := decide_eq_false hz0
        go_wp2
        go_roundw
        case rel =>
          refine ⟨k + 1, by omega, by go_num, K1, s1, M1, E1, XR, X3, ?_, HB.out⟩
          rw [hT2]; exact q1
        case measure => simp [intOf]; omega
    · obtain rfl : k = n := by omega
      rw [List.take_of_length_le (by rw [HLn.out]; omega), HR.out] at q1; have xXR := XR.cell; have zXR0 := XR.frozen; have xX3 := X3.cell; go_wp2; clear xXR zXR0 xX3; have SX := StN.mk4 XR (.int .i64 K1) (.bool s1) (.int .u64 M1) (.int .i64 E1); exact bodyPost_ret (by simp [results, Tryz.results53, go_sem, SX.box.cell]) rfl ⟨_, _, _, _, rfl, q1, (SX.below HB.out (by omega))⟩
end Go.Proofs.YtpnmphofengoeaaGreatDoor

/-
  The joint rule for a region with a store that may come before or behind other operations: the stored box is as it was or as it is to be, all other blocks are as they were. No Go text.
-/
namespace Go.Proofs.YtpnmphofengoeaaGreatDoor.Jo
open Go Go.RowKit
set_option linter.unusedVariables false

/-- All blocks but g are as they were; g is as it was, or just the cells new. -/
structure Off (g : Nat) (new : Array Value) (R : TypeId) (w w' : World) : Prop where
  os : w'.os = w.os
  tape : w'.tape = w.tape
  output : w'.output = w.output
  size : w.heap.size ≤ w'.heap.size
  block : ∀ k, k < w.heap.size → k ≠ g → w'.heap[k]? = w.heap[k]?
  own : w'.heap[g]? = w.heap[g]? ∨ w'.heap[g]? = some (.cells new R (0, 0))

section
variable {g : Nat} {new : Array Value} {R : TypeId} {w w' w'' : World}
theorem Off.refl (g : Nat) (new : Array Value) (R : TypeId) (w : World) : Off g new R w w := ⟨rfl, rfl, rfl, Nat.le_refl _, fun _ _ _ => rfl, .inl rfl⟩
theorem Off.drew (w : World) : Off g new R w w.drew := ⟨rfl, rfl, rfl, Nat.le_refl _, fun _ _ _ => rfl, .inl rfl⟩
theorem Off.trans (h : Off g new R w w') (k : Off g new R w' w'') : Off g new R w w'' :=
  ⟨k.os.trans h.os, k.tape.trans h.tape, k.output.trans h.output, Nat.le_trans h.size k.size, fun i hi hn => (k.block i (Nat.lt_of_lt_of_le hi h.size) hn).trans (h.block i hi hn), by
    rcases k.own with e | e
    · rcases h.own with f | f
      · exact .inl (e.trans f)
      · exact .inr (e.trans f)
    · exact .inr e⟩
theorem Off.of_stn {old : Array Value} (S : StN w w' g old new R) : Off g new R w w' := by
  have hb := S.2.2.2 0 w (Nat.zero_le _) (Below.refl 0 w)
  exact ⟨hb.os, hb.tape, hb.output, hb.size, fun k _ hn => S.2.2.1 k hn, .inr S.2.1⟩
theorem Off.below {B : Nat} {a : World} (O : Off g new R w w') (h : Below B a w) (hB : B ≤ g) (hg : g < w.heap.size) : Below B a w' :=
  ⟨O.os.trans h.os, O.tape.trans h.tape, O.output.trans h.output, Nat.le_trans h.size O.size, fun k hk => (O.block k (by omega) (by omega)).trans (h.block k hk)⟩
theorem _root_.Go.Proofs.YtpnmphofengoeaaGreatDoor.Bo.off {k : Nat} {cs : Array Value} {T : TypeId} (X : Bo w k cs T) (hk : k ≠ g) (O : Off g new R w w') : Bo w' k cs T := X.keep (O.block k X.lt hk)
theorem _root_.Go.Proofs.YtpnmphofengoeaaGreatDoor.Nm.off {old : Array Value} {B : Option Addr} {m d a : Nat} (h : Nm w B m d a) (X : Bo w g old R) (hn : old.all no32 = true) (O : Off g new R w w') : Nm w' B m d a := by
  obtain ⟨b, h⟩ := h
  exact ⟨b, h.keep fun hm => O.block b (h.lt hm) (fun e => by
    obtain ⟨o, _, hc⟩ := h.at hm
    have := hc 0 hm
    rw [e] at this
    exact X.no hn this)⟩
theorem _root_.Go.Proofs.YtpnmphofengoeaaGreatDoor.Rd.off {old : Array Value} {B : Option Addr} {m d a : Nat} (h : Rd w B m d a) (X : Bo w g old R) (hn : old.all no32 = true) (O : Off g new R w w') : Rd w' B m d a := by
  obtain ⟨b, xs, h, e⟩ := h
  exact ⟨b, xs, h.keep fun hm => O.block b (h.lt hm) (fun e => by
    obtain ⟨o, _, hc⟩ := h.at hm
    have := hc 0 hm
    rw [e] at this
    exact X.no hn this), e⟩
end

/-- What is known of a value, kept by what such a region does. -/
structure LFact (g : Nat) (new : Array Value) (R : TypeId) where
  P : Value → World → Prop
  keep : ∀ v w w', P v w → Off g new R w w' → P v w'
section
variable {g : Nat} {new : Array Value} {R : TypeId}
def LFact.any : LFact g new R := ⟨fun _ _ => True, fun _ _ _ h _ => h⟩
def LFact.eq (u : Value) : LFact g new R := ⟨fun v _ => v = u, fun _ _ _ h _ => h⟩
/-- The store is done. -/
def LFact.done : LFact g new R := ⟨fun _ w => Bo w g new R, fun v w w' h o => by
  rcases o.own with e | e
  · exact h.keep e
  · exact e⟩
def lphi (F : List (LFact g new R)) (i : Nat) (v : Value) (w : World) : Prop := (F.getD i LFact.any).P v w
variable {P : Program} {ops : Array Oper} {Q : Exit → Act → World → Prop} {a0 : Act} {T : List Nat} {ds : List (Option Tmp)} {ls : List (List Nat)} {k : Nat} {F : List (LFact g new R)} {J : World → Prop}
theorem lcons {i : Nat} {o : Oper} {r : List Nat} {di : Option Tmp} {L : List (Option Tmp × Nat)} {f : LFact g new R} (ho : ops[i]? = some o) (hdi : ds.getD i none = di) (hL : ((ls.getD i []).map fun j => (ds.getD j none, j)) = L) (hf : F.getD i LFact.any = f)
    (h : ∀ vs w, J w → (∀ j ∈ ls.getD i [], lphi F j (vs j) w) → ∀ K : Act → World → Prop, Shut (∀ v w', f.P v w' → Off g new R w w' → K ((putl vs L a0).put di v) w') →
      if Region.wanted o (yielded ops (putl vs L a0).tmps) = true then Oper.wp P o (putl vs L a0) w K Q else K ((putl vs L a0).put o.dst undef) w)
    (hs : Steps P ops Q a0 (dstOf ds) (depOf ls) (lphi F) J (Off g new R) r) : Steps P ops Q a0 (dstOf ds) (depOf ls) (lphi F) J (Off g new R) (i :: r) := by
  refine Steps.cons ho (fun vs w hJ hd K hK => ?_) hs
  have e : base (dstOf ds) vs (depOf ls i) a0 = putl vs L a0 := by
    rw [base_putl, ← hL]
    rfl
  rw [e] at hK ⊢
  refine h vs w hJ hd K ?_
  intro v w' h1 h2
  have := hK.out v w' (by unfold lphi; rw [hf]; exact h1) h2
  rwa [show dstOf ds i = di from hdi] at this
theorem region_late {id fuel : Nat} {w : World} {L : List (Option Tmp × Nat)} (hm : P.follows .mixedOrders = true) (hok : ok .any ops T (dstOf ds) (depOf ls) k a0.tmps.size = true) (hnd : T.Nodup)
    (hL : (T.map fun j => (ds.getD j none, j)) = L) (hfu : ops.size - T.length = fuel)
    (step : Steps P ops (NoPanic Q) a0 (dstOf ds) (depOf ls) (lphi F) (fun wj => Off g new R w wj) (Off g new R) T)
    (fin : ∀ vs wj, Off g new R w wj → (∀ j ∈ T, lphi F j (vs j) wj) → wpAny P .any ops (NoPanic Q) fuel (mark T ops.size) (putl vs L a0) wj) :
    (Code.region id ops true).wp P Q a0 w := by
  refine wp_region_noPanic ?_
  refine wp_region_joint (T := T) (dst := dstOf ds) (D := depOf ls) (k := k) (Φ := lphi F) (J := fun wj => Off g new R w wj) (St := Off g new R) hm hok hnd (fun _ _ _ _ h => h) (fun i _ v w w' h b => (F.getD i LFact.any).keep v w w' h b) (fun _ _ h b => h.trans b) (Off.drew w) step ?_
  intro vs w hJ hd
  have e : base (dstOf ds) vs T a0 = putl vs L a0 := by
    rw [base_putl, ← hL]
    rfl
  rw [e, hfu]
  exact fin vs w hJ hd
end
end Go.Proofs.YtpnmphofengoeaaGreatDoor.Jo
namespace Go.Proofs.YtpnmphofengoeaaGreatDoor
open Go.RowKit
set_option linter.unusedVariables false
open Go in
theorem Jo.ld {g : Nat} {new : Array Value} {R : TypeId} {P : Program} {ops : Array Oper} {Q : Exit → Act → World → Prop} {a0 : Act} {ds : List (Option Tmp)} {ls : List (List Nat)} {F : List (Jo.LFact g new R)} {J : World → Prop} (i : Nat) (di : Option Tmp) (L : List (Option Tmp × Nat)) (f : Jo.LFact g new R) {o : Oper} {r : List Nat} (ho : ops[i]? = some o) (hdi : ds.getD i none = di) (hL : ((ls.getD i []).map fun j => (ds.getD j none, j)) = L) (hf : F.getD i Jo.LFact.any = f)
    (h : ∀ vs w, J w → (∀ j ∈ ls.getD i [], Jo.lphi F j (vs j) w) → ∀ K : Act → World → Prop, Shut (∀ v w', f.P v w' → Jo.Off g new R w w' → K ((Jo.putl vs L a0).put di v) w') →
      if Region.wanted o (yielded ops (Jo.putl vs L a0).tmps) = true then Oper.wp P o (Jo.putl vs L a0) w K Q else K ((Jo.putl vs L a0).put o.dst undef) w)
    (hs : Jo.Steps P ops Q a0 (Jo.dstOf ds) (Jo.depOf ls) (Jo.lphi F) J (Jo.Off g new R) r) : Jo.Steps P ops Q a0 (Jo.dstOf ds) (Jo.depOf ls) (Jo.lphi F) J (Jo.Off g new R) (i :: r) := Jo.lcons ho hdi hL hf h hs
open Go in
theorem Jo.lm {P : Program} {ops : Array Oper} {Q : Exit → Act → World → Prop} {a0 : Act} {ds : List (Option Tmp)} {ls : List (List Nat)} {g : Nat} {new : Array Value} {R : TypeId} {F : List (Jo.LFact g new R)} {J : World → Prop} {i : Nat} {o : Oper} {r : List Nat} (ho : ops[i]? = some o)
    (h : ∀ w, J w → Jo.ad (Jo.lphi F) ds w (ls.getD i []) fun l => ∀ K : Act → World → Prop, Shut (∀ v w', Jo.lphi F i v w' → Jo.Off g new R w w' → K ((Jo.pv l a0).put (ds.getD i none) v) w') →
      if Region.wanted o (yielded ops (Jo.pv l a0).tmps) = true then Oper.wp P o (Jo.pv l a0) w K Q else K ((Jo.pv l a0).put o.dst undef) w)
    (hs : Jo.Steps P ops Q a0 (Jo.dstOf ds) (Jo.depOf ls) (Jo.lphi F) J (Jo.Off g new R) r) : Jo.Steps P ops Q a0 (Jo.dstOf ds) (Jo.depOf ls) (Jo.lphi F) J (Jo.Off g new R) (i :: r) :=
  Jo.lcons ho rfl rfl rfl (fun vs w hJ hd => by
    have := Jo.ad_out vs _ _ (h w hJ) hd
    simp only [Jo.pv_map] at this
    exact this) hs
open Go in
theorem Jo.rl {P : Program} {ops : Array Oper} {Q : Exit → Act → World → Prop} {a0 : Act} {id : Nat} {w : World} (g : Nat) (new : Array Value) (R : TypeId) (T : List Nat) (ds : List (Option Tmp)) (ls : List (List Nat)) (k : Nat) (fuel : Nat) (F : List (Jo.LFact g new R))
    (hm : P.follows .mixedOrders = true) (hok : Jo.ok .any ops T (Jo.dstOf ds) (Jo.depOf ls) k a0.tmps.size = true) (hnd : T.Nodup) (hfu : ops.size - T.length = fuel)
    (step : Jo.Steps P ops (NoPanic Q) a0 (Jo.dstOf ds) (Jo.depOf ls) (Jo.lphi F) (fun wj => Jo.Off g new R w wj) (Jo.Off g new R) T)
    (fin : ∀ wj, Jo.Off g new R w wj → Jo.ad (Jo.lphi F) ds wj T fun l => True → wpAny P .any ops (NoPanic Q) fuel (Jo.mark T ops.size) (Jo.pv l a0) wj) :
    (Code.region id ops true).wp P Q a0 w :=
  Jo.region_late hm hok hnd rfl hfu step fun vs wj hJ hd => by
    have := Jo.ad_out vs _ _ (fin wj hJ) hd
    rw [Jo.pv_map] at this
    exact this trivial
abbrev Jo.k9 {g : Nat} {new : Array Value} {R : TypeId} (e : Bool) (D : Int) (s : Bool) (M E : Int) (D' : Int) (s' : Bool) (M' E' : Int) : Jo.LFact g new R := Jo.LFact.eq (.agg #[.bool e, .int .i64 D, .bool s, .int .u64 M, .int .i64 E, .int .i64 D', .bool s', .int .u64 M', .int .i64 E'])
abbrev Jo.kp {g : Nat} {new : Array Value} {R : TypeId} (h i : Nat) : Jo.LFact g new R := Jo.LFact.eq (.pointer (some ⟨h, i, none⟩))
end Go.Proofs.YtpnmphofengoeaaGreatDoor

namespace Go.Proofs.YtpnmphofengoeaaGreatDoor
open Go.RowKit
set_option linter.unusedVariables false
set_option linter.unusedSimpArgs false
set_option maxRecDepth 100000

def PU (w : World) (z : Int) (e : Ending) (w' : World) : Prop := e = .returned (.int .u64 z) ∧ Below w.heap.size w w'
set_option maxHeartbeats 1000000 in
theorem yWord {w : World} {A : Option Addr} {n c v : Nat} {T : Int} (h : Nm w A n c v) (hv : v < 18446744073709551616) (hT : (v : Int) = T) : Calls Tryz.prog 94 #[.slice A n c] w (PU w T) := by
  have HT := Lib.hid hT; clear hT
  have hn2 : n ≤ 2 := by
    have hl := h.len
    have : (limbs v).length ≤ 2 := limbs_length_le (by simpa using hv)
    omega
  obtain ⟨b, hs⟩ := h; have HV := Lib.hid (val_limbs v)
  revert hs HV
  generalize limbs v = xs
  intro hs HV
  go_enter Tryz.func94, Tryz.ntmps94
  go_wp2
  go_loop [3, 4] (fun u i => ∃ k : Nat, k ≤ n ∧ i = .int .i64 ((k : Int) - 1) ∧ u = .int .u64 (val (xs.drop k) : Nat)) (fun _ i => (intOf i + 1).toNat)
  case atStart => exact ⟨n, Nat.le_refl _, rfl, by rw [List.drop_of_length_le (by rw [hs.len]; omega)]; rfl⟩
  case round =>
    obtain ⟨k, hk, rfl, rfl⟩ := hrel
    rcases Nat.eq_zero_or_pos k with e | hk0
    · subst e; rw [List.drop_zero, HV.out, HT.out]
      have c0 : (((0 : Nat) : Int) - 1) = -1 := rfl
      rw [c0]; go_wp2
      go_ret
      exact ⟨rfl, Below.refl _ _⟩
    · obtain ⟨o, rfl, hcell⟩ := hs.at (by omega); have hck := hcell (k - 1) (by omega); have hx := hs.lim.getD (k - 1)
      have HD : Hid (val (xs.drop (k - 1)) = xs.getD (k - 1) 0 + 4294967296 * val (xs.drop k)) := Lib.hid (by rw [val_drop (by rw [hs.len]; omega), show k - 1 + 1 = k by omega])
      have hu : val (xs.drop k) < 4294967296 := by
        have := val_lt (hs.lim.drop k)
        rw [List.length_drop, hs.len] at this; exact Nat.lt_of_lt_of_le this (Nat.pow_le_pow_right (n := 4294967296) (j := 1) (by decide) (by omega))
      have hi : ((k : Int) - 1).toNat = k - 1 := by omega
      clear hcell
      revert hck hx HD hu
      generalize xs.getD (k - 1) 0 = x; generalize val (xs.drop k) = u
      intro hck hx HD hu
      go_wp2
      go_round
      case rel => exact ⟨k - 1, by omega, val_int (by omega), val_int (by have := HD.out; omega)⟩
      case measure => simp [intOf]; omega

def PNB (w : World) (r : Int) (t : Bool) (e : Ending) (w' : World) : Prop := ∃ K s M E, e = .returned (.tuple #[.agg #[.int .i64 K, .bool s, .int .u64 M, .int .i64 E], .bool t]) ∧ Fq K s M E r ∧ Below w.heap.size w w'
end Go.Proofs.YtpnmphofengoeaaGreatDoor

namespace Go.Proofs.YtpnmphofengoeaaGreatDoor
set_option maxHeartbeats 4000000
open Go.RowKit
set_option linter.unusedVariables false
set_option linter.unusedSimpArgs false
set_option maxRecDepth 100000

theorem nx_sgi (s : Bool) {x : Int} (h0 : 0 ≤ x) (h1 : x ≤ 19342822337206103650074624) : nx (!s) (sgi s x) = sgi s (x + 1) := by
  have := TP_eq
  unfold nx
  cases s
  · show min TP (x + 1) = x + 1
    omega
  · show max (-TP) (-x - 1) = -(x + 1)
    omega
theorem nx_lo {a : Nat} {E : Int} (s : Bool) (h : ext a E = false) : nx (!s) (sgi s (lo a E)) = sgi s (hi a E) := by
  obtain ⟨h1, h2⟩ := lo_bd a E
  have hh : hi a E = lo a E + 1 := by
    unfold hi
    rw [h, if_neg (by decide)]
  rw [hh, nx_sgi s h1 h2]
theorem pick_t (s : Bool) (x y : Int) (b : Bool) (h : b = true) : sgi s (if b = true then x else y) = sgi s x := by rw [if_pos h]
theorem pick_f (s : Bool) (x y : Int) (b : Bool) (h : b = false) : sgi s (if b = true then x else y) = sgi s y := by rw [h, if_neg (by decide)]
theorem rnd_ext {up : Bool} {N E : Int} (h : ext N.natAbs E = true) : rnd up N E = sgi (decide (N < 0)) (lo N.natAbs E) := by
  unfold rnd hi
  rw [if_pos h]
  cases hb : (up != decide (N < 0))
  · exact pick_f _ _ _ _ rfl
  · exact pick_t _ _ _ _ rfl
theorem rnd_same {up s : Bool} {N E : Int} (hs : s = decide (N < 0)) (h : s = up) : rnd up N E = sgi s (lo N.natAbs E) := by
  unfold rnd
  rw [← hs, h]
  exact pick_f _ _ _ _ (by cases up <;> rfl)
theorem rnd_diff {s : Bool} {N E : Int} (hs : s = decide (N < 0)) : rnd (!s) N E = sgi s (hi N.natAbs E) := by
  unfold rnd
  rw [← hs]
  exact pick_t _ _ _ _ (by cases s <;> rfl)
def PDB (w : World) (N E : Int) (t : Bool) (e : Ending) (w' : World) : Prop := ∃ s A n c, e = .returned (.tuple #[.agg #[.bool s, .slice A n c, .int .i64 E], .bool t]) ∧ Wn w' s A n c N ∧ n ≤ 2 ∧ Below w.heap.size w w'
def exb (D : Int) (s : Bool) (M E : Int) : Bool := decide (MayQ D s M E) && !(D == 2)
def exq (D : Int) (s : Bool) (M E : Int) : Int × Int := if exb D s M E = true then mk (sgi s M) E else (0, 0)
def Jo.Fact.rd (a K : Nat) : Jo.Fact := ⟨fun v w => ∃ A n c, v = .slice A n c ∧ Rd w A n c a ∧ n ≤ K, fun v w w' h b => by
  obtain ⟨A, n, c, e, h, k⟩ := h; exact ⟨A, n, c, e, h.below b, k⟩⟩
theorem lit_rdk (W : World) {X Y a : Nat} (hX : X < 4294967296) (hY : Y < 4294967296) (ha : Y + 4294967296 * X = a) : Rd (W.alloc (.cells #[.int .u32 (Y : Int), .int .u32 (X : Int)] 74)) (some ⟨W.heap.size, 0, none⟩) 2 2 a :=
  ⟨_, _, lit2 W Y X hY hX, by simp [val]; omega⟩
theorem sg_toNat {s : Bool} {M : Int} (h : 0 ≤ M) : sg s M.toNat = sgi s M := by
  have : ((M.toNat : Nat) : Int) = M := by omega
  unfold sg sgi
  rw [this]
theorem yexact_a {w : World} {D M E : Int} {s : Bool} (hm : decide (MayQ D s M E) = false) : Calls Tryz.prog 80 #[.agg #[.int .i64 D, .bool s, .int .u64 M, .int .i64 E]] w (PDB w 0 0 false) := by
  have HM := Lib.hid hm; clear hm
  go_enter Tryz.func80, Tryz.ntmps80
  go_upto_region 1 with (fail)
  generalize hW1 : (w.alloc _).alloc _ = w1 at *; obtain ⟨X1, XR, HB⟩ := Bo.en2 hW1; clear hW1; have xX1 := X1.cell
  go_wp2_with fail
  refine (yMay HM.out).mono ?_; rintro ee w2 ⟨rfl, B⟩; clear xX1; replace X1 := X1.below B; replace XR := XR.below B; replace HB := Hqb HB B; clear B; have xXR := XR.cell; have zXR0 := XR.frozen; have xX1 := X1.cell; go_wp2; clear xXR zXR0 xX1; have SX := StN.mk3 XR (.bool false) (.slice none 0 0) (.int .i64 0)
  exact bodyPost_ret (v := .tuple #[.agg #[.bool false, .slice none 0 0, .int .i64 0], .bool false]) (by simp [results, Tryz.results80, go_sem, SX.box.cell]) rfl ⟨_, _, _, _, rfl, Wn.zero, by decide, (SX.below HB.out (by omega))⟩
theorem yexact_b {w : World} {D M E : Int} {s : Bool} (hm : decide (MayQ D s M E) = true) (hd : D = 2) : Calls Tryz.prog 80 #[.agg #[.int .i64 D, .bool s, .int .u64 M, .int .i64 E]] w (PDB w 0 0 false) := by
  have HM := Lib.hid hm; clear hm; subst hd
  go_enter Tryz.func80, Tryz.ntmps80
  go_upto_region 1 with (fail)
  generalize hW1 : (w.alloc _).alloc _ = w1 at *; obtain ⟨X1, XR, HB⟩ := Bo.en2 hW1; clear hW1; have xX1 := X1.cell
  go_wp2_with fail
  refine (yMay HM.out).mono ?_; rintro ee w2 ⟨rfl, B⟩; clear xX1; replace X1 := X1.below B; replace XR := XR.below B; replace HB := Hqb HB B; clear B; have xXR := XR.cell; have zXR0 := XR.frozen; have xX1 := X1.cell; go_wp2; clear xXR zXR0 xX1; have SX := StN.mk3 XR (.bool false) (.slice none 0 0) (.int .i64 0)
  exact bodyPost_ret (v := .tuple #[.agg #[.bool false, .slice none 0 0, .int .i64 0], .bool false]) (by simp [results, Tryz.results80, go_sem, SX.box.cell]) rfl ⟨_, _, _, _, rfl, Wn.zero, by decide, (SX.below HB.out (by omega))⟩
theorem yexact_z {w : World} {s : Bool} {M E : Int} (hm : decide (MayQ 0 s M E) = true) : Calls Tryz.prog 80 #[.agg #[.int .i64 0, .bool s, .int .u64 M, .int .i64 E]] w (PDB w 0 0 true) := by
  have HM := Lib.hid hm; clear hm
  go_enter Tryz.func80, Tryz.ntmps80
  go_upto_region 1 with (fail)
  generalize hW1 : (w.alloc _).alloc _ = w1 at *; obtain ⟨X1, XR, HB⟩ := Bo.en2 hW1; clear hW1; have xX1 := X1.cell
  go_wp2_with fail
  refine (yMay HM.out).mono ?_; rintro ee w2 ⟨rfl, B⟩; clear xX1; replace X1 := X1.below B; replace XR := XR.below B; replace HB := Hqb HB B; clear B; have xXR := XR.cell; have zXR0 := XR.frozen; have xX1 := X1.cell; go_wp2; clear xXR zXR0 xX1; have SX := StN.mk3 XR (.bool false) (.slice none 0 0) (.int .i64 0)
  exact bodyPost_ret (v := .tuple #[.agg #[.bool false, .slice none 0 0, .int .i64 0], .bool true]) (by simp [results, Tryz.results80, go_sem, SX.box.cell]) rfl ⟨_, _, _, _, rfl, Wn.zero, by decide, (SX.below HB.out (by omega))⟩
def PR (w : World) (a : Nat) (e : Ending) (w' : World) : Prop := ∃ A n c, e = .returned (.slice A n c) ∧ Rd w' A n c a ∧ n ≤ 2 ∧ Below w.heap.size w w'
theorem yLimbs {w : World} {M : Int} (h0 : 0 ≤ M) (hM : M < 18446744073709551616) : Calls Tryz.prog 91 #[.int .u64 M] w (PR w M.toNat) := by
  obtain ⟨X, hX⟩ : ∃ X : Nat, M / 4294967296 = X := ⟨(M / 4294967296).toNat, by omega⟩
  obtain ⟨Y, hY⟩ : ∃ Y : Nat, M % 4294967296 = Y := ⟨(M % 4294967296).toNat, by omega⟩
  have hx : X < 4294967296 := by omega
  have hy : Y < 4294967296 := by omega
  have ha : Y + 4294967296 * X = M.toNat := by omega
  have w1 : IntKind.u32.wrap (X : Int) = X := IntWalk.u32_in _ (by omega)
  have w2 : IntKind.u32.wrap (Y : Int) = Y := IntWalk.u32_in _ (by omega)
  go_enter Tryz.func91, Tryz.ntmps91
  go_wp2
  go_ret
  exact ⟨_, 2, 2, rfl, lit_rdk w hx hy ha, by decide, bel1 _ _⟩
theorem yexact_m {w : World} {D M E : Int} {s : Bool} {N F : Int} (h0 : 0 ≤ M) (hM : M < 18446744073709551616) (hm : decide (MayQ D s M E) = true) (hd : D ≠ 2) (hz : D ≠ 0) (hN : (mk (sgi s M) E).1 = N) (hE : (mk (sgi s M) E).2 = F) : Calls Tryz.prog 80 #[.agg #[.int .i64 D, .bool s, .int .u64 M, .int .i64 E]] w (PDB w N F true) := by
  have HM := Lib.hid hm; have HN := Lib.hid hN; have HE := Lib.hid hE
  have e2 : (D == 2) = false := by simpa using hd
  have e0 : (D == 0) = false := by simpa using hz
  obtain ⟨X, hX⟩ : ∃ X : Nat, M / 4294967296 = X := ⟨(M / 4294967296).toNat, by omega⟩
  obtain ⟨Y, hY⟩ : ∃ Y : Nat, M % 4294967296 = Y := ⟨(M % 4294967296).toNat, by omega⟩
  have hx : X < 4294967296 := by omega
  have hy : Y < 4294967296 := by omega
  have ha : Y + 4294967296 * X = M.toNat := by omega
  have HX := Lib.hid hX
  have HY : Hid (IntKind.u32.wrap M = (Y : Int)) := Lib.hid (by
    show M % 4294967296 = (Y : Int)
    exact hY)
  have HX2 : Hid (IntKind.u32.wrap (X : Int) = (X : Int)) := Lib.hid (IntWalk.u32_in _ (by omega))
  have HS : Hid (sg s M.toNat = sgi s M) := Lib.hid (sg_toNat h0)
  clear hm hN hE hX hY
  go_enter Tryz.func80, Tryz.ntmps80
  go_upto_region 1 with (fail)
  generalize hW1 : (w.alloc _).alloc _ = w1 at *; obtain ⟨X1, XR, HB⟩ := Bo.en2 hW1; clear hW1; have xX1 := X1.cell
  go_wp2_with fail
  refine (yMay HM.out).mono ?_; rintro ee w2 ⟨rfl, B⟩; clear xX1; replace X1 := X1.below B; replace XR := XR.below B; replace HB := Hqb HB B; clear B; have xX1 := X1.cell
  go_upto_region 6 with (fail)
  clear xX1; refine Jo.rk [0, 1, 2, 3, 4, 5, 6, 7, 8] [some 19, some 20, some 21, some 22, some 23, some 24, some 25, some 26, some 27, none, some 3] [[], [0], [], [2], [3], [1, 4], [], [6], [5, 7], [], []] 11 2 [Jo.qp w.heap.size 1, Jo.qb s, Jo.qp w.heap.size 2, Jo.Fact.eq (.int .u64 M), Jo.Fact.rd M.toNat 2, Jo.Fact.wn (sgi s M) 2, Jo.qp w.heap.size 3, Jo.qi E, Jo.Fact.dy N F 2, Jo.Fact.any, Jo.Fact.any] (by kernel_rfl) (by kernel_rfl) (by decide) rfl ?_ ?_
  · refine Jo.jm rfl ?_ ?_; rotate_left
    refine Jo.jm rfl ?_ ?_
    · rintro wj hJ _ rfl K hK; simp only [Jo.z] at hK ⊢; have xX11 := (X1.below hJ).a 1 (.bool s) rfl; go_simp; exact hK.out _ _ rfl (br _ _)
    refine Jo.jm rfl ?_ ?_; rotate_left
    refine Jo.jm rfl ?_ ?_
    · rintro wj hJ _ rfl K hK; simp only [Jo.z] at hK ⊢; have xX12 := (X1.below hJ).a 2 (.int .u64 M) rfl; go_simp; exact hK.out _ _ rfl (br _ _)
    refine Jo.jm rfl ?_ ?_
    · rintro wj hJ _ rfl K hK; simp only [Jo.z] at hK ⊢; go_simp; refine (yLimbs h0 hM).mono ?_; rintro ee wk ⟨A3, n3, c3, rfl, p3, k3, B⟩; exact hK.out _ _ ⟨A3, n3, c3, rfl, p3, k3⟩ B
    refine Jo.jm rfl ?_ ?_
    · rintro wj hJ _ rfl _ ⟨A3, n3, c3, rfl, p3, k3⟩ K hK; simp only [Jo.z] at hK ⊢; go_simp; refine (qMake s p3).mono ?_; rintro ee wk ⟨s4, A4, n4, c4, rfl, p4, k4, B⟩; exact hK.out _ _ ⟨s4, A4, n4, c4, rfl, HS.out ▸ p4, by omega⟩ B
    refine Jo.jm rfl ?_ ?_; rotate_left
    refine Jo.jm rfl ?_ ?_
    · rintro wj hJ _ rfl K hK; simp only [Jo.z] at hK ⊢; have xX13 := (X1.below hJ).a 3 (.int .i64 E) rfl; go_simp; exact hK.out _ _ rfl (br _ _)
    refine Jo.jm rfl ?_ ?_
    · rintro wj hJ _ ⟨s4, A4, n4, c4, rfl, p4, k4⟩ _ rfl K hK; simp only [Jo.z] at hK ⊢; go_simp; refine (q3Make p4.wr (by omega) HN.out HE.out).mono ?_; rintro ee wk ⟨s5, A5, n5, c5, rfl, p5, k5, B⟩; exact hK.out _ _ ⟨s5, A5, n5, c5, rfl, p5, by omega⟩ B
    exact Jo.Steps.nil
    all_goals (rintro wj hJ; (repeat rintro _ rfl); intro K hK; simp only [Jo.z] at hK ⊢; go_simp; exact hK.out _ _ rfl (br _ _))
  rintro w3 hJ _ _ _ rfl _ _ _ rfl _ ⟨A3, n3, c3, rfl, _, _⟩ _ ⟨s4, A4, n4, c4, rfl, _, _⟩ _ _ _ rfl _ ⟨s5, A5, n5, c5, rfl, p5, k5⟩ -; simp only [Jo.z]; replace X1 := X1.below hJ; replace XR := XR.below hJ; replace HB := Hqb HB hJ; have xXR := XR.cell; have zXR0 := XR.frozen
  refine Jo.jnext (i := 9) (o := ⟨none, _, _, _, _, _⟩) (by kernel_rfl) rfl (fun K hK => ?_)
  go_simp; refine hK.out _ _ ?_; clear hK K xXR zXR0; generalize hS : ((w3.setCell _ _).setCell _ _).setCell _ _ = w4 at *; have SX := StN.of3 XR hS; replace X1 := X1.stn SX (by omega); replace p5 := p5.stn SX (by simp [no32]); replace HB := Hqs HB SX (by omega); replace XR := SX.box; clear SX hS
  refine Jo.jnext (i := 10) (o := ⟨some 3, _, _, _, _, _⟩) (by kernel_rfl) rfl (fun K hK => ?_)
  go_simp; refine hK.out _ _ ?_; clear hK K; refine Jo.jdone (by kernel_rfl) ?_; go_wp2; exact bodyPost_ret (v := .tuple #[.agg #[.bool s5, .slice A5 n5 c5, .int .i64 F], .bool true]) (by simp [results, Tryz.results80, go_sem, XR.cell]) rfl ⟨_, _, _, _, rfl, p5, k5, HB.out⟩
theorem yExact0 {w : World} {t : Bool} {D M E : Int} {s : Bool} {N F : Int} (h0 : 0 ≤ M) (hM : M < 18446744073709551616) (hq : exb D s M E = t) (hN : (exq D s M E).1 = N) (hE : (exq D s M E).2 = F) : Calls Tryz.prog 80 #[.agg #[.int .i64 D, .bool s, .int .u64 M, .int .i64 E]] w (PDB w N F t) := by
  unfold exq at hN hE
  rw [hq] at hN hE
  unfold exb at hq
  cases hm : decide (MayQ D s M E)
  · rw [hm, Bool.false_and] at hq; subst hq; subst hN; subst hE; exact yexact_a hm
  · rw [hm, Bool.true_and] at hq
    by_cases hd : D = 2
    · have e : (D == 2) = true := by simpa using hd
      rw [e] at hq; subst hq; subst hN; subst hE; exact yexact_b hm hd
    · have e : (D == 2) = false := by simpa using hd
      rw [e] at hq
      obtain rfl : true = t := hq
      rw [if_pos rfl] at hN hE
      by_cases hz : D = 0
      · subst hz
        have e1 : s = false ∧ M = 0 ∧ E = 0 := by
          have := of_decide_eq_true hm
          unfold MayQ at this
          simpa using this
        obtain ⟨rfl, rfl, rfl⟩ := e1
        have e2 : mk (sgi false 0) 0 = (0, 0) := mk_zero 0
        rw [e2] at hN hE; subst hN; subst hE; exact yexact_z hm
      · exact yexact_m h0 hM hm hd hz hN hE
end Go.Proofs.YtpnmphofengoeaaGreatDoor

namespace Go.Proofs.YtpnmphofengoeaaGreatDoor
set_option maxHeartbeats 4000000
open Go.RowKit
set_option linter.unusedVariables false
set_option linter.unusedSimpArgs false
set_option maxRecDepth 100000

theorem fin_nc {a : Nat} {E : Int} (s : Bool) (h : a ≠ 0) : fin s (tp a) (xp a E) false = sgi s (lo a E) := by
  have := TP_eq
  unfold fin lo
  rw [if_neg h]; refine congrArg (sgi s) ?_
  by_cases c1 : 1048576 < xp a E
  · rw [if_pos c1, if_pos c1, if_neg (by decide)]
    omega
  · rw [if_neg c1, if_neg c1]
    by_cases c2 : xp a E < -1048576
    · rw [if_pos c2, if_pos c2, if_neg (by decide)]
    · rw [if_neg c2, if_neg c2]
theorem fin_small {a : Nat} {E : Int} (s : Bool) (h : a ≠ 0) (hl : blen a ≤ 64) : fin s (tp a) (xp a E) true = sgi s (hi a E) := by
  have := TP_eq
  have e0 : (a == 0) = false := by simpa using h
  unfold fin hi ext lo
  rw [if_neg h, e0, Bool.false_or, decide_eq_true hl, Bool.and_true]
  congr 1
  by_cases c1 : 1048576 < xp a E
  · rw [if_pos c1, if_pos rfl, decide_eq_false (show ¬ xp a E ≤ 1048576 by omega), Bool.false_and, if_neg (by decide), if_pos c1]
    omega
  · rw [if_neg c1, if_neg c1, decide_eq_true (show xp a E ≤ 1048576 by omega), Bool.true_and]
    by_cases c2 : xp a E < -1048576
    · rw [if_pos c2, if_pos rfl, decide_eq_false (show ¬ -1048576 ≤ xp a E by omega), if_neg (by decide), if_pos c2]
      rfl
    · rw [if_neg c2, decide_eq_true (show -1048576 ≤ xp a E by omega), if_pos rfl, if_neg c2]
theorem hi_big {a : Nat} {E : Int} (hl : 64 < blen a) : hi a E = lo a E + 1 := by
  have h0 : a ≠ 0 := fun e => by rw [e] at hl; exact absurd hl (by decide)
  have e0 : (a == 0) = false := by simpa using h0
  have : ext a E = false := by
    unfold ext
    rw [e0, decide_eq_false (show ¬ blen a ≤ 64 by omega)]
    simp
  unfold hi
  rw [this, if_neg (by decide)]
theorem fin_up {a : Nat} {E : Int} (s : Bool) (hl : 64 < blen a) (ht : tp a + 1 < 2 ^ 64) : fin s ((tp a + 1 : Nat) : Int) (xp a E) true = sgi s (hi a E) := by
  have := TP_eq
  have h0 : a ≠ 0 := fun e => by rw [e] at hl; exact absurd hl (by decide)
  rw [hi_big hl]
  unfold fin lo
  rw [if_neg h0]
  congr 1
  by_cases c1 : 1048576 < xp a E
  · rw [if_pos c1, if_pos c1, if_pos rfl]
    omega
  · rw [if_neg c1, if_neg c1]
    by_cases c2 : xp a E < -1048576
    · rw [if_pos c2, if_pos c2, if_pos rfl]
      rfl
    · rw [if_neg c2, if_neg c2]
      omega
theorem fin_carry {a : Nat} {E : Int} (s : Bool) (hl : 64 < blen a) (ht : tp a + 1 = 2 ^ 64) : fin s 9223372036854775808 (xp a E + 1) true = sgi s (hi a E) := by
  have := TP_eq
  have h0 : a ≠ 0 := fun e => by rw [e] at hl; exact absurd hl (by decide)
  rw [hi_big hl]
  unfold fin lo
  rw [if_neg h0]
  congr 1
  by_cases c1 : 1048576 < xp a E
  · rw [if_pos (show 1048576 < xp a E + 1 by omega), if_pos c1, if_pos rfl]
    omega
  · rw [if_neg c1]
    by_cases c3 : 1048576 < xp a E + 1
    · rw [if_pos c3, if_pos rfl, if_neg (show ¬ xp a E < -1048576 by omega)]
      omega
    · rw [if_neg c3]
      by_cases c2 : xp a E < -1048576
      · rw [if_pos c2]
        by_cases c4 : xp a E + 1 < -1048576
        · rw [if_pos c4, if_pos rfl]
          rfl
        · rw [if_neg c4]
          omega
      · rw [if_neg c2, if_neg (by omega)]
        omega
theorem tp_one {a : Nat} (h : 64 < blen a) : a / 2 ^ ((blen a : Int) - 64).toNat = tp a := by
  rw [tp_big (by omega), show ((blen a : Int) - 64).toNat = blen a - 64 by omega]
theorem tp_shl {a : Nat} (h : blen a ≤ 64) : a * 2 ^ (64 - (blen a : Int)).toNat = tp a := by
  rw [tp_small h, show (64 - (blen a : Int)).toNat = 64 - blen a by omega]
theorem yround_zero {w : World} {A : Option Addr} {n c a : Nat} {s sg0 up : Bool} {z e N E : Int} (h : Wr w s A n c z) (hn : n ≤ 100000) (hN : (mk z e).1 = N) (hE : (mk z e).2 = E) (ha : N.natAbs = a) (hs : decide (N < 0) = sg0) (h0 : a = 0) :
    Calls Tryz.prog 81 #[.agg #[.bool s, .slice A n c, .int .i64 e], .bool up] w (PN w 0) := by
  obtain ⟨b1, b2⟩ := mk_bd z e; rw [hE] at b1 b2; have HN := Lib.hid hN; have HE := Lib.hid hE; have HA := Lib.hid ha; have HSG := Lib.hid hs; clear hN hE ha hs; subst h0
  go_enter Tryz.func81, Tryz.ntmps81
  go_upto_region 1 with (fail)
  generalize hW1 : (w.alloc _).alloc _ = w1 at *; obtain ⟨X1, XR, HB⟩ := Bo.en2 hW1; replace h := h.below HB.out; clear hW1; have xX1 := X1.cell
  go_wp2_with fail
  refine (q3Make h hn HN.out HE.out).mono ?_; rintro ee w2 ⟨s1, A1, n1, c1, rfl, p1, k1, B⟩; clear xX1; replace X1 := X1.below B; replace XR := XR.below B; replace h := h.below B; replace HB := Hqb HB B; clear B
  go_upto_region 2 with (fail)
  have lX5 := Nat.le_refl (World.heap w2).size; have nX5X1 := X1.lt; have nX5XR := XR.lt; generalize hWn : w2.alloc _ = w3 at *; obtain ⟨X5, BW⟩ := Bo.nw hWn; clear hWn; replace X1 := X1.below BW; replace XR := XR.below BW; replace p1 := p1.below BW; replace HB := Hqb HB BW; clear BW; clear lX5
  have hz : n1 = 0 := by have := p1.1.pos; have := HA.out; omega
  subst hz; clear p1; have xXR := XR.cell; have zXR0 := XR.frozen; have xX5 := X5.cell; go_wp2; clear xXR zXR0 xX5; have SX := StN.mk4 XR (.int .i64 0) (.bool false) (.int .u64 0) (.int .i64 0); exact bodyPost_ret (by simp [results, Tryz.results81, go_sem, SX.box.cell]) rfl ⟨_, _, _, _, rfl, Fq.nought, (SX.below HB.out (by omega))⟩
theorem yround_ss {w : World} {A : Option Addr} {n c a : Nat} {s sg0 : Bool} {z e N E L x r : Int} (h : Wr w s A n c z) (hn : n ≤ 100000) (hN : (mk z e).1 = N) (hE : (mk z e).2 = E) (ha : N.natAbs = a) (hs : decide (N < 0) = sg0) (h0 : a ≠ 0) (hL : ((blen a : Nat) : Int) = L) (hl : L ≤ 64) (hx : E + L - 64 = x) (hb : L ≤ 3200000) (hr : fin sg0 (tp a) x false = r) :
    Calls Tryz.prog 81 #[.agg #[.bool s, .slice A n c, .int .i64 e], .bool sg0] w (PN w r) := by
  obtain ⟨b1, b2⟩ := mk_bd z e; rw [hE] at b1 b2; have HN := Lib.hid hN; have HE := Lib.hid hE; have HA := Lib.hid ha; have HSG := Lib.hid hs; have HL := Lib.hid hL
  have hl0 : blen a ≠ 0 := fun e => h0 (blen_eq_zero.1 e)
  have g1 := tp_ge h0; have g2 := tp_lt a
  have HX1 : Hid (IntKind.i64.wrap (E + L) = E + L) := Lib.hid (IntWalk.i64_in _ (by omega))
  have HX2 : Hid (IntKind.i64.wrap (E + L - 64) = x) := Lib.hid (by rw [hx]; exact IntWalk.i64_in _ (by omega))
  obtain ⟨T, hT⟩ : ∃ T, ((tp a : Nat) : Int) = T := ⟨_, rfl⟩; rw [hT] at hr; have HT := Lib.hid hT; have HR := Lib.hid hr; obtain ⟨v, hv⟩ : ∃ v, 64 - L = v := ⟨_, rfl⟩
  have HV : Hid (IntKind.i64.wrap (64 - L) = v) := Lib.hid (by rw [hv]; exact IntWalk.i64_in _ (by omega))
  have HSH : Hid (a * 2 ^ v.toNat = tp a) := Lib.hid (by rw [← hv, ← hL]; exact tp_shl (by omega))
  have hv1 : 0 ≤ v := by omega
  have hv2 : v ≤ 64 := by omega
  have hT1 : 9223372036854775808 ≤ T := by omega
  have hT2 : T < 18446744073709551616 := by omega
  have HG2 := Lib.hid g2; clear hN hE ha hs hL hx hr hT hv g1 g2 hl0
  go_enter Tryz.func81, Tryz.ntmps81
  go_upto_region 1 with (fail)
  generalize hW1 : (w.alloc _).alloc _ = w1 at *; obtain ⟨X1, XR, HB⟩ := Bo.en2 hW1; replace h := h.below HB.out; clear hW1; have xX1 := X1.cell
  go_wp2_with fail
  refine (q3Make h hn HN.out HE.out).mono ?_; rintro ee w2 ⟨s1, A1, n1, c1, rfl, p1, k1, B⟩; clear xX1; replace X1 := X1.below B; replace XR := XR.below B; replace h := h.below B; replace HB := Hqb HB B; clear B
  go_upto_region 2 with (fail)
  have lX5 := Nat.le_refl (World.heap w2).size; have nX5X1 := X1.lt; have nX5XR := XR.lt; generalize hWn : w2.alloc _ = w3 at *; obtain ⟨X5, BW⟩ := Bo.nw hWn; clear hWn; replace X1 := X1.below BW; replace XR := XR.below BW; replace p1 := p1.below BW; replace HB := Hqb HB BW; clear BW; clear lX5
  obtain rfl : s1 = sg0 := p1.2.trans HSG.out
  have p2 : Nm w3 A1 n1 c1 a := HA.out ▸ p1.1
  have hbl := p2.rd.blen_le
  have hn1 : n1 ≤ 100000 := by omega
  have hpos : 0 < n1 := p2.pos.2 (by omega)
  clear p1 HSG
  have e0 : ((n1 : Int) == 0) = false := by
    have : (n1 : Int) ≠ 0 := by omega
    simpa using this
  have hbg : n1 ≤ 1099511627776 := by omega
  have f1 : (s1 != s1) = false := by cases s1 <;> rfl
  have f2 : (!s1 != s1) = true := by cases s1 <;> rfl
  have f3 : (s1 == s1) = true := by cases s1 <;> rfl
  have f4 : ((!s1) == s1) = false := by cases s1 <;> rfl
  have xX5 := X5.cell
  go_wp2_with fail
  refine (rLen p2.rd HL.out).mono ?_; rintro ee w4 ⟨rfl, B⟩; clear xX5; replace XR := XR.below B; replace X5 := X5.below B; replace p2 := p2.below B; replace HB := Hqb HB B; clear B; have xX5 := X5.cell
  go_upto_region 7 with (fail)
  clear xX5; refine Jo.rk [0, 1, 2, 3, 4, 5, 6, 7, 8, 9, 10, 11, 12, 13, 14, 15, 16] [some 32, some 33, some 34, some 35, some 36, some 37, some 38, some 39, some 40, some 41, some 42, some 43, some 44, some 45, some 46, some 47, some 48, none] [[], [0], [1], [], [3], [4], [], [6], [5, 7], [8], [], [10], [], [11, 12], [13], [], [2, 9, 14, 15], []] 18 1 [Jo.qp w2.heap.size 0, Jo.qp w2.heap.size 0, Jo.qb s1, Jo.qp w2.heap.size 0, Jo.qp w2.heap.size 1, Jo.Fact.eq (.slice A1 n1 c1), Jo.qi L, Jo.qi v, Jo.Fact.nm (tp a) 100100, Jo.Fact.eq (.int .u64 T), Jo.qp w2.heap.size 2, Jo.qi E, Jo.qi L, Jo.Fact.eq (.int .i64 (E + L)), Jo.qi x, Jo.qb false, Jo.Fact.num r, Jo.Fact.any] (by kernel_rfl) (by kernel_rfl) (by decide) rfl ?_ ?_
  · iterate 2 (refine Jo.jm rfl ?_ ?_; rotate_left)
    refine Jo.jm rfl ?_ ?_
    · rintro wj hJ _ rfl K hK; simp only [Jo.z] at hK ⊢; have xX50 := (X5.below hJ).a 0 (.bool s1) rfl; go_simp; exact hK.out _ _ rfl (br _ _)
    iterate 2 (refine Jo.jm rfl ?_ ?_; rotate_left)
    refine Jo.jm rfl ?_ ?_
    · rintro wj hJ _ rfl K hK; simp only [Jo.z] at hK ⊢; have xX51 := (X5.below hJ).a 1 (.slice A1 n1 c1) rfl; go_simp; exact hK.out _ _ rfl (br _ _)
    refine Jo.jm rfl ?_ ?_; rotate_left
    refine Jo.jm rfl ?_ ?_
    · rintro wj hJ _ rfl K hK; simp only [Jo.z] at hK ⊢; have hv := HV.out; go_simp; exact hK.out _ _ rfl (br _ _)
    refine Jo.jm rfl ?_ ?_
    · rintro wj hJ _ rfl _ rfl K hK; simp only [Jo.z] at hK ⊢; go_simp; refine (rShlN (p2.below hJ).rd (by omega) hv1 (by omega) HSH.out).mono ?_; rintro ee wk ⟨A3, n3, c3, rfl, p3, k3, B⟩; exact hK.out _ _ ⟨A3, n3, c3, rfl, p3, by omega⟩ B
    refine Jo.jm rfl ?_ ?_
    · rintro wj hJ _ ⟨A3, n3, c3, rfl, p3, k3⟩ K hK; simp only [Jo.z] at hK ⊢; go_simp; refine (yWord p3 HG2.out HT.out).mono ?_; rintro ee wk ⟨rfl, B⟩; exact hK.out _ _ rfl B
    refine Jo.jm rfl ?_ ?_; rotate_left
    refine Jo.jm rfl ?_ ?_
    · rintro wj hJ _ rfl K hK; simp only [Jo.z] at hK ⊢; have xX52 := (X5.below hJ).a 2 (.int .i64 E) rfl; go_simp; exact hK.out _ _ rfl (br _ _)
    refine Jo.jm rfl ?_ ?_; rotate_left
    refine Jo.jm rfl ?_ ?_
    · rintro wj hJ _ rfl _ rfl K hK; simp only [Jo.z] at hK ⊢; have hx1 := HX1.out; go_simp; exact hK.out _ _ rfl (br _ _)
    refine Jo.jm rfl ?_ ?_
    · rintro wj hJ _ rfl K hK; simp only [Jo.z] at hK ⊢; have hx2 := HX2.out; go_simp; exact hK.out _ _ rfl (br _ _)
    refine Jo.jm rfl ?_ ?_; rotate_left
    refine Jo.jm rfl ?_ ?_
    · rintro wj hJ _ rfl _ rfl _ rfl _ rfl K hK; simp only [Jo.z] at hK ⊢; go_simp; refine (yFin hT1 hT2 HR.out).mono ?_; rintro ee wk ⟨K4, s4, M4, E4, rfl, q4, B⟩; exact hK.out _ _ ⟨K4, s4, M4, E4, rfl, q4⟩ B
    exact Jo.Steps.nil
    all_goals (rintro wj hJ; (repeat rintro _ rfl); intro K hK; simp only [Jo.z] at hK ⊢; go_simp; exact hK.out _ _ rfl (br _ _))
  rintro w5 hJ _ _ _ _ _ rfl _ _ _ _ _ rfl _ rfl _ rfl _ ⟨A3, n3, c3, rfl, _, _⟩ _ rfl _ _ _ rfl _ rfl _ rfl _ rfl _ rfl _ ⟨K4, s4, M4, E4, rfl, q4⟩ -; simp only [Jo.z]; replace XR := XR.below hJ; replace X5 := X5.below hJ; replace p2 := p2.below hJ; replace HB := Hqb HB hJ; have xXR := XR.cell; have zXR0 := XR.frozen
  refine Jo.jnext (i := 17) (o := ⟨none, _, _, _, _, _⟩) (by kernel_rfl) rfl (fun K hK => ?_)
  go_simp; refine hK.out _ _ ?_; clear hK K xXR zXR0; have SX := StN.mk4 XR (.int .i64 K4) (.bool s4) (.int .u64 M4) (.int .i64 E4); refine Jo.jdone (by kernel_rfl) ?_; go_wp2; exact bodyPost_ret (by simp [results, Tryz.results81, go_sem, SX.box.cell]) rfl ⟨_, _, _, _, rfl, q4, (SX.below HB.out (by omega))⟩
theorem yround_sd {w : World} {A : Option Addr} {n c a : Nat} {s sg0 : Bool} {z e N E L x r : Int} (h : Wr w s A n c z) (hn : n ≤ 100000) (hN : (mk z e).1 = N) (hE : (mk z e).2 = E) (ha : N.natAbs = a) (hs : decide (N < 0) = sg0) (h0 : a ≠ 0) (hL : ((blen a : Nat) : Int) = L) (hl : L ≤ 64) (hx : E + L - 64 = x) (hb : L ≤ 3200000) (hr : fin sg0 (tp a) x true = r) :
    Calls Tryz.prog 81 #[.agg #[.bool s, .slice A n c, .int .i64 e], .bool (!sg0)] w (PN w r) := by
  obtain ⟨b1, b2⟩ := mk_bd z e; rw [hE] at b1 b2; have HN := Lib.hid hN; have HE := Lib.hid hE; have HA := Lib.hid ha; have HSG := Lib.hid hs; have HL := Lib.hid hL
  have hl0 : blen a ≠ 0 := fun e => h0 (blen_eq_zero.1 e)
  have g1 := tp_ge h0; have g2 := tp_lt a
  have HX1 : Hid (IntKind.i64.wrap (E + L) = E + L) := Lib.hid (IntWalk.i64_in _ (by omega))
  have HX2 : Hid (IntKind.i64.wrap (E + L - 64) = x) := Lib.hid (by rw [hx]; exact IntWalk.i64_in _ (by omega))
  obtain ⟨T, hT⟩ : ∃ T, ((tp a : Nat) : Int) = T := ⟨_, rfl⟩; rw [hT] at hr; have HT := Lib.hid hT; have HR := Lib.hid hr; obtain ⟨v, hv⟩ : ∃ v, 64 - L = v := ⟨_, rfl⟩
  have HV : Hid (IntKind.i64.wrap (64 - L) = v) := Lib.hid (by rw [hv]; exact IntWalk.i64_in _ (by omega))
  have HSH : Hid (a * 2 ^ v.toNat = tp a) := Lib.hid (by rw [← hv, ← hL]; exact tp_shl (by omega))
  have hv1 : 0 ≤ v := by omega
  have hv2 : v ≤ 64 := by omega
  have hT1 : 9223372036854775808 ≤ T := by omega
  have hT2 : T < 18446744073709551616 := by omega
  have HG2 := Lib.hid g2; clear hN hE ha hs hL hx hr hT hv g1 g2 hl0
  go_enter Tryz.func81, Tryz.ntmps81
  go_upto_region 1 with (fail)
  generalize hW1 : (w.alloc _).alloc _ = w1 at *; obtain ⟨X1, XR, HB⟩ := Bo.en2 hW1; replace h := h.below HB.out; clear hW1; have xX1 := X1.cell
  go_wp2_with fail
  refine (q3Make h hn HN.out HE.out).mono ?_; rintro ee w2 ⟨s1, A1, n1, c1, rfl, p1, k1, B⟩; clear xX1; replace X1 := X1.below B; replace XR := XR.below B; replace h := h.below B; replace HB := Hqb HB B; clear B
  go_upto_region 2 with (fail)
  have lX5 := Nat.le_refl (World.heap w2).size; have nX5X1 := X1.lt; have nX5XR := XR.lt; generalize hWn : w2.alloc _ = w3 at *; obtain ⟨X5, BW⟩ := Bo.nw hWn; clear hWn; replace X1 := X1.below BW; replace XR := XR.below BW; replace p1 := p1.below BW; replace HB := Hqb HB BW; clear BW; clear lX5
  obtain rfl : s1 = sg0 := p1.2.trans HSG.out
  have p2 : Nm w3 A1 n1 c1 a := HA.out ▸ p1.1
  have hbl := p2.rd.blen_le
  have hn1 : n1 ≤ 100000 := by omega
  have hpos : 0 < n1 := p2.pos.2 (by omega)
  clear p1 HSG
  have e0 : ((n1 : Int) == 0) = false := by
    have : (n1 : Int) ≠ 0 := by omega
    simpa using this
  have hbg : n1 ≤ 1099511627776 := by omega
  have f1 : (s1 != s1) = false := by cases s1 <;> rfl
  have f2 : (!s1 != s1) = true := by cases s1 <;> rfl
  have f3 : (s1 == s1) = true := by cases s1 <;> rfl
  have f4 : ((!s1) == s1) = false := by cases s1 <;> rfl
  have xX5 := X5.cell
  go_wp2_with fail
  refine (rLen p2.rd HL.out).mono ?_; rintro ee w4 ⟨rfl, B⟩; clear xX5; replace XR := XR.below B; replace X5 := X5.below B; replace p2 := p2.below B; replace HB := Hqb HB B; clear B; have xX5 := X5.cell
  go_upto_region 7 with (fail)
  clear xX5; refine Jo.rk [0, 1, 2, 3, 4, 5, 6, 7, 8, 9, 10, 11, 12, 13, 14, 15, 16] [some 32, some 33, some 34, some 35, some 36, some 37, some 38, some 39, some 40, some 41, some 42, some 43, some 44, some 45, some 46, some 47, some 48, none] [[], [0], [1], [], [3], [4], [], [6], [5, 7], [8], [], [10], [], [11, 12], [13], [], [2, 9, 14, 15], []] 18 1 [Jo.qp w2.heap.size 0, Jo.qp w2.heap.size 0, Jo.qb s1, Jo.qp w2.heap.size 0, Jo.qp w2.heap.size 1, Jo.Fact.eq (.slice A1 n1 c1), Jo.qi L, Jo.qi v, Jo.Fact.nm (tp a) 100100, Jo.Fact.eq (.int .u64 T), Jo.qp w2.heap.size 2, Jo.qi E, Jo.qi L, Jo.Fact.eq (.int .i64 (E + L)), Jo.qi x, Jo.qb true, Jo.Fact.num r, Jo.Fact.any] (by kernel_rfl) (by kernel_rfl) (by decide) rfl ?_ ?_
  · iterate 2 (refine Jo.jm rfl ?_ ?_; rotate_left)
    refine Jo.jm rfl ?_ ?_
    · rintro wj hJ _ rfl K hK; simp only [Jo.z] at hK ⊢; have xX50 := (X5.below hJ).a 0 (.bool s1) rfl; go_simp; exact hK.out _ _ rfl (br _ _)
    iterate 2 (refine Jo.jm rfl ?_ ?_; rotate_left)
    refine Jo.jm rfl ?_ ?_
    · rintro wj hJ _ rfl K hK; simp only [Jo.z] at hK ⊢; have xX51 := (X5.below hJ).a 1 (.slice A1 n1 c1) rfl; go_simp; exact hK.out _ _ rfl (br _ _)
    refine Jo.jm rfl ?_ ?_; rotate_left
    refine Jo.jm rfl ?_ ?_
    · rintro wj hJ _ rfl K hK; simp only [Jo.z] at hK ⊢; have hv := HV.out; go_simp; exact hK.out _ _ rfl (br _ _)
    refine Jo.jm rfl ?_ ?_
    · rintro wj hJ _ rfl _ rfl K hK; simp only [Jo.z] at hK ⊢; go_simp; refine (rShlN (p2.below hJ).rd (by omega) hv1 (by omega) HSH.out).mono ?_; rintro ee wk ⟨A3, n3, c3, rfl, p3, k3, B⟩; exact hK.out _ _ ⟨A3, n3, c3, rfl, p3, by omega⟩ B
    refine Jo.jm rfl ?_ ?_
    · rintro wj hJ _ ⟨A3, n3, c3, rfl, p3, k3⟩ K hK; simp only [Jo.z] at hK ⊢; go_simp; refine (yWord p3 HG2.out HT.out).mono ?_; rintro ee wk ⟨rfl, B⟩; exact hK.out _ _ rfl B
    refine Jo.jm rfl ?_ ?_; rotate_left
    refine Jo.jm rfl ?_ ?_
    · rintro wj hJ _ rfl K hK; simp only [Jo.z] at hK ⊢; have xX52 := (X5.below hJ).a 2 (.int .i64 E) rfl; go_simp; exact hK.out _ _ rfl (br _ _)
    refine Jo.jm rfl ?_ ?_; rotate_left
    refine Jo.jm rfl ?_ ?_
    · rintro wj hJ _ rfl _ rfl K hK; simp only [Jo.z] at hK ⊢; have hx1 := HX1.out; go_simp; exact hK.out _ _ rfl (br _ _)
    refine Jo.jm rfl ?_ ?_
    · rintro wj hJ _ rfl K hK; simp only [Jo.z] at hK ⊢; have hx2 := HX2.out; go_simp; exact hK.out _ _ rfl (br _ _)
    refine Jo.jm rfl ?_ ?_; rotate_left
    refine Jo.jm rfl ?_ ?_
    · rintro wj hJ _ rfl _ rfl _ rfl _ rfl K hK; simp only [Jo.z] at hK ⊢; go_simp; refine (yFin hT1 hT2 HR.out).mono ?_; rintro ee wk ⟨K4, s4, M4, E4, rfl, q4, B⟩; exact hK.out _ _ ⟨K4, s4, M4, E4, rfl, q4⟩ B
    exact Jo.Steps.nil
    all_goals (rintro wj hJ; (repeat rintro _ rfl); intro K hK; simp only [Jo.z] at hK ⊢; go_simp; exact hK.out _ _ rfl (br _ _))
  rintro w5 hJ _ _ _ _ _ rfl _ _ _ _ _ rfl _ rfl _ rfl _ ⟨A3, n3, c3, rfl, _, _⟩ _ rfl _ _ _ rfl _ rfl _ rfl _ rfl _ rfl _ ⟨K4, s4, M4, E4, rfl, q4⟩ -; simp only [Jo.z]; replace XR := XR.below hJ; replace X5 := X5.below hJ; replace p2 := p2.below hJ; replace HB := Hqb HB hJ; have xXR := XR.cell; have zXR0 := XR.frozen
  refine Jo.jnext (i := 17) (o := ⟨none, _, _, _, _, _⟩) (by kernel_rfl) rfl (fun K hK => ?_)
  go_simp; refine hK.out _ _ ?_; clear hK K xXR zXR0; have SX := StN.mk4 XR (.int .i64 K4) (.bool s4) (.int .u64 M4) (.int .i64 E4); refine Jo.jdone (by kernel_rfl) ?_; go_wp2; exact bodyPost_ret (by simp [results, Tryz.results81, go_sem, SX.box.cell]) rfl ⟨_, _, _, _, rfl, q4, (SX.below HB.out (by omega))⟩
theorem yround_bs {w : World} {A : Option Addr} {n c a : Nat} {s sg0 : Bool} {z e N E L x r : Int} (h : Wr w s A n c z) (hn : n ≤ 100000) (hN : (mk z e).1 = N) (hE : (mk z e).2 = E) (ha : N.natAbs = a) (hs : decide (N < 0) = sg0) (h0 : a ≠ 0) (hL : ((blen a : Nat) : Int) = L) (hl : 64 < L) (hx : E + L - 64 = x) (hb : L ≤ 3200000) (hr : fin sg0 (tp a) x false = r) :
    Calls Tryz.prog 81 #[.agg #[.bool s, .slice A n c, .int .i64 e], .bool sg0] w (PN w r) := by
  obtain ⟨b1, b2⟩ := mk_bd z e; rw [hE] at b1 b2; have HN := Lib.hid hN; have HE := Lib.hid hE; have HA := Lib.hid ha; have HSG := Lib.hid hs; have HL := Lib.hid hL
  have hl0 : blen a ≠ 0 := fun e => h0 (blen_eq_zero.1 e)
  have g1 := tp_ge h0; have g2 := tp_lt a
  have HX1 : Hid (IntKind.i64.wrap (E + L) = E + L) := Lib.hid (IntWalk.i64_in _ (by omega))
  have HX2 : Hid (IntKind.i64.wrap (E + L - 64) = x) := Lib.hid (by rw [hx]; exact IntWalk.i64_in _ (by omega))
  obtain ⟨v, hv⟩ : ∃ v, L - 64 = v := ⟨_, rfl⟩
  have HV : Hid (IntKind.i64.wrap (L - 64) = v) := Lib.hid (by rw [hv]; exact IntWalk.i64_in _ (by omega))
  have HSH : Hid (a / 2 ^ v.toNat = tp a) := Lib.hid (by rw [← hv, ← hL]; exact tp_one (by omega))
  obtain ⟨T, hT⟩ : ∃ T, ((tp a : Nat) : Int) = T := ⟨_, rfl⟩; rw [hT] at hr; have HT := Lib.hid hT; have HR := Lib.hid hr
  have hT1 : 9223372036854775808 ≤ T := by omega
  have hT2 : T < 18446744073709551616 := by omega
  have HG2 := Lib.hid g2; clear hN hE ha hs hL hx hr hT hv g1 g2 hl0
  go_enter Tryz.func81, Tryz.ntmps81
  go_upto_region 1 with (fail)
  generalize hW1 : (w.alloc _).alloc _ = w1 at *; obtain ⟨X1, XR, HB⟩ := Bo.en2 hW1; replace h := h.below HB.out; clear hW1; have xX1 := X1.cell
  go_wp2_with fail
  refine (q3Make h hn HN.out HE.out).mono ?_; rintro ee w2 ⟨s1, A1, n1, c1, rfl, p1, k1, B⟩; clear xX1; replace X1 := X1.below B; replace XR := XR.below B; replace h := h.below B; replace HB := Hqb HB B; clear B
  go_upto_region 2 with (fail)
  have lX5 := Nat.le_refl (World.heap w2).size; have nX5X1 := X1.lt; have nX5XR := XR.lt; generalize hWn : w2.alloc _ = w3 at *; obtain ⟨X5, BW⟩ := Bo.nw hWn; clear hWn; replace X1 := X1.below BW; replace XR := XR.below BW; replace p1 := p1.below BW; replace HB := Hqb HB BW; clear BW; clear lX5
  obtain rfl : s1 = sg0 := p1.2.trans HSG.out
  have p2 : Nm w3 A1 n1 c1 a := HA.out ▸ p1.1
  have hbl := p2.rd.blen_le
  have hn1 : n1 ≤ 100000 := by omega
  have hpos : 0 < n1 := p2.pos.2 (by omega)
  clear p1 HSG
  have e0 : ((n1 : Int) == 0) = false := by
    have : (n1 : Int) ≠ 0 := by omega
    simpa using this
  have hbg : n1 ≤ 1099511627776 := by omega
  have f1 : (s1 != s1) = false := by cases s1 <;> rfl
  have f2 : (!s1 != s1) = true := by cases s1 <;> rfl
  have f3 : (s1 == s1) = true := by cases s1 <;> rfl
  have f4 : ((!s1) == s1) = false := by cases s1 <;> rfl
  have xX5 := X5.cell
  go_wp2_with fail
  refine (rLen p2.rd HL.out).mono ?_; rintro ee w4 ⟨rfl, B⟩; clear xX5; replace XR := XR.below B; replace X5 := X5.below B; replace p2 := p2.below B; replace HB := Hqb HB B; clear B; have xX5 := X5.cell; have hv := HV.out
  go_wp2_with fail
  refine (rShrP v p2.rd (by omega)).mono ?_; rintro ee w5 ⟨A3, n3, c3, rfl, p3, k3, B⟩; clear xX5; replace XR := XR.below B; replace X5 := X5.below B; replace p2 := p2.below B; replace HB := Hqb HB B; clear B hv; rw [HSH.out] at p3; have xX5 := X5.cell; have hx1 := HX1.out; have hx2 := HX2.out
  go_upto_region 15 with (fail)
  clear hx1 hx2; clear xX5; have p9 := p3; refine Jo.rk [0, 1, 2, 3, 4, 5, 6, 7] [some 71, some 72, some 73, some 74, some 75, some 76, some 77, some 78, none] [[], [0], [1], [], [3], [], [], [2, 4, 5, 6], []] 9 1 [Jo.qp w2.heap.size 0, Jo.qp w2.heap.size 0, Jo.qb s1, Jo.Fact.eq (.slice A3 n3 c3), Jo.Fact.eq (.int .u64 T), Jo.qi x, Jo.qb false, Jo.Fact.num r, Jo.Fact.any] (by kernel_rfl) (by kernel_rfl) (by decide) rfl ?_ ?_
  · iterate 2 (refine Jo.jm rfl ?_ ?_; rotate_left)
    refine Jo.jm rfl ?_ ?_
    · rintro wj hJ _ rfl K hK; simp only [Jo.z] at hK ⊢; have xX50 := (X5.below hJ).a 0 (.bool s1) rfl; go_simp; exact hK.out _ _ rfl (br _ _)
    refine Jo.jm rfl ?_ ?_; rotate_left
    refine Jo.jm rfl ?_ ?_
    · rintro wj hJ _ rfl K hK; simp only [Jo.z] at hK ⊢; go_simp; refine (yWord (p9.below hJ) HG2.out HT.out).mono ?_; rintro ee wk ⟨rfl, B⟩; exact hK.out _ _ rfl B
    iterate 2 (refine Jo.jm rfl ?_ ?_; rotate_left)
    refine Jo.jm rfl ?_ ?_
    · rintro wj hJ _ rfl _ rfl _ rfl _ rfl K hK; simp only [Jo.z] at hK ⊢; go_simp; refine (yFin hT1 hT2 HR.out).mono ?_; rintro ee wk ⟨K4, s4, M4, E4, rfl, q4, B⟩; exact hK.out _ _ ⟨K4, s4, M4, E4, rfl, q4⟩ B
    exact Jo.Steps.nil
    all_goals (rintro wj hJ; (repeat rintro _ rfl); intro K hK; simp only [Jo.z] at hK ⊢; go_simp; exact hK.out _ _ rfl (br _ _))
  rintro w8 hJ _ _ _ _ _ rfl _ rfl _ rfl _ rfl _ rfl _ ⟨K4, s4, M4, E4, rfl, q4⟩ -; simp only [Jo.z]; replace XR := XR.below hJ; replace X5 := X5.below hJ; replace p9 := p9.below hJ; replace HB := Hqb HB hJ; have xXR := XR.cell; have zXR0 := XR.frozen
  refine Jo.jnext (i := 8) (o := ⟨none, _, _, _, _, _⟩) (by kernel_rfl) rfl (fun K hK => ?_)
  go_simp; refine hK.out _ _ ?_; clear hK K xXR zXR0; have SX := StN.mk4 XR (.int .i64 K4) (.bool s4) (.int .u64 M4) (.int .i64 E4); refine Jo.jdone (by kernel_rfl) ?_; go_wp2; exact bodyPost_ret (by simp [results, Tryz.results81, go_sem, SX.box.cell]) rfl ⟨_, _, _, _, rfl, q4, (SX.below HB.out (by omega))⟩
theorem yround_bd {w : World} {A : Option Addr} {n c a : Nat} {s sg0 : Bool} {z e N E L x r : Int} (h : Wr w s A n c z) (hn : n ≤ 100000) (hN : (mk z e).1 = N) (hE : (mk z e).2 = E) (ha : N.natAbs = a) (hs : decide (N < 0) = sg0) (h0 : a ≠ 0) (hL : ((blen a : Nat) : Int) = L) (hl : 64 < L) (hx : E + L - 64 = x) (hb : L ≤ 3200000) (hc : tp a + 1 < 2 ^ 64) (hr : fin sg0 ((tp a + 1 : Nat) : Int) x true = r) :
    Calls Tryz.prog 81 #[.agg #[.bool s, .slice A n c, .int .i64 e], .bool (!sg0)] w (PN w r) := by
  obtain ⟨b1, b2⟩ := mk_bd z e; rw [hE] at b1 b2; have HN := Lib.hid hN; have HE := Lib.hid hE; have HA := Lib.hid ha; have HSG := Lib.hid hs; have HL := Lib.hid hL
  have hl0 : blen a ≠ 0 := fun e => h0 (blen_eq_zero.1 e)
  have g1 := tp_ge h0; have g2 := tp_lt a
  have HX1 : Hid (IntKind.i64.wrap (E + L) = E + L) := Lib.hid (IntWalk.i64_in _ (by omega))
  have HX2 : Hid (IntKind.i64.wrap (E + L - 64) = x) := Lib.hid (by rw [hx]; exact IntWalk.i64_in _ (by omega))
  obtain ⟨v, hv⟩ : ∃ v, L - 64 = v := ⟨_, rfl⟩
  have HV : Hid (IntKind.i64.wrap (L - 64) = v) := Lib.hid (by rw [hv]; exact IntWalk.i64_in _ (by omega))
  have HSH : Hid (a / 2 ^ v.toNat = tp a) := Lib.hid (by rw [← hv, ← hL]; exact tp_one (by omega))
  obtain ⟨U, hU⟩ : ∃ U, tp a + 1 = U := ⟨_, rfl⟩; have HU := Lib.hid hU; rw [hU] at hr hc; obtain ⟨T, hT⟩ : ∃ T, ((U : Nat) : Int) = T := ⟨_, rfl⟩; rw [hT] at hr; have HT := Lib.hid hT; have HR := Lib.hid hr
  have hT1 : 9223372036854775808 ≤ T := by omega
  have hT2 : T < 18446744073709551616 := by omega
  have HG2 := Lib.hid hc; obtain ⟨ℓ, hℓ⟩ : ∃ ℓ, ((blen U : Nat) : Int) = ℓ := ⟨_, rfl⟩
  have hℓ2 : ℓ ≤ 64 := by
    have := blen_mono_le hc
    omega
  have HLU := Lib.hid hℓ; clear hN hE ha hs hL hx hr hT hv g1 g2 hl0 hc hU hℓ
  go_enter Tryz.func81, Tryz.ntmps81
  go_upto_region 1 with (fail)
  generalize hW1 : (w.alloc _).alloc _ = w1 at *; obtain ⟨X1, XR, HB⟩ := Bo.en2 hW1; replace h := h.below HB.out; clear hW1; have xX1 := X1.cell
  go_wp2_with fail
  refine (q3Make h hn HN.out HE.out).mono ?_; rintro ee w2 ⟨s1, A1, n1, c1, rfl, p1, k1, B⟩; clear xX1; replace X1 := X1.below B; replace XR := XR.below B; replace h := h.below B; replace HB := Hqb HB B; clear B
  go_upto_region 2 with (fail)
  have lX5 := Nat.le_refl (World.heap w2).size; have nX5X1 := X1.lt; have nX5XR := XR.lt; generalize hWn : w2.alloc _ = w3 at *; obtain ⟨X5, BW⟩ := Bo.nw hWn; clear hWn; replace X1 := X1.below BW; replace XR := XR.below BW; replace p1 := p1.below BW; replace HB := Hqb HB BW; clear BW; clear lX5
  obtain rfl : s1 = sg0 := p1.2.trans HSG.out
  have p2 : Nm w3 A1 n1 c1 a := HA.out ▸ p1.1
  have hbl := p2.rd.blen_le
  have hn1 : n1 ≤ 100000 := by omega
  have hpos : 0 < n1 := p2.pos.2 (by omega)
  clear p1 HSG
  have e0 : ((n1 : Int) == 0) = false := by
    have : (n1 : Int) ≠ 0 := by omega
    simpa using this
  have hbg : n1 ≤ 1099511627776 := by omega
  have f1 : (s1 != s1) = false := by cases s1 <;> rfl
  have f2 : (!s1 != s1) = true := by cases s1 <;> rfl
  have f3 : (s1 == s1) = true := by cases s1 <;> rfl
  have f4 : ((!s1) == s1) = false := by cases s1 <;> rfl
  have xX5 := X5.cell
  go_wp2_with fail
  refine (rLen p2.rd HL.out).mono ?_; rintro ee w4 ⟨rfl, B⟩; clear xX5; replace XR := XR.below B; replace X5 := X5.below B; replace p2 := p2.below B; replace HB := Hqb HB B; clear B; have xX5 := X5.cell; have hv := HV.out
  go_wp2_with fail
  refine (rShrP v p2.rd (by omega)).mono ?_; rintro ee w5 ⟨A3, n3, c3, rfl, p3, k3, B⟩; clear xX5; replace XR := XR.below B; replace X5 := X5.below B; replace p2 := p2.below B; replace HB := Hqb HB B; clear B hv; rw [HSH.out] at p3; have xX5 := X5.cell; have hx1 := HX1.out; have hx2 := HX2.out
  go_wp2_with fail
  clear hx1 hx2; refine (rAddE (p3.rd.below (bel1 _ _)) (one_rd _) (by omega) (by omega) HU.out).mono ?_; rintro ee w6 ⟨A4, n4, c4, rfl, p4, k4, B⟩; replace B := bt (bel1 _ _) B; clear xX5; replace XR := XR.below B; replace X5 := X5.below B; replace p3 := p3.below B; replace HB := Hqb HB B; clear B
  have hn3 : n3 ≤ 100000 := by omega
  go_wp2_with fail
  refine (rLen p4.rd HLU.out).mono ?_; rintro ee w7 ⟨rfl, B⟩; replace XR := XR.below B; replace X5 := X5.below B; replace p4 := p4.below B; replace HB := Hqb HB B; clear B
  go_upto_region 15 with (fail)
  have p9 := p4; refine Jo.rk [0, 1, 2, 3, 4, 5, 6, 7] [some 71, some 72, some 73, some 74, some 75, some 76, some 77, some 78, none] [[], [0], [1], [], [3], [], [], [2, 4, 5, 6], []] 9 1 [Jo.qp w2.heap.size 0, Jo.qp w2.heap.size 0, Jo.qb s1, Jo.Fact.eq (.slice A4 n4 c4), Jo.Fact.eq (.int .u64 T), Jo.qi x, Jo.qb true, Jo.Fact.num r, Jo.Fact.any] (by kernel_rfl) (by kernel_rfl) (by decide) rfl ?_ ?_
  · iterate 2 (refine Jo.jm rfl ?_ ?_; rotate_left)
    refine Jo.jm rfl ?_ ?_
    · rintro wj hJ _ rfl K hK; simp only [Jo.z] at hK ⊢; have xX50 := (X5.below hJ).a 0 (.bool s1) rfl; go_simp; exact hK.out _ _ rfl (br _ _)
    refine Jo.jm rfl ?_ ?_; rotate_left
    refine Jo.jm rfl ?_ ?_
    · rintro wj hJ _ rfl K hK; simp only [Jo.z] at hK ⊢; go_simp; refine (yWord (p9.below hJ) HG2.out HT.out).mono ?_; rintro ee wk ⟨rfl, B⟩; exact hK.out _ _ rfl B
    iterate 2 (refine Jo.jm rfl ?_ ?_; rotate_left)
    refine Jo.jm rfl ?_ ?_
    · rintro wj hJ _ rfl _ rfl _ rfl _ rfl K hK; simp only [Jo.z] at hK ⊢; go_simp; refine (yFin hT1 hT2 HR.out).mono ?_; rintro ee wk ⟨K4, s4, M4, E4, rfl, q4, B⟩; exact hK.out _ _ ⟨K4, s4, M4, E4, rfl, q4⟩ B
    exact Jo.Steps.nil
    all_goals (rintro wj hJ; (repeat rintro _ rfl); intro K hK; simp only [Jo.z] at hK ⊢; go_simp; exact hK.out _ _ rfl (br _ _))
  rintro w8 hJ _ _ _ _ _ rfl _ rfl _ rfl _ rfl _ rfl _ ⟨K4, s4, M4, E4, rfl, q4⟩ -; simp only [Jo.z]; replace XR := XR.below hJ; replace X5 := X5.below hJ; replace p9 := p9.below hJ; replace HB := Hqb HB hJ; have xXR := XR.cell; have zXR0 := XR.frozen
  refine Jo.jnext (i := 8) (o := ⟨none, _, _, _, _, _⟩) (by kernel_rfl) rfl (fun K hK => ?_)
  go_simp; refine hK.out _ _ ?_; clear hK K xXR zXR0; have SX := StN.mk4 XR (.int .i64 K4) (.bool s4) (.int .u64 M4) (.int .i64 E4); refine Jo.jdone (by kernel_rfl) ?_; go_wp2; exact bodyPost_ret (by simp [results, Tryz.results81, go_sem, SX.box.cell]) rfl ⟨_, _, _, _, rfl, q4, (SX.below HB.out (by omega))⟩
theorem yround_bc {w : World} {A : Option Addr} {n c a : Nat} {s sg0 : Bool} {z e N E L x r : Int} (h : Wr w s A n c z) (hn : n ≤ 100000) (hN : (mk z e).1 = N) (hE : (mk z e).2 = E) (ha : N.natAbs = a) (hs : decide (N < 0) = sg0) (h0 : a ≠ 0) (hL : ((blen a : Nat) : Int) = L) (hl : 64 < L) (hx : E + L - 64 = x) (hb : L ≤ 3200000) (hc : tp a + 1 = 2 ^ 64) (hr : fin sg0 9223372036854775808 (x + 1) true = r) :
    Calls Tryz.prog 81 #[.agg #[.bool s, .slice A n c, .int .i64 e], .bool (!sg0)] w (PN w r) := by
  obtain ⟨b1, b2⟩ := mk_bd z e; rw [hE] at b1 b2; have HN := Lib.hid hN; have HE := Lib.hid hE; have HA := Lib.hid ha; have HSG := Lib.hid hs; have HL := Lib.hid hL
  have hl0 : blen a ≠ 0 := fun e => h0 (blen_eq_zero.1 e)
  have g1 := tp_ge h0; have g2 := tp_lt a
  have HX1 : Hid (IntKind.i64.wrap (E + L) = E + L) := Lib.hid (IntWalk.i64_in _ (by omega))
  have HX2 : Hid (IntKind.i64.wrap (E + L - 64) = x) := Lib.hid (by rw [hx]; exact IntWalk.i64_in _ (by omega))
  obtain ⟨v, hv⟩ : ∃ v, L - 64 = v := ⟨_, rfl⟩
  have HV : Hid (IntKind.i64.wrap (L - 64) = v) := Lib.hid (by rw [hv]; exact IntWalk.i64_in _ (by omega))
  have HSH : Hid (a / 2 ^ v.toNat = tp a) := Lib.hid (by rw [← hv, ← hL]; exact tp_one (by omega))
  obtain ⟨U, hU⟩ : ∃ U, tp a + 1 = U := ⟨_, rfl⟩; have HU := Lib.hid hU; rw [hU] at hc; have HR := Lib.hid hr
  have hT1 : (9223372036854775808 : Int) ≤ 9223372036854775808 := by decide
  have hT2 : (9223372036854775808 : Int) < 18446744073709551616 := by decide
  have hc2 : U = 18446744073709551616 := hc
  have HG2 : Hid (9223372036854775808 < 18446744073709551616) := Lib.hid (by decide)
  have HW3 : Hid (IntKind.i64.wrap (x + 1) = x + 1) := Lib.hid (IntWalk.i64_in _ (by omega))
  have HLU : Hid (((blen U : Nat) : Int) = 65) := Lib.hid (by rw [hc, blen_pow]; rfl)
  have HDV : Hid (U / 2 ^ (1 : Int).toNat = 9223372036854775808) := Lib.hid (by rw [hc2]; decide)
  clear hN hE ha hs hL hx hr hv g1 g2 hl0 hc hU hc2
  go_enter Tryz.func81, Tryz.ntmps81
  go_upto_region 1 with (fail)
  generalize hW1 : (w.alloc _).alloc _ = w1 at *; obtain ⟨X1, XR, HB⟩ := Bo.en2 hW1; replace h := h.below HB.out; clear hW1; have xX1 := X1.cell
  go_wp2_with fail
  refine (q3Make h hn HN.out HE.out).mono ?_; rintro ee w2 ⟨s1, A1, n1, c1, rfl, p1, k1, B⟩; clear xX1; replace X1 := X1.below B; replace XR := XR.below B; replace h := h.below B; replace HB := Hqb HB B; clear B
  go_upto_region 2 with (fail)
  have lX5 := Nat.le_refl (World.heap w2).size; have nX5X1 := X1.lt; have nX5XR := XR.lt; generalize hWn : w2.alloc _ = w3 at *; obtain ⟨X5, BW⟩ := Bo.nw hWn; clear hWn; replace X1 := X1.below BW; replace XR := XR.below BW; replace p1 := p1.below BW; replace HB := Hqb HB BW; clear BW; clear lX5
  obtain rfl : s1 = sg0 := p1.2.trans HSG.out
  have p2 : Nm w3 A1 n1 c1 a := HA.out ▸ p1.1
  have hbl := p2.rd.blen_le
  have hn1 : n1 ≤ 100000 := by omega
  have hpos : 0 < n1 := p2.pos.2 (by omega)
  clear p1 HSG
  have e0 : ((n1 : Int) == 0) = false := by
    have : (n1 : Int) ≠ 0 := by omega
    simpa using this
  have hbg : n1 ≤ 1099511627776 := by omega
  have f1 : (s1 != s1) = false := by cases s1 <;> rfl
  have f2 : (!s1 != s1) = true := by cases s1 <;> rfl
  have f3 : (s1 == s1) = true := by cases s1 <;> rfl
  have f4 : ((!s1) == s1) = false := by cases s1 <;> rfl
  have xX5 := X5.cell
  go_wp2_with fail
  refine (rLen p2.rd HL.out).mono ?_; rintro ee w4 ⟨rfl, B⟩; clear xX5; replace XR := XR.below B; replace X5 := X5.below B; replace p2 := p2.below B; replace HB := Hqb HB B; clear B; have xX5 := X5.cell; have hv := HV.out
  go_wp2_with fail
  refine (rShrP v p2.rd (by omega)).mono ?_; rintro ee w5 ⟨A3, n3, c3, rfl, p3, k3, B⟩; clear xX5; replace XR := XR.below B; replace X5 := X5.below B; replace p2 := p2.below B; replace HB := Hqb HB B; clear B hv; rw [HSH.out] at p3; have xX5 := X5.cell; have hx1 := HX1.out; have hx2 := HX2.out
  go_wp2_with fail
  clear hx1 hx2; refine (rAddE (p3.rd.below (bel1 _ _)) (one_rd _) (by omega) (by omega) HU.out).mono ?_; rintro ee w6 ⟨A4, n4, c4, rfl, p4, k4, B⟩; replace B := bt (bel1 _ _) B; clear xX5; replace XR := XR.below B; replace X5 := X5.below B; replace p3 := p3.below B; replace HB := Hqb HB B; clear B
  have hn3 : n3 ≤ 100000 := by omega
  go_wp2_with fail
  refine (rLen p4.rd HLU.out).mono ?_; rintro ee w7 ⟨rfl, B⟩; replace XR := XR.below B; replace X5 := X5.below B; replace p4 := p4.below B; replace HB := Hqb HB B; clear B
  go_wp2_with fail
  refine (rShrP 1 p4.rd (by omega)).mono ?_; rintro ee w71 ⟨A5, n5, c5, rfl, p5, k5, B⟩; replace XR := XR.below B; replace X5 := X5.below B; replace p4 := p4.below B; replace HB := Hqb HB B; clear B; rw [HDV.out] at p5; have hw3 := HW3.out
  go_upto_region 15 with (fail)
  clear hw3; have p9 := p5; refine Jo.rk [0, 1, 2, 3, 4, 5, 6, 7] [some 71, some 72, some 73, some 74, some 75, some 76, some 77, some 78, none] [[], [0], [1], [], [3], [], [], [2, 4, 5, 6], []] 9 1 [Jo.qp w2.heap.size 0, Jo.qp w2.heap.size 0, Jo.qb s1, Jo.Fact.eq (.slice A5 n5 c5), Jo.Fact.eq (.int .u64 9223372036854775808), Jo.Fact.eq (.int .i64 (x + 1)), Jo.qb true, Jo.Fact.num r, Jo.Fact.any] (by kernel_rfl) (by kernel_rfl) (by decide) rfl ?_ ?_
  · iterate 2 (refine Jo.jm rfl ?_ ?_; rotate_left)
    refine Jo.jm rfl ?_ ?_
    · rintro wj hJ _ rfl K hK; simp only [Jo.z] at hK ⊢; have xX50 := (X5.below hJ).a 0 (.bool s1) rfl; go_simp; exact hK.out _ _ rfl (br _ _)
    refine Jo.jm rfl ?_ ?_; rotate_left
    refine Jo.jm rfl ?_ ?_
    · rintro wj hJ _ rfl K hK; simp only [Jo.z] at hK ⊢; go_simp; refine (yWord (p9.below hJ) HG2.out rfl).mono ?_; rintro ee wk ⟨rfl, B⟩; exact hK.out _ _ rfl B
    iterate 2 (refine Jo.jm rfl ?_ ?_; rotate_left)
    refine Jo.jm rfl ?_ ?_
    · rintro wj hJ _ rfl _ rfl _ rfl _ rfl K hK; simp only [Jo.z] at hK ⊢; go_simp; refine (yFin hT1 hT2 HR.out).mono ?_; rintro ee wk ⟨K4, s4, M4, E4, rfl, q4, B⟩; exact hK.out _ _ ⟨K4, s4, M4, E4, rfl, q4⟩ B
    exact Jo.Steps.nil
    all_goals (rintro wj hJ; (repeat rintro _ rfl); intro K hK; simp only [Jo.z] at hK ⊢; go_simp; exact hK.out _ _ rfl (br _ _))
  rintro w8 hJ _ _ _ _ _ rfl _ rfl _ rfl _ rfl _ rfl _ ⟨K4, s4, M4, E4, rfl, q4⟩ -; simp only [Jo.z]; replace XR := XR.below hJ; replace X5 := X5.below hJ; replace p9 := p9.below hJ; replace HB := Hqb HB hJ; have xXR := XR.cell; have zXR0 := XR.frozen
  refine Jo.jnext (i := 8) (o := ⟨none, _, _, _, _, _⟩) (by kernel_rfl) rfl (fun K hK => ?_)
  go_simp; refine hK.out _ _ ?_; clear hK K xXR zXR0; have SX := StN.mk4 XR (.int .i64 K4) (.bool s4) (.int .u64 M4) (.int .i64 E4); refine Jo.jdone (by kernel_rfl) ?_; go_wp2; exact bodyPost_ret (by simp [results, Tryz.results81, go_sem, SX.box.cell]) rfl ⟨_, _, _, _, rfl, q4, (SX.below HB.out (by omega))⟩
theorem yRound {w : World} {A : Option Addr} {n c : Nat} {s up : Bool} {z e N E r : Int} (h : Wr w s A n c z) (hn : n ≤ 100000) (hN : (mk z e).1 = N) (hE : (mk z e).2 = E) (hr : rnd up N E = r) :
    Calls Tryz.prog 81 #[.agg #[.bool s, .slice A n c, .int .i64 e], .bool up] w (PN w r) := by
  obtain ⟨σ, hσ⟩ : ∃ σ, decide (N < 0) = σ := ⟨_, rfl⟩
  have hbl : blen N.natAbs ≤ 3200000 := by
    have hb := h.rd.blen_le
    have : blen N.natAbs ≤ blen z.natAbs := by
      rcases mk_cases z e with h0 | ⟨h0, h1, h2, h3, h4, h5, h6⟩
      · rw [h0] at hN; rw [← hN]; exact Nat.zero_le _
      · rw [hN] at h6 h4; rw [h6, natAbs_mul_pow, blen_mul (by omega)]
        omega
    omega
  by_cases h0 : N.natAbs = 0
  · have hN0 : N = 0 := by omega
    have : r = 0 := by
      rw [← hr, hN0, rnd_ext rfl]
      rfl
    rw [this]; exact yround_zero h hn hN hE rfl hσ h0
  · by_cases hs : σ = up
    · subst hs; rw [rnd_same hσ.symm rfl, ← fin_nc σ h0] at hr
      by_cases hl : blen N.natAbs ≤ 64
      · exact yround_ss h hn hN hE rfl hσ h0 rfl (by omega) rfl (by omega) hr
      · exact yround_bs h hn hN hE rfl hσ h0 rfl (by omega) rfl (by omega) hr
    · obtain rfl : (!σ) = up := by cases σ <;> cases up <;> first | rfl | exact absurd rfl hs
      rw [rnd_diff hσ.symm] at hr
      by_cases hl : blen N.natAbs ≤ 64
      · rw [← fin_small σ h0 hl] at hr; exact yround_sd h hn hN hE rfl hσ h0 rfl (by omega) rfl (by omega) hr
      · have g := tp_lt N.natAbs
        by_cases hc : tp N.natAbs + 1 < 2 ^ 64
        · rw [← fin_up σ (by omega) hc] at hr; exact yround_bd h hn hN hE rfl hσ h0 rfl (by omega) rfl (by omega) hc hr
        · rw [← fin_carry σ (by omega) (by omega)] at hr; exact yround_bc h hn hN hE rfl hσ h0 rfl (by omega) rfl (by omega) (by omega) hr
end Go.Proofs.YtpnmphofengoeaaGreatDoor
