/-
  Contracts and words that the statement's proof rests on: Hc, Hd, He, Hf.
-/
import Derived.Laws.Bits64b
import Derived.Laws.Externs
import Derived.Lib.Mul64
import Derived.Lib.TrailingZeros
import Derived.Test.YtpnmphofengoeaaGreatDoorYPaq
namespace Go.Proofs.YtpnmphofengoeaaGreatDoor
open Go.RowKit
set_option linter.unusedVariables false
set_option maxRecDepth 100000

def tz8 : List Int := [0, 1, 56, 2, 57, 49, 28, 3, 61, 58, 42, 50, 38, 29, 17, 4, 62, 47, 59, 36, 45, 43, 51, 22, 53, 39, 33, 30, 24, 18, 12, 5, 63, 55, 48, 27, 60, 41, 37, 16, 46, 35, 44, 21, 52, 32, 23, 11, 54, 26, 40, 15, 34, 20, 31, 10, 25, 14, 19, 9, 13, 8, 7, 6]
def Tb (w : World) : Prop := ∀ i, i < 64 → w.cell? ⟨0, i, none⟩ = some (.int .u8 (tz8.getD i 0))
section
variable {w w' : World}
theorem Tb.lt (h : Tb w) : 0 < w.heap.size := World.block_lt_of_cell? w _ (h 0 (by decide))
theorem Tb.keep (h : Tb w) (hk : w'.heap[0]? = w.heap[0]?) : Tb w' := fun i hi => by
  rw [← h i hi]; simp only [World.cell?, hk]
theorem Tb.below (h : Tb w) (hb : Below w.heap.size w w') : Tb w' := h.keep (hb.block _ h.lt)
theorem Tb.ne {g : Nat} {cs : Array Value} {T : TypeId} (h : Tb w) (X : Bo w g cs T) (hn : cs.all no8 = true) : 0 ≠ g := fun e => by
  have h0 := h 0 (by decide); subst e; rw [X.cell] at h0; rw [Array.all_eq_true] at hn; obtain ⟨hlt, he⟩ := Array.getElem?_eq_some_iff.1 h0
  have := hn 0 hlt
  rw [he] at this
  cases this
theorem Tb.stn {g : Nat} {old new : Array Value} {T : TypeId} (h : Tb w) (S : StN w w' g old new T) (hn : old.all no8 = true) : Tb w' := h.keep (S.2.2.1 _ (h.ne S.1 hn))
theorem Tb.off {g : Nat} {old new : Array Value} {R : TypeId} (h : Tb w) (X : Bo w g old R) (hn : old.all no8 = true) (O : Jo.Off g new R w w') : Tb w' := h.keep (O.block _ h.lt (h.ne X hn))
end
theorem tz8_at : ∀ k : Nat, k < 64 → (2 ^ k * 285870213051353865 % 18446744073709551616 / 288230376151711744) < 64 ∧ tz8.getD (2 ^ k * 285870213051353865 % 18446744073709551616 / 288230376151711744) 0 = (k : Int) := by decide +kernel
theorem tz64_key (x a : Nat) (hx : x < 18446744073709551616) (hx0 : x ≠ 0) (hlow : x &&& (18446744073709551616 - x) = a) :
    IntKind.u64.wrap (bits BinOp.and IntKind.u64 (x : Int) (IntKind.u64.wrap (-(x : Int))) * 285870213051353865) / 288230376151711744 = ((a * 285870213051353865 % 18446744073709551616 / 288230376151711744 : Nat) : Int) := by
  have e1 : IntKind.u64.wrap (-(x : Int)) = ((18446744073709551616 - x : Nat) : Int) := by rw [IntKind.wrap_u64]; omega
  rw [e1, bits_and_u64_nat x _ hx (by omega), hlow, IntKind.wrap_u64]
  omega
set_option maxHeartbeats 1000000 in
theorem tz64_core (x k idx : Nat) (w : World) (hx0 : ((x : Int) == 0) = false)
    (key : IntKind.u64.wrap (bits BinOp.and IntKind.u64 (x : Int) (IntKind.u64.wrap (-(x : Int))) * 285870213051353865) / 288230376151711744 = (idx : Int))
    (hi : idx < 64) (hk : k < 64) (hcell : w.cell? ⟨0, idx, none⟩ = some (.int .u8 (k : Int))) :
    Calls Tryz.prog 112 #[.int .u64 (x : Int)] w fun e w' => e = .returned (.int .i64 (k : Int)) ∧ w' = w := by
  go_enter Tryz.func112, Tryz.ntmps112
  go_wp2_with (simp only [key])
  go_ret
  exact ⟨rfl, rfl⟩
theorem aTz {w : World} {x : Nat} {X r : Int} (hT : Tb w) (h0 : x ≠ 0) (hx : x < 18446744073709551616) (hX : (x : Int) = X) (hr : ((Lib.ctz 64 x : Nat) : Int) = r) : Calls Tryz.prog 112 #[.int .u64 X] w (PI w r) := by
  subst hX; subst hr; obtain ⟨hlow, hk⟩ := Lib.lowest_bit 64 x h0 hx; obtain ⟨hi, htab⟩ := tz8_at _ hk; have hcell := hT _ hi; rw [htab] at hcell; refine (tz64_core x _ _ w (by simp; omega) (tz64_key x _ hx h0 hlow) hi hk hcell).mono ?_; rintro e w' ⟨rfl, rfl⟩; exact ⟨rfl, Below.refl _ _⟩
theorem ctz_dvd {x n : Nat} (h0 : x ≠ 0) (hx : x < 18446744073709551616) : n ≤ Lib.ctz 64 x ↔ x % 2 ^ n = 0 := by
  obtain ⟨m, hm, hk⟩ := Lib.ctzFrom_spec 64 x (by omega) hx
  have e : Lib.ctz 64 x = Lib.ctzFrom 64 x := by simp [Lib.ctz, h0]
  rw [e]
  revert hm hk
  generalize Lib.ctzFrom 64 x = k
  intro hm hk
  constructor
  · intro h
    rw [hm, show 2 ^ k = 2 ^ n * 2 ^ (k - n) by rw [← Nat.pow_add]; congr 1; omega, Nat.mul_assoc]
    exact Nat.mul_mod_right _ _
  · intro h
    rcases Nat.lt_or_ge k n with c | c
    · exfalso
      obtain ⟨q, hq⟩ := Nat.dvd_of_mod_eq_zero h
      rw [hm, show 2 ^ n = 2 ^ k * (2 * 2 ^ (n - k - 1)) by rw [← Nat.pow_succ', ← Nat.pow_add]; congr 1; omega, Nat.mul_assoc] at hq
      have := Nat.eq_of_mul_eq_mul_left (Nat.pow_pos (by decide)) hq
      rw [Nat.mul_assoc] at this
      omega
    · exact c
def subEntry : Array Value → Sem Value := fun args => do
  let (x, y, b) ← Extern.MathBitsCarry.three "Sub64" args
  pure (Extern.MathBitsCarry.pair ((x + Extern.MathBitsCarry.m64 - y - b) % Extern.MathBitsCarry.m64) (if x < y + b then 1 else 0))
theorem run_subEntry {P : Program} (x y b : Nat) (hb : b ≤ 1) (w : World) :
    (subEntry #[.int .u64 x, .int .u64 y, .int .u64 b]).run P w =
      .ok (.tuple #[.int .u64 (((x + 18446744073709551616 - y - b) % 18446744073709551616 : Nat) : Int), .int .u64 ((if x < y + b then 1 else 0 : Nat) : Int)]) w := by
  have : b = 0 ∨ b = 1 := by omega
  rcases this with rfl | rfl <;> rfl
theorem aAdd64 {X Y C S D : Int} (w : World) (hX : 0 ≤ X) (hY : 0 ≤ Y) (hC : 0 ≤ C) (hC1 : C ≤ 1) (hS : (X + Y + C) % 18446744073709551616 = S) (hD : (X + Y + C) / 18446744073709551616 = D) :
    (callFunc 101 #[.int .u64 X, .int .u64 Y, .int .u64 C]).run Tryz.prog w = .ok (.value (.tuple #[.int .u64 S, .int .u64 D])) w := by
  rw [run_callFunc_extern Tryz.func101 (by kernel_rfl) (by kernel_rfl) (by kernel_rfl) (e := add64Entry) (by kernel_rfl), run_add64 X Y C hX hY hC hC1, hS, hD]
  rfl
theorem aSub64 {X Y C S D : Int} (w : World) (hX : 0 ≤ X) (hX1 : X < 18446744073709551616) (hY : 0 ≤ Y) (hY1 : Y < 18446744073709551616) (hC : 0 ≤ C) (hC1 : C ≤ 1) (hS : (X - Y - C) % 18446744073709551616 = S) (hD : (if X < Y + C then 1 else 0) = D) :
    (callFunc 102 #[.int .u64 X, .int .u64 Y, .int .u64 C]).run Tryz.prog w = .ok (.value (.tuple #[.int .u64 S, .int .u64 D])) w := by
  obtain ⟨x, rfl⟩ := Int.eq_ofNat_of_zero_le hX; obtain ⟨y, rfl⟩ := Int.eq_ofNat_of_zero_le hY; obtain ⟨c, rfl⟩ := Int.eq_ofNat_of_zero_le hC
  have e1 : (((x + 18446744073709551616 - y - c) % 18446744073709551616 : Nat) : Int) = S := by omega
  have e2 : ((if x < y + c then 1 else 0 : Nat) : Int) = D := by
    rw [← hD]
    by_cases q : x < y + c
    · rw [if_pos q, if_pos (by omega)]; rfl
    · rw [if_neg q, if_neg (by omega)]; rfl
  rw [run_callFunc_extern Tryz.func102 (by kernel_rfl) (by kernel_rfl) (by kernel_rfl) (e := subEntry) (by kernel_rfl), run_subEntry x y c (by omega), e1, e2]
  rfl

namespace M6
theorem maskN (a : Nat) (ha : a < 18446744073709551616) : bits .and .u64 (a : Int) 4294967295 = ((a % 4294967296 : Nat) : Int) := by
  have h := bits_and_u64_nat a 4294967295 ha (by omega)
  have e : a &&& 4294967295 = a % 4294967296 := Nat.and_two_pow_sub_one_eq_mod a 32
  rw [e] at h; exact h
theorem divN (a : Nat) : (a : Int) / 4294967296 = ((a / 4294967296 : Nat) : Int) := by omega
theorem mulN (a b : Nat) : (a : Int) * (b : Int) = ((a * b : Nat) : Int) := (Int.natCast_mul a b).symm
theorem addN (a b : Nat) : (a : Int) + (b : Int) = ((a + b : Nat) : Int) := (Int.natCast_add a b).symm
theorem wrapN (a : Nat) (ha : a < 18446744073709551616) : IntKind.u64.wrap (a : Int) = (a : Int) := by rw [IntKind.wrap_u64]; omega
theorem wrapM (a : Nat) : IntKind.u64.wrap (a : Int) = ((a % 18446744073709551616 : Nat) : Int) := by rw [IntKind.wrap_u64]; omega
end M6
set_option maxHeartbeats 1000000 in
theorem aMul64_nat (x y : Nat) (hx : x < 18446744073709551616) (hy : y < 18446744073709551616) (w : World) :
    Calls Tryz.prog 77 #[.int .u64 (x : Int), .int .u64 (y : Int)] w fun e w' => e = .returned (.tuple #[.int .u64 ((x * y / 18446744073709551616 : Nat) : Int), .int .u64 ((x * y % 18446744073709551616 : Nat) : Int)]) ∧ w' = w := by
  obtain ⟨bd, bt, bw, hhi⟩ := Lib.mul64_hi x y hx hy; have ba := Lib.half_mul_le (a := x / 4294967296) (b := y / 4294967296) (by omega) (by omega); have bb := Lib.half_mul_le (a := x / 4294967296) (b := y % 4294967296) (by omega) (by omega); have bc := Lib.half_mul_le (a := x % 4294967296) (b := y / 4294967296) (by omega) (by omega)
  have ba' : x / 4294967296 * (y / 4294967296) < 18446744073709551616 := by omega
  have bb' : x / 4294967296 * (y % 4294967296) < 18446744073709551616 := by omega
  have bc' : x % 4294967296 * (y / 4294967296) < 18446744073709551616 := by omega
  have bh1 : x / 4294967296 * (y / 4294967296) + (x / 4294967296 * (y % 4294967296) + x % 4294967296 * (y % 4294967296) / 4294967296) / 4294967296 < 18446744073709551616 := by omega
  have bh : x / 4294967296 * (y / 4294967296) + (x / 4294967296 * (y % 4294967296) + x % 4294967296 * (y % 4294967296) / 4294967296) / 4294967296 + ((x / 4294967296 * (y % 4294967296) + x % 4294967296 * (y % 4294967296) / 4294967296) % 4294967296 + x % 4294967296 * (y / 4294967296)) / 4294967296 < 18446744073709551616 := by omega
  go_enter Tryz.func77, Tryz.ntmps77
  go_wp2; simp only [M6.maskN x hx, M6.maskN y hy, M6.divN, M6.mulN, M6.addN, M6.wrapN _ bd, M6.wrapN _ bb', M6.wrapN _ bt, M6.maskN _ bt, M6.wrapN _ bc', M6.wrapN _ bw, M6.wrapN _ ba', M6.wrapN _ bh1, M6.wrapN _ bh, M6.wrapM (x * y)]; rw [hhi]
  go_ret2
  exact ⟨rfl, rfl⟩
theorem aMul64 {X Y H L : Int} (w : World) (hX : 0 ≤ X) (hX1 : X < 18446744073709551616) (hY : 0 ≤ Y) (hY1 : Y < 18446744073709551616) (hH : X * Y / 18446744073709551616 = H) (hL : X * Y % 18446744073709551616 = L) :
    Calls Tryz.prog 77 #[.int .u64 X, .int .u64 Y] w fun e w' => e = .returned (.tuple #[.int .u64 H, .int .u64 L]) ∧ Below w.heap.size w w' := by
  obtain ⟨x, rfl⟩ := Int.eq_ofNat_of_zero_le hX; obtain ⟨y, rfl⟩ := Int.eq_ofNat_of_zero_le hY; refine (aMul64_nat x y (by omega) (by omega) w).mono ?_; rintro e w' ⟨rfl, rfl⟩; refine ⟨?_, Below.refl _ _⟩
  have e0 : ((x : Int)) * (y : Int) = ((x * y : Nat) : Int) := (Int.natCast_mul x y).symm
  have e1 : ((x * y / 18446744073709551616 : Nat) : Int) = H := by
    rw [← hH]
    show _ = ((x : Int)) * (y : Int) / 18446744073709551616
    rw [e0]; generalize x * y = z
    omega
  have e2 : ((x * y % 18446744073709551616 : Nat) : Int) = L := by
    rw [← hL]
    show _ = ((x : Int)) * (y : Int) % 18446744073709551616
    rw [e0]; generalize x * y = z
    omega
  rw [e1, e2]
end Go.Proofs.YtpnmphofengoeaaGreatDoor

namespace Go.Proofs.YtpnmphofengoeaaGreatDoor
set_option maxHeartbeats 4000000
open Go.RowKit
set_option linter.unusedVariables false
set_option linter.unusedSimpArgs false
set_option maxRecDepth 100000

def PRa (w : World) (s : Bool) (S : Nat) (F : Int) (e : Ending) (w' : World) : Prop := ∃ T K X, e = .returned (.agg #[.bool s, .int .u64 T, .int .u64 K, .int .i64 X]) ∧ Ra S F T K X ∧ Below w.heap.size w w'
theorem or_high {h l n b : Nat} (hn : n + b = 64) (hh : h * 2 ^ n < 18446744073709551616) (hl : l < 18446744073709551616) : bits BinOp.or IntKind.u64 ((h * 2 ^ n : Nat) : Int) ((l / 2 ^ b : Nat) : Int) = ((h * 2 ^ n + l / 2 ^ b : Nat) : Int) := by
  have hq : l / 2 ^ b < 2 ^ n := by
    rw [Nat.div_lt_iff_lt_mul (Nat.pow_pos (by decide)), ← Nat.pow_add, hn]; exact hl
  have hq2 : l / 2 ^ b < 18446744073709551616 := Nat.lt_of_le_of_lt (Nat.div_le_self _ _) hl
  rw [u64_or_nat _ _ hh hq2, ← Nat.shiftLeft_eq, Nat.shiftLeft_add_eq_or_of_lt hq]
theorem tonat_sub {a : Int} {b : Nat} (h : 64 - (b : Int) = a) (hb : b ≤ 64) : a.toNat = 64 - b ∧ (64 - a).toNat = b := by omega
theorem raised_low {w : World} {s : Bool} {l : Nat} {L e : Int} (hl : l < 18446744073709551616) (hL : (l : Int) = L) (e1 : -4000000 ≤ e) (e2 : e ≤ 4000000) : Calls Tryz.prog 113 #[.agg #[.bool s, .int .u64 0, .int .u64 L, .int .i64 e]] w (PRa w s l (e - 64)) := by
  have HRA := Lib.hid (ra_low (e := e) hl); have hb := blen_mono_le (n := l) (k := 64) hl; obtain ⟨a, ha⟩ : ∃ a, 64 - (blen l : Int) = a := ⟨_, rfl⟩; obtain ⟨T, hT⟩ : ∃ T, ((l * 2 ^ (64 - blen l) : Nat) : Int) = T := ⟨_, rfl⟩
  have HS : Hid (L * 2 ^ a.toNat = T) := Lib.hid (by
    rw [← hT, ← hL, (tonat_sub ha hb).1]
    push_cast
    rfl)
  rw [hT, ha] at HRA; have t0 := HRA.out.1; have t1 := HRA.out.2.1
  have a0 : 0 ≤ a := by omega
  have a1 : a ≤ 64 := by omega
  have HA := Lib.hid ha; have HL := Lib.hid hL
  have HW := Lib.hid (show IntKind.u64.wrap T = T from IntWalk.u64_in _ (by omega))
  have HO : Hid (bits BinOp.or IntKind.u64 T 0 = T) := Lib.hid (by
    obtain ⟨k, rfl⟩ := Int.eq_ofNat_of_zero_le t0
    have := u64_or_nat k 0 (by omega) (by decide)
    rw [Nat.or_zero] at this; exact this)
  obtain ⟨f, hf⟩ : ∃ f, e - 64 = f := ⟨_, rfl⟩; obtain ⟨X, hX⟩ : ∃ X, f - a = X := ⟨_, rfl⟩; rw [hf, hX] at HRA; rw [hf]
  have HF := Lib.hid (show IntKind.i64.wrap (e - 64) = f by rw [hf]; exact IntWalk.i64_in _ (by omega))
  have HX := Lib.hid (show IntKind.i64.wrap (f - a) = X by rw [hX]; exact IntWalk.i64_in _ (by omega))
  have HSB := Lib.hid (show IntKind.i64.wrap (64 - a) = 64 - a from IntWalk.i64_in _ (by omega))
  clear ha hL hT hf hX hb
  go_enter Tryz.func113, Tryz.ntmps113
  go_upto_region 1 with (fail)
  generalize hW1 : (w.alloc _).alloc _ = w1 at *; obtain ⟨X1, XR, HB⟩ := Bo.en2 hW1; clear hW1; have xX1 := X1.cell; have zX10 := X1.frozen
  go_upto_region 3 with (fail)
  clear xX1 zX10
  have SX : StN w1 (World.setCell w1 ⟨w.heap.size, 1, none⟩ (.int .u64 L)) _ _ #[.bool s, .int .u64 L, .int .u64 L, .int .i64 e] _ := StN.at4 X1 1 (.int .u64 L)
  replace XR := XR.stn SX (by omega); replace HB := Hqs HB SX (by omega); replace X1 := SX.box; clear SX; generalize World.setCell w1 ⟨w.heap.size, 1, none⟩ (.int .u64 L) = w2 at *
  have SX : StN w2 (World.setCell w2 ⟨w.heap.size, 2, none⟩ (.int .u64 0)) _ _ #[.bool s, .int .u64 L, .int .u64 0, .int .i64 e] _ := StN.at4 X1 2 (.int .u64 0)
  replace XR := XR.stn SX (by omega); replace HB := Hqs HB SX (by omega); replace X1 := SX.box; clear SX; generalize World.setCell w2 ⟨w.heap.size, 2, none⟩ (.int .u64 0) = w3 at *; have xX1 := X1.cell; have zX10 := X1.frozen; have hf := HF.out
  go_upto_region 4 with (fail)
  clear hf; clear xX1 zX10
  have SX : StN w3 (World.setCell w3 ⟨w.heap.size, 3, none⟩ (.int .i64 f)) _ _ #[.bool s, .int .u64 L, .int .u64 0, .int .i64 f] _ := StN.at4 X1 3 (.int .i64 f)
  replace XR := XR.stn SX (by omega); replace HB := Hqs HB SX (by omega); replace X1 := SX.box; clear SX; generalize World.setCell w3 ⟨w.heap.size, 3, none⟩ (.int .i64 f) = w4 at *; have xX1 := X1.cell
  go_wp2_with fail
  refine (lead64_any _ hl HL.out HA.out).mono ?_; rintro ee w5 ⟨rfl, B⟩; clear xX1; replace X1 := X1.below B; replace XR := XR.below B; replace HB := Hqb HB B; clear B
  go_upto_region 5 with (fail)
  refine Jo.rk [0, 1, 2, 3, 4, 5, 6, 7, 8, 9, 10] [some 18, some 19, some 20, some 21, some 22, some 23, some 24, some 25, some 26, some 27, some 28, none] [[], [0], [], [1, 2], [], [4], [], [6], [5, 7], [3, 8], [], []] 12 1 [Jo.qp w.heap.size 1, Jo.Fact.eq (.int .u64 L), Jo.qi a, Jo.Fact.eq (.int .u64 T), Jo.qp w.heap.size 2, Jo.Fact.eq (.int .u64 0), Jo.qi a, Jo.Fact.eq (.int .i64 (64 - a)), Jo.Fact.eq (.int .u64 0), Jo.Fact.eq (.int .u64 T), Jo.qp w.heap.size 1, Jo.Fact.any] (by kernel_rfl) (by kernel_rfl) (by decide) rfl ?_ ?_
  · refine Jo.jm rfl ?_ ?_; rotate_left
    refine Jo.jm rfl ?_ ?_
    · rintro wj hJ _ rfl K hK; simp only [Jo.z] at hK ⊢; have xX11 := (X1.below hJ).a 1 (.int .u64 L) rfl; go_simp; exact hK.out _ _ rfl (br _ _)
    refine Jo.jm rfl ?_ ?_; rotate_left
    refine Jo.jm rfl ?_ ?_
    · rintro wj hJ _ rfl _ rfl K hK; simp only [Jo.z] at hK ⊢; have hs := HS.out; have hw := HW.out; go_simp; exact hK.out _ _ rfl (br _ _)
    refine Jo.jm rfl ?_ ?_; rotate_left
    refine Jo.jm rfl ?_ ?_
    · rintro wj hJ _ rfl K hK; simp only [Jo.z] at hK ⊢; have xX12 := (X1.below hJ).a 2 (.int .u64 0) rfl; go_simp; exact hK.out _ _ rfl (br _ _)
    refine Jo.jm rfl ?_ ?_; rotate_left
    refine Jo.jm rfl ?_ ?_
    · rintro wj hJ _ rfl K hK; simp only [Jo.z] at hK ⊢; have hsb := HSB.out; go_simp; exact hK.out _ _ rfl (br _ _)
    refine Jo.jm rfl ?_ ?_; rotate_left
    refine Jo.jm rfl ?_ ?_
    · rintro wj hJ _ rfl _ rfl K hK; simp only [Jo.z] at hK ⊢; have ho := HO.out; go_simp; exact hK.out _ _ rfl (br _ _)
    refine Jo.jm rfl ?_ ?_; rotate_left
    exact Jo.Steps.nil
    all_goals (rintro wj hJ; (repeat rintro _ rfl); intro K hK; simp only [Jo.z] at hK ⊢; go_simp; exact hK.out _ _ rfl (br _ _))
  rintro w6 hJ _ _ _ rfl _ rfl _ rfl _ _ _ rfl _ rfl _ rfl _ rfl _ rfl _ rfl -; simp only [Jo.z]; replace X1 := X1.below hJ; replace XR := XR.below hJ; replace HB := Hqb HB hJ; have xX1 := X1.cell; have zX10 := X1.frozen
  refine Jo.jnext (i := 11) (o := ⟨none, _, _, _, _, _⟩) (by kernel_rfl) rfl (fun K hK => ?_)
  go_simp; refine hK.out _ _ ?_; clear hK K xX1 zX10
  have SX : StN w6 (World.setCell w6 ⟨w.heap.size, 1, none⟩ (.int .u64 T)) _ _ #[.bool s, .int .u64 T, .int .u64 0, .int .i64 f] _ := StN.at4 X1 1 (.int .u64 T)
  replace XR := XR.stn SX (by omega); replace HB := Hqs HB SX (by omega); replace X1 := SX.box; clear SX; generalize World.setCell w6 ⟨w.heap.size, 1, none⟩ (.int .u64 T) = w7 at *; refine Jo.jdone (by kernel_rfl) ?_; have xX1 := X1.cell; have zX10 := X1.frozen
  go_upto_region 7 with (fail)
  clear xX1 zX10
  have SX : StN w7 (World.setCell w7 ⟨w.heap.size, 2, none⟩ (.int .u64 0)) _ _ #[.bool s, .int .u64 T, .int .u64 0, .int .i64 f] _ := StN.at4 X1 2 (.int .u64 0)
  replace XR := XR.stn SX (by omega); replace HB := Hqs HB SX (by omega); replace X1 := SX.box; clear SX; generalize World.setCell w7 ⟨w.heap.size, 2, none⟩ (.int .u64 0) = w8 at *; have xX1 := X1.cell; have zX10 := X1.frozen; have hx := HX.out
  go_upto_region 8 with (fail)
  clear hx; clear xX1 zX10
  have SX : StN w8 (World.setCell w8 ⟨w.heap.size, 3, none⟩ (.int .i64 X)) _ _ #[.bool s, .int .u64 T, .int .u64 0, .int .i64 X] _ := StN.at4 X1 3 (.int .i64 X)
  replace XR := XR.stn SX (by omega); replace HB := Hqs HB SX (by omega); replace X1 := SX.box; clear SX; generalize World.setCell w8 ⟨w.heap.size, 3, none⟩ (.int .i64 X) = w9 at *; have xXR := XR.cell; have zXR0 := XR.frozen; have xX1 := X1.cell; go_wp2; clear xXR zXR0 xX1; have SX := StN.mk4 XR (.bool s) (.int .u64 T) (.int .u64 0) (.int .i64 X)
  exact bodyPost_ret (by simp [results, Tryz.results113, go_sem, SX.box.cell]) rfl ⟨_, _, _, rfl, HRA.out, (SX.below HB.out (by omega))⟩
theorem raised_high {w : World} {s : Bool} {h l : Nat} {H L e : Int} (h0 : h ≠ 0) (hh : h < 18446744073709551616) (hl : l < 18446744073709551616) (hH : (h : Int) = H) (hL : (l : Int) = L) (e1 : -4000000 ≤ e) (e2 : e ≤ 4000000) : Calls Tryz.prog 113 #[.agg #[.bool s, .int .u64 H, .int .u64 L, .int .i64 e]] w (PRa w s (h * 18446744073709551616 + l) (e - 64)) := by
  have HRA := Lib.hid (ra_high (e := e) h0 hh hl); have hb := blen_mono_le (n := h) (k := 64) hh; obtain ⟨a, ha⟩ : ∃ a, 64 - (blen h : Int) = a := ⟨_, rfl⟩; obtain ⟨u1, u2⟩ := tonat_sub ha hb; obtain ⟨R, hR⟩ : ∃ R, ((h * 2 ^ (64 - blen h) + l / 2 ^ blen h : Nat) : Int) = R := ⟨_, rfl⟩; obtain ⟨T, hT⟩ : ∃ T, ((h * 2 ^ (64 - blen h) : Nat) : Int) = T := ⟨_, rfl⟩; obtain ⟨Q, hQ⟩ : ∃ Q, ((l / 2 ^ blen h : Nat) : Int) = Q := ⟨_, rfl⟩
  obtain ⟨P, hP⟩ : ∃ P, ((l * 2 ^ (64 - blen h) : Nat) : Int) = P := ⟨_, rfl⟩; obtain ⟨C, hC⟩ : ∃ C, ((l * 2 ^ (64 - blen h) % 18446744073709551616 : Nat) : Int) = C := ⟨_, rfl⟩
  have hT64 : h * 2 ^ (64 - blen h) < 18446744073709551616 := by
    have q1 := tp_small hb; have q2 := tp_lt h; rw [q1] at q2
    omega
  have HS : Hid (H * 2 ^ a.toNat = T) := Lib.hid (by
    rw [← hT, ← hH, u1]
    push_cast
    rfl)
  have HP : Hid (L * 2 ^ a.toNat = P) := Lib.hid (by
    rw [← hP, ← hL, u1]
    push_cast
    rfl)
  have HPC : Hid (IntKind.u64.wrap P = C) := Lib.hid (by
    rw [← hP, ← hC, IntKind.wrap_u64]
    omega)
  have HQ : Hid (L / 2 ^ (64 - a).toNat = Q) := Lib.hid (by
    rw [← hQ, ← hL, u2]
    push_cast
    rfl)
  have HO : Hid (bits BinOp.or IntKind.u64 T Q = R) := Lib.hid (by
    rw [← hT, ← hQ, ← hR]; exact or_high (by omega) hT64 hl)
  rw [hR, hC, ha] at HRA
  have HW := Lib.hid (show IntKind.u64.wrap T = T from IntWalk.u64_in _ (by omega))
  have a0 : 0 ≤ a := by omega
  have a1 : a ≤ 64 := by omega
  have hHn : (H == 0) = false := by
    have : H ≠ 0 := by omega
    simpa using this
  have HA := Lib.hid ha; have HL := Lib.hid hL; have HH := Lib.hid hH; obtain ⟨X, hX⟩ : ∃ X, e - a = X := ⟨_, rfl⟩; rw [hX] at HRA
  have HX := Lib.hid (show IntKind.i64.wrap (e - a) = X by rw [hX]; exact IntWalk.i64_in _ (by omega))
  have HSB := Lib.hid (show IntKind.i64.wrap (64 - a) = 64 - a from IntWalk.i64_in _ (by omega))
  clear ha hL hH hT hR hQ hP hC hX hb u1 u2 hT64
  go_enter Tryz.func113, Tryz.ntmps113
  go_upto_region 1 with (fail)
  generalize hW1 : (w.alloc _).alloc _ = w1 at *; obtain ⟨X1, XR, HB⟩ := Bo.en2 hW1; clear hW1; have xX1 := X1.cell
  go_wp2_with fail
  refine (lead64_any _ hh HH.out HA.out).mono ?_; rintro ee w5 ⟨rfl, B⟩; clear xX1; replace X1 := X1.below B; replace XR := XR.below B; replace HB := Hqb HB B; clear B
  go_upto_region 5 with (fail)
  refine Jo.rk [0, 1, 2, 3, 4, 5, 6, 7, 8, 9, 10] [some 18, some 19, some 20, some 21, some 22, some 23, some 24, some 25, some 26, some 27, some 28, none] [[], [0], [], [1, 2], [], [4], [], [6], [5, 7], [3, 8], [], []] 12 1 [Jo.qp w.heap.size 1, Jo.Fact.eq (.int .u64 H), Jo.qi a, Jo.Fact.eq (.int .u64 T), Jo.qp w.heap.size 2, Jo.Fact.eq (.int .u64 L), Jo.qi a, Jo.Fact.eq (.int .i64 (64 - a)), Jo.Fact.eq (.int .u64 Q), Jo.Fact.eq (.int .u64 R), Jo.qp w.heap.size 1, Jo.Fact.any] (by kernel_rfl) (by kernel_rfl) (by decide) rfl ?_ ?_
  · refine Jo.jm rfl ?_ ?_; rotate_left
    refine Jo.jm rfl ?_ ?_
    · rintro wj hJ _ rfl K hK; simp only [Jo.z] at hK ⊢; have xX11 := (X1.below hJ).a 1 (.int .u64 H) rfl; go_simp; exact hK.out _ _ rfl (br _ _)
    refine Jo.jm rfl ?_ ?_; rotate_left
    refine Jo.jm rfl ?_ ?_
    · rintro wj hJ _ rfl _ rfl K hK; simp only [Jo.z] at hK ⊢; have hs := HS.out; have hw := HW.out; go_simp; exact hK.out _ _ rfl (br _ _)
    refine Jo.jm rfl ?_ ?_; rotate_left
    refine Jo.jm rfl ?_ ?_
    · rintro wj hJ _ rfl K hK; simp only [Jo.z] at hK ⊢; have xX12 := (X1.below hJ).a 2 (.int .u64 L) rfl; go_simp; exact hK.out _ _ rfl (br _ _)
    refine Jo.jm rfl ?_ ?_; rotate_left
    refine Jo.jm rfl ?_ ?_
    · rintro wj hJ _ rfl K hK; simp only [Jo.z] at hK ⊢; have hsb := HSB.out; go_simp; exact hK.out _ _ rfl (br _ _)
    refine Jo.jm rfl ?_ ?_
    · rintro wj hJ _ rfl _ rfl K hK; simp only [Jo.z] at hK ⊢; have hq := HQ.out; go_simp; exact hK.out _ _ rfl (br _ _)
    refine Jo.jm rfl ?_ ?_
    · rintro wj hJ _ rfl _ rfl K hK; simp only [Jo.z] at hK ⊢; have ho := HO.out; go_simp; exact hK.out _ _ rfl (br _ _)
    refine Jo.jm rfl ?_ ?_; rotate_left
    exact Jo.Steps.nil
    all_goals (rintro wj hJ; (repeat rintro _ rfl); intro K hK; simp only [Jo.z] at hK ⊢; go_simp; exact hK.out _ _ rfl (br _ _))
  rintro w6 hJ _ _ _ rfl _ rfl _ rfl _ _ _ rfl _ rfl _ rfl _ rfl _ rfl _ rfl -; simp only [Jo.z]; replace X1 := X1.below hJ; replace XR := XR.below hJ; replace HB := Hqb HB hJ; have xX1 := X1.cell; have zX10 := X1.frozen
  refine Jo.jnext (i := 11) (o := ⟨none, _, _, _, _, _⟩) (by kernel_rfl) rfl (fun K hK => ?_)
  go_simp; refine hK.out _ _ ?_; clear hK K xX1 zX10
  have SX : StN w6 (World.setCell w6 ⟨w.heap.size, 1, none⟩ (.int .u64 R)) _ _ #[.bool s, .int .u64 R, .int .u64 L, .int .i64 e] _ := StN.at4 X1 1 (.int .u64 R)
  replace XR := XR.stn SX (by omega); replace HB := Hqs HB SX (by omega); replace X1 := SX.box; clear SX; generalize World.setCell w6 ⟨w.heap.size, 1, none⟩ (.int .u64 R) = w7 at *; refine Jo.jdone (by kernel_rfl) ?_; have xX1 := X1.cell; have zX10 := X1.frozen; have hp := HP.out; have hpc := HPC.out
  go_upto_region 7 with (fail)
  clear hp hpc; clear xX1 zX10
  have SX : StN w7 (World.setCell w7 ⟨w.heap.size, 2, none⟩ (.int .u64 C)) _ _ #[.bool s, .int .u64 R, .int .u64 C, .int .i64 e] _ := StN.at4 X1 2 (.int .u64 C)
  replace XR := XR.stn SX (by omega); replace HB := Hqs HB SX (by omega); replace X1 := SX.box; clear SX; generalize World.setCell w7 ⟨w.heap.size, 2, none⟩ (.int .u64 C) = w8 at *; have xX1 := X1.cell; have zX10 := X1.frozen; have hx := HX.out
  go_upto_region 8 with (fail)
  clear hx; clear xX1 zX10
  have SX : StN w8 (World.setCell w8 ⟨w.heap.size, 3, none⟩ (.int .i64 X)) _ _ #[.bool s, .int .u64 R, .int .u64 C, .int .i64 X] _ := StN.at4 X1 3 (.int .i64 X)
  replace XR := XR.stn SX (by omega); replace HB := Hqs HB SX (by omega); replace X1 := SX.box; clear SX; generalize World.setCell w8 ⟨w.heap.size, 3, none⟩ (.int .i64 X) = w9 at *; have xXR := XR.cell; have zXR0 := XR.frozen; have xX1 := X1.cell; go_wp2; clear xXR zXR0 xX1; have SX := StN.mk4 XR (.bool s) (.int .u64 R) (.int .u64 C) (.int .i64 X)
  exact bodyPost_ret (by simp [results, Tryz.results113, go_sem, SX.box.cell]) rfl ⟨_, _, _, rfl, HRA.out, (SX.below HB.out (by omega))⟩
theorem aRaised {w : World} {s : Bool} {h l : Nat} {H L e : Int} (hh : h < 18446744073709551616) (hl : l < 18446744073709551616) (hH : (h : Int) = H) (hL : (l : Int) = L) (e1 : -4000000 ≤ e) (e2 : e ≤ 4000000) : Calls Tryz.prog 113 #[.agg #[.bool s, .int .u64 H, .int .u64 L, .int .i64 e]] w (PRa w s (h * 18446744073709551616 + l) (e - 64)) := by
  by_cases h0 : h = 0
  · subst h0; subst hH; rw [Nat.zero_mul, Nat.zero_add]; exact raised_low hl hL e1 e2
  · exact raised_high h0 hh hl hH hL e1 e2
end Go.Proofs.YtpnmphofengoeaaGreatDoor

namespace Go.Proofs.YtpnmphofengoeaaGreatDoor
set_option maxHeartbeats 8000000
open Go.RowKit
set_option linter.unusedVariables false
set_option linter.unusedSimpArgs false
set_option maxRecDepth 100000

theorem cut_cases {S : Nat} {F T C X r : Int} {s t : Bool} (ra : Ra S F T C X) (hr : sgi s (lo S F) = r) (ht : exw S F = t) :
    (T = 0 ∧ 0 = r ∧ true = t) ∨ ((T == 0) = false ∧ 1048576 < X ∧ false = t ∧ nx s (sgi s TP) = r) ∨ ((T == 0) = false ∧ ¬ 1048576 < X ∧ X < -1048576 ∧ false = t ∧ 0 = r) ∨ ((T == 0) = false ∧ -1048576 ≤ X ∧ X ≤ 1048576 ∧ Fq 1 s T X r ∧ (C == 0) = t) := by
  obtain ⟨t0, t1, k0, k1, hT, hx⟩ := ra
  unfold lo at hr
  unfold exw at ht
  by_cases h0 : S = 0
  · rw [if_pos h0] at hr
    have e0 : (S == 0) = true := by simpa using h0
    rw [e0, Bool.true_or] at ht; refine .inl ⟨?_, ?_, ht⟩
    · rw [hT, h0]
      rfl
    · rw [← hr]
      cases s <;> rfl
  · right
    rw [if_neg h0] at hr
    have e0 : (S == 0) = false := by simpa using h0
    rw [e0, Bool.false_or] at ht; obtain ⟨x1, x2⟩ := hx h0; have g1 := tp_ge h0
    have eT : (T == 0) = false := by
      have : T ≠ 0 := by omega
      simpa using this
    rw [← x1] at hr ht
    by_cases c1 : 1048576 < X
    · rw [if_pos c1] at hr
      rw [show decide (X ≤ 1048576) = false from decide_eq_false (by omega), Bool.false_and] at ht
      refine .inl ⟨eT, c1, ht, ?_⟩; rw [← hr]
      have := TP_eq
      unfold nx
      cases s
      · rw [wsg_f, wsg_f, if_neg (by decide)]
        omega
      · rw [wsg_t, wsg_t, if_pos rfl]
        omega
    · right
      rw [if_neg c1] at hr
      rw [show decide (X ≤ 1048576) = true from decide_eq_true (by omega), Bool.true_and] at ht
      by_cases c2 : X < -1048576
      · rw [if_pos c2] at hr
        rw [show decide (-1048576 ≤ X) = false from decide_eq_false (by omega), Bool.false_and] at ht
        refine .inl ⟨eT, c1, c2, ht, ?_⟩; rw [← hr]
        cases s <;> rfl
      · rw [if_neg c2] at hr
        rw [show decide (-1048576 ≤ X) = true from decide_eq_true (by omega), Bool.true_and] at ht
        refine .inr ⟨eT, by omega, by omega, ?_, ?_⟩
        · rw [← hT] at hr; exact Fq.fin (by omega) t1 (by omega) (by omega) hr
        · rw [← ht, Bool.eq_iff_iff, decide_eq_true_iff, ← x2]
          simp
theorem aCut {w : World} {s t : Bool} {h l : Nat} {H L e r : Int} (hh : h < 18446744073709551616) (hl : l < 18446744073709551616) (hH : (h : Int) = H) (hL : (l : Int) = L) (e1 : -4000000 ≤ e) (e2 : e ≤ 4000000) (hr : sgi s (lo (h * 18446744073709551616 + l) (e - 64)) = r) (ht : exw (h * 18446744073709551616 + l) (e - 64) = t) :
    Calls Tryz.prog 103 #[.agg #[.bool s, .int .u64 H, .int .u64 L, .int .i64 e]] w (PNB w r t) := by
  have HR := Lib.hid hr; have HT := Lib.hid ht; clear hr ht
  go_enter Tryz.func103, Tryz.ntmps103
  go_upto_region 1 with (fail)
  generalize hW1 : (w.alloc _).alloc _ = w1 at *; obtain ⟨X1, XR, HB⟩ := Bo.en2 hW1; clear hW1; have xX1 := X1.cell
  go_wp2_with fail
  refine (aRaised hh hl hH hL e1 e2).mono ?_; rintro ee w2 ⟨T, C, X, rfl, ra, B⟩; clear xX1; replace X1 := X1.below B; replace XR := XR.below B; replace HB := Hqb HB B; clear B; have xX1 := X1.cell; have zX10 := X1.frozen
  go_upto_region 2 with (fail)
  clear xX1 zX10; generalize hS : (((w2.setCell _ _).setCell _ _).setCell _ _).setCell _ _ = w3 at *; have SX := StN.of4 X1 hS; replace XR := XR.stn SX (by omega); replace HB := Hqs HB SX (by omega); replace X1 := SX.box; clear SX hS; have hcc := cut_cases ra HR.out HT.out; clear ra HR HT hh hl hH hL e1 e2
  rcases hcc with ⟨g1, g2, g3⟩ | ⟨g1, g2, g3, g4⟩ | ⟨g1, g2, g3, g4, g5⟩ | ⟨g1, g2, g3, g4, g5⟩
  · subst g1; subst g2; subst g3; have xXR := XR.cell; have zXR0 := XR.frozen; have xX1 := X1.cell; go_wp2; clear xXR zXR0 xX1; have SX := StN.mk4 XR (.int .i64 0) (.bool false) (.int .u64 0) (.int .i64 0); exact bodyPost_ret (v := .tuple #[.agg #[.int .i64 0, .bool false, .int .u64 0, .int .i64 0], .bool true]) (by simp [results, Tryz.results103, go_sem, SX.box.cell]) rfl ⟨_, _, _, _, rfl, Fq.nought, (SX.below HB.out (by omega))⟩
  · subst g3; obtain ⟨i, hi⟩ : ∃ i, sgi s TP = i := ⟨_, rfl⟩; rw [hi] at g4; have HI := Lib.hid hi; have HN := Lib.hid g4; clear hi g4; have xX1 := X1.cell
    go_upto_region 5 with (fail)
    clear xX1; refine Jo.rk [0, 1, 2, 3, 4, 5] [some 15, some 16, some 17, some 18, some 19, some 20, none, some 3] [[], [0], [1], [], [3], [2, 4], [], []] 8 2 [Jo.qp w.heap.size 0, Jo.qb s, Jo.Fact.num i, Jo.qp w.heap.size 0, Jo.qb s, Jo.Fact.num r, Jo.Fact.any, Jo.Fact.any] (by kernel_rfl) (by kernel_rfl) (by decide) rfl ?_ ?_
    · refine Jo.jm rfl ?_ ?_; rotate_left
      refine Jo.jm rfl ?_ ?_
      · rintro wj hJ _ rfl K hK; simp only [Jo.z] at hK ⊢; have xX10 := (X1.below hJ).a 0 (.bool s) rfl; go_simp; exact hK.out _ _ rfl (br _ _)
      refine Jo.jm rfl ?_ ?_
      · rintro wj hJ _ rfl K hK; simp only [Jo.z] at hK ⊢; go_simp; refine (nInf HI.out).mono ?_; rintro ee wk ⟨K4, s4, M4, E4, rfl, q4, B⟩; exact hK.out _ _ ⟨K4, s4, M4, E4, rfl, q4⟩ B
      refine Jo.jm rfl ?_ ?_; rotate_left
      refine Jo.jm rfl ?_ ?_
      · rintro wj hJ _ rfl K hK; simp only [Jo.z] at hK ⊢; have xX10 := (X1.below hJ).a 0 (.bool s) rfl; go_simp; exact hK.out _ _ rfl (br _ _)
      refine Jo.jm rfl ?_ ?_
      · rintro wj hJ _ ⟨K4, s4, M4, E4, rfl, q4⟩ _ rfl K hK; simp only [Jo.z] at hK ⊢; go_simp; refine (nNext (r := r) q4.top (by rw [q4.rk]; exact HN.out)).mono ?_; rintro ee wk ⟨K5, s5, M5, E5, rfl, q5, B⟩; exact hK.out _ _ ⟨K5, s5, M5, E5, rfl, q5⟩ B
      exact Jo.Steps.nil
      all_goals (rintro wj hJ; (repeat rintro _ rfl); intro K hK; simp only [Jo.z] at hK ⊢; go_simp; exact hK.out _ _ rfl (br _ _))
    rintro w4 hJ _ _ _ rfl _ ⟨K4, s4, M4, E4, rfl, _⟩ _ _ _ rfl _ ⟨K5, s5, M5, E5, rfl, q5⟩ -; simp only [Jo.z]; replace X1 := X1.below hJ; replace XR := XR.below hJ; replace HB := Hqb HB hJ; have xXR := XR.cell; have zXR0 := XR.frozen
    refine Jo.jnext (i := 6) (o := ⟨none, _, _, _, _, _⟩) (by kernel_rfl) rfl (fun K hK => ?_)
    go_simp; refine hK.out _ _ ?_; clear hK K xXR zXR0; generalize hS : (((w4.setCell _ _).setCell _ _).setCell _ _).setCell _ _ = w5 at *; have SX := StN.of4 XR hS; replace X1 := X1.stn SX (by omega); replace HB := Hqs HB SX (by omega); replace XR := SX.box; clear SX hS
    refine Jo.jnext (i := 7) (o := ⟨some 3, _, _, _, _, _⟩) (by kernel_rfl) rfl (fun K hK => ?_)
    go_simp; refine hK.out _ _ ?_; clear hK K; refine Jo.jdone (by kernel_rfl) ?_; go_wp2; exact bodyPost_ret (v := .tuple #[.agg #[.int .i64 K5, .bool s5, .int .u64 M5, .int .i64 E5], .bool false]) (by simp [results, Tryz.results103, go_sem, XR.cell]) rfl ⟨_, _, _, _, rfl, q5, HB.out⟩
  · subst g4; subst g5; have xXR := XR.cell; have zXR0 := XR.frozen; have xX1 := X1.cell; go_wp2; clear xXR zXR0 xX1; have SX := StN.mk4 XR (.int .i64 0) (.bool false) (.int .u64 0) (.int .i64 0); exact bodyPost_ret (v := .tuple #[.agg #[.int .i64 0, .bool false, .int .u64 0, .int .i64 0], .bool false]) (by simp [results, Tryz.results103, go_sem, SX.box.cell]) rfl ⟨_, _, _, _, rfl, Fq.nought, (SX.below HB.out (by omega))⟩
  · have HTT := Lib.hid g5; clear g5; have xX1 := X1.cell
    go_upto_region 8 with (fail)
    clear xX1; refine Jo.rl (w.heap.size + 1) #[.int .i64 1, .bool s, .int .u64 T, .int .i64 X] 32 [0, 1, 2, 3, 4, 5, 6, 7, 8, 9, 10] [some 26, some 27, some 28, some 29, some 30, some 31, some 32, some 33, some 34, some 35, none, some 3] [[], [0], [], [2], [], [4], [1, 3, 5], [], [7], [8], [6], []] 12 1 [Jo.kp w.heap.size 0, Jo.LFact.eq (.bool s), Jo.kp w.heap.size 1, Jo.LFact.eq (.int .u64 T), Jo.kp w.heap.size 3, Jo.LFact.eq (.int .i64 X), Jo.LFact.eq (.agg #[.int .i64 1, .bool s, .int .u64 T, .int .i64 X]), Jo.kp w.heap.size 2, Jo.LFact.eq (.int .u64 C), Jo.LFact.eq (.bool t), Jo.LFact.done, Jo.LFact.any] (by kernel_rfl) (by kernel_rfl) (by decide) rfl ?_ ?_
    · refine Jo.lm rfl ?_ ?_
      · rintro wj hJ K hK; simp only [Jo.z] at hK ⊢; go_simp; exact hK.out _ _ rfl (Jo.Off.refl _ _ _ _)
      refine Jo.lm rfl ?_ ?_
      · rintro wj hJ _ rfl K hK; simp only [Jo.z] at hK ⊢; replace X1 := X1.off (by omega) hJ; have xX1 := X1.cell; go_simp; exact hK.out _ _ rfl (Jo.Off.refl _ _ _ _)
      refine Jo.lm rfl ?_ ?_
      · rintro wj hJ K hK; simp only [Jo.z] at hK ⊢; go_simp; exact hK.out _ _ rfl (Jo.Off.refl _ _ _ _)
      refine Jo.lm rfl ?_ ?_
      · rintro wj hJ _ rfl K hK; simp only [Jo.z] at hK ⊢; replace X1 := X1.off (by omega) hJ; have xX1 := X1.cell; go_simp; exact hK.out _ _ rfl (Jo.Off.refl _ _ _ _)
      refine Jo.lm rfl ?_ ?_
      · rintro wj hJ K hK; simp only [Jo.z] at hK ⊢; go_simp; exact hK.out _ _ rfl (Jo.Off.refl _ _ _ _)
      refine Jo.lm rfl ?_ ?_
      · rintro wj hJ _ rfl K hK; simp only [Jo.z] at hK ⊢; replace X1 := X1.off (by omega) hJ; have xX1 := X1.cell; go_simp; exact hK.out _ _ rfl (Jo.Off.refl _ _ _ _)
      refine Jo.lm rfl ?_ ?_
      · rintro wj hJ _ rfl _ rfl _ rfl K hK; simp only [Jo.z] at hK ⊢; go_simp; exact hK.out _ _ rfl (Jo.Off.refl _ _ _ _)
      refine Jo.lm rfl ?_ ?_
      · rintro wj hJ K hK; simp only [Jo.z] at hK ⊢; go_simp; exact hK.out _ _ rfl (Jo.Off.refl _ _ _ _)
      refine Jo.lm rfl ?_ ?_
      · rintro wj hJ _ rfl K hK; simp only [Jo.z] at hK ⊢; replace X1 := X1.off (by omega) hJ; have xX1 := X1.cell; go_simp; exact hK.out _ _ rfl (Jo.Off.refl _ _ _ _)
      refine Jo.lm rfl ?_ ?_
      · rintro wj hJ _ rfl K hK; simp only [Jo.z] at hK ⊢; have htt := HTT.out; go_simp
        exact hK.out _ _ (by first | rfl | (show Value.bool _ = Value.bool _; rw [htt])) (Jo.Off.refl _ _ _ _)
      refine Jo.lm rfl ?_ ?_
      · rintro wj hJ _ rfl K hK; simp only [Jo.z] at hK ⊢
        obtain ⟨v0, v1, v2, v3, XO⟩ : ∃ v0 v1 v2 v3, Bo wj (w.heap.size + 1) #[v0, v1, v2, v3] 32 := by
          rcases hJ.own with e | e
          · exact ⟨_, _, _, _, XR.keep e⟩
          · exact ⟨_, _, _, _, e⟩
        have y0 := XO.a 0 (v0) rfl; have u0 := XO.frozen 0; have y1 := XO.a 1 (v1) rfl; have u1 := XO.frozen 1; have y2 := XO.a 2 (v2) rfl; have u2 := XO.frozen 2; have y3 := XO.a 3 (v3) rfl; have u3 := XO.frozen 3; go_simp; have SX := StN.mk4 XO (.int .i64 1) (.bool s) (.int .u64 T) (.int .i64 X); exact hK.out undef _ SX.box (Jo.Off.of_stn SX)
      exact Jo.Steps.nil
    rintro w4 hJ _ _ _ rfl _ _ _ rfl _ _ _ rfl _ rfl _ _ _ rfl _ rfl u10 d10 -; simp only [Jo.z]; replace HB := Lib.hid (hJ.below HB.out (by omega) XR.lt); replace X1 := X1.off (by omega) hJ
    replace XR : Bo w4 (w.heap.size + 1) #[.int .i64 1, .bool s, .int .u64 T, .int .i64 X] 32 := d10
    refine Jo.jnext (i := 11) (o := ⟨some 3, _, _, _, _, _⟩) (by kernel_rfl) rfl (fun K hK => ?_)
    go_simp; refine hK.out _ _ ?_; clear hK K; refine Jo.jdone (by kernel_rfl) ?_; go_wp2; exact bodyPost_ret (v := .tuple #[.agg #[.int .i64 1, .bool s, .int .u64 T, .int .i64 X], .bool t]) (by simp [results, Tryz.results103, go_sem, XR.cell]) rfl ⟨_, _, _, _, rfl, g4, HB.out⟩
def Wd (s : Bool) (H L e : Int) (f : Bool → Int) : Prop := ∃ h l : Nat, h < 18446744073709551616 ∧ l < 18446744073709551616 ∧ (h : Int) = H ∧ (l : Int) = L ∧ -2900000 ≤ e ∧ e ≤ 2900000 ∧ ∀ up, rnd up (mk (sgi s ((h * 18446744073709551616 + l : Nat) : Int)) (e - 64)).1 (mk (sgi s ((h * 18446744073709551616 + l : Nat) : Int)) (e - 64)).2 = f up
def PW6 (w : World) (f : Bool → Int) (e : Ending) (w' : World) : Prop := ∃ s H L x, e = .returned (.agg #[.bool s, .int .u64 H, .int .u64 L, .int .i64 x]) ∧ Wd s H L x f ∧ Below w.heap.size w w'
theorem aRound {w : World} {s up : Bool} {H L e r : Int} {fu : Bool → Int} (hw : Wd s H L e fu) (hr : fu up = r) :
    Calls Tryz.prog 85 #[.agg #[.bool s, .int .u64 H, .int .u64 L, .int .i64 e], .bool up] w (PN w r) := by
  obtain ⟨h, l, hh, hl, hH, hL, e1, e2, hf⟩ := hw
  have e3 : -4000000 ≤ e := by omega
  have e4 : e ≤ 4000000 := by omega
  obtain ⟨w1_, w2_, w3_⟩ := wide_rnd (neg := s) (S := h * 18446744073709551616 + l) (F := e - 64) (by omega) (by omega) (by omega) rfl rfl
  have k1 : exw (h * 18446744073709551616 + l) (e - 64) = true → sgi s (lo (h * 18446744073709551616 + l) (e - 64)) = r := fun c => by
    rw [← w1_ c up, hf up, hr]
  have k2 : s = up → sgi s (lo (h * 18446744073709551616 + l) (e - 64)) = r := fun c => by
    rw [← w2_, hf s, c, hr]
  have k3 : exw (h * 18446744073709551616 + l) (e - 64) = false → (!s) = up → nx up (sgi s (lo (h * 18446744073709551616 + l) (e - 64))) = r := fun c d => by
    rw [← d, ← w3_ c, hf (!s), d, hr]
  obtain ⟨x, hx⟩ : ∃ x, sgi s (lo (h * 18446744073709551616 + l) (e - 64)) = x := ⟨_, rfl⟩; obtain ⟨t, ht⟩ : ∃ t, exw (h * 18446744073709551616 + l) (e - 64) = t := ⟨_, rfl⟩; rw [hx, ht] at k1 k3; rw [hx] at k2; have HX := Lib.hid hx; have HT := Lib.hid ht; have K1_ := Lib.hid k1; have K2_ := Lib.hid k2; have K3_ := Lib.hid k3; clear hx ht k1 k2 k3 w1_ w2_ w3_ hf hr e1 e2
  go_enter Tryz.func85, Tryz.ntmps85
  go_upto_region 1 with (fail)
  generalize hW1 : (w.alloc _).alloc _ = w1 at *; obtain ⟨X1, XR, HB⟩ := Bo.en2 hW1; clear hW1; have xX1 := X1.cell
  go_wp2_with fail
  refine (aCut hh hl hH hL e3 e4 HX.out HT.out).mono ?_; rintro ee w5 ⟨K2, s2, M2, E2, rfl, q2, B⟩; clear xX1; replace X1 := X1.below B; replace XR := XR.below B; replace HB := Hqb HB B; clear B; clear HX HT
  go_upto_region 2 with (fail)
  have lX5 := Nat.le_refl (World.heap w5).size; have nX5X1 := X1.lt; have nX5XR := XR.lt; generalize hWn : w5.alloc _ = w6 at *; obtain ⟨X5, BW⟩ := Bo.nw hWn; clear hWn; replace X1 := X1.below BW; replace XR := XR.below BW; replace HB := Hqb HB BW; clear BW; clear lX5
  by_cases ht : t = true
  · subst ht
    obtain rfl : x = r := K1_.out rfl
    clear K1_ K2_ K3_; have xXR := XR.cell; have zXR0 := XR.frozen; have xX1 := X1.cell; have xX5 := X5.cell; go_wp2; clear xXR zXR0 xX1 xX5; have SX := StN.mk4 XR (.int .i64 K2) (.bool s2) (.int .u64 M2) (.int .i64 E2); exact bodyPost_ret (by simp [results, Tryz.results85, go_sem, SX.box.cell]) rfl ⟨_, _, _, _, rfl, q2, (SX.below HB.out (by omega))⟩
  · have ht : t = false := by simpa using ht
    subst ht
    by_cases hs : s = up
    · obtain rfl : x = r := K2_.out hs
      clear K1_ K2_ K3_; subst hs; have xXR := XR.cell; have zXR0 := XR.frozen; have xX1 := X1.cell; have xX5 := X5.cell; go_wp2; clear xXR zXR0 xX1 xX5; have SX := StN.mk4 XR (.int .i64 K2) (.bool s2) (.int .u64 M2) (.int .i64 E2); exact bodyPost_ret (by simp [results, Tryz.results85, go_sem, SX.box.cell]) rfl ⟨_, _, _, _, rfl, q2, (SX.below HB.out (by omega))⟩
    · obtain rfl : (!s) = up := by cases s <;> cases up <;> first | rfl | exact absurd rfl hs
      clear hs
      have e2 : (s == !s) = false := by cases s <;> rfl
      have HRR : Hid (nx (!s) (rk K2 s2 M2 E2) = r) := Lib.hid (by rw [q2.rk]; exact K3_.out rfl rfl)
      clear K1_ K2_ K3_; have xX1 := X1.cell; have xX5 := X5.cell
      go_wp2_with fail
      refine (nNext q2.top HRR.out).mono ?_; rintro ee w7 ⟨K3, s3, M3, E3, rfl, q3, B⟩; clear xX1 xX5; replace X1 := X1.below B; replace XR := XR.below B; replace X5 := X5.below B; replace HB := Hqb HB B; clear B; have xXR := XR.cell; have zXR0 := XR.frozen; have xX1 := X1.cell; have xX5 := X5.cell
      go_wp2; clear xXR zXR0 xX1 xX5; have SX := StN.mk4 XR (.int .i64 K3) (.bool s3) (.int .u64 M3) (.int .i64 E3); exact bodyPost_ret (by simp [results, Tryz.results85, go_sem, SX.box.cell]) rfl ⟨_, _, _, _, rfl, q3, (SX.below HB.out (by omega))⟩
end Go.Proofs.YtpnmphofengoeaaGreatDoor

namespace Go.Proofs.YtpnmphofengoeaaGreatDoor
set_option maxHeartbeats 4000000
open Go.RowKit
set_option linter.unusedVariables false
set_option linter.unusedSimpArgs false
set_option maxRecDepth 100000

def PMv (w : World) (s : Bool) (V x : Int) (e : Ending) (w' : World) : Prop := ∃ H L, e = .returned (.agg #[.bool s, .int .u64 H, .int .u64 L, .int .i64 x]) ∧ (0 ≤ H ∧ H < 18446744073709551616 ∧ 0 ≤ L ∧ L < 18446744073709551616 ∧ H * 18446744073709551616 + L = V) ∧ Below w.heap.size w w'
theorem shr64_any {M k Q : Int} (h0 : 0 ≤ M) (hM : M < 18446744073709551616) (hk : 0 ≤ k) (hQ : M / 2 ^ k.toNat = Q) : Op.shift .shr .u64 M .i64 k = pure (.int .u64 Q) := by
  subst hQ
  rcases Int.lt_or_le k 65 with c | c
  · exact shift_shr .u64 .i64 M k hk (by show k ≤ 64; omega)
  · have e1 : min k.toNat IntKind.u64.bits = 64 := by show min k.toNat 64 = 64; omega
    have e2 : M / 2 ^ k.toNat = 0 := Int.ediv_eq_zero_of_lt h0 (Int.lt_of_lt_of_le (show M < 2 ^ 64 from hM) (p2_le (by omega)))
    have e3 : M.fdiv (2 ^ 64) = 0 := by
      rw [Int.fdiv_eq_ediv_of_nonneg _ (by decide)]; exact Int.ediv_eq_zero_of_lt h0 hM
    unfold Op.shift
    rw [if_neg (by omega), e1, e2]
    show pure (Value.int .u64 (M.fdiv (2 ^ 64))) = _
    rw [e3]
theorem or_one {Q : Int} (h0 : 0 ≤ Q) (h1 : Q < 18446744073709551616) : bits BinOp.or IntKind.u64 Q 1 = Q / 2 * 2 + 1 := by
  obtain ⟨q, rfl⟩ := Int.eq_ofNat_of_zero_le h0; have h := u64_or_nat q 1 (by omega) (by decide)
  have e : q ||| 1 = q / 2 * 2 + 1 := by
    apply Nat.eq_of_testBit_eq
    intro i
    cases i with
    | zero => simp [Nat.testBit_zero]
    | succ i =>
      rw [Nat.testBit_or, Nat.testBit_add_one, Nat.testBit_add_one, Nat.testBit_add_one, show (1 : Nat) / 2 = 0 by decide, show (q / 2 * 2 + 1) / 2 = q / 2 by omega, Nat.zero_testBit, Bool.or_false]
  rw [e] at h; exact h
theorem mv_low {M : Int} {n : Nat} (h0 : 0 ≤ M) (hM : M < 18446744073709551616) (h1 : 1 ≤ n) (h2 : n ≤ 64) : 0 ≤ M / 2 ^ n ∧ M / 2 ^ n < 18446744073709551616 ∧ M / 2 ^ n * 18446744073709551616 + M * 2 ^ (64 - n) % 18446744073709551616 = mvd M n := by
  obtain ⟨a, b⟩ := div_le_self h0 (p2pos n); refine ⟨a, by omega, ?_⟩
  have e1 : M * 2 ^ (64 - n) / 18446744073709551616 = M / 2 ^ n := by
    rw [show (18446744073709551616 : Int) = 2 ^ n * 2 ^ (64 - n) by rw [← Int.pow_add, show n + (64 - n) = 64 by omega]; rfl]
    exact Int.mul_ediv_mul_of_pos_left _ _ (p2pos _)
  unfold mvd
  rw [if_pos h2, ← e1]
  omega
theorem moved_low {w : World} {s : Bool} {M E N X : Int} {n : Nat} (hT : Tb w) (h0 : 9223372036854775808 ≤ M) (hM : M < 18446744073709551616) (hN : (n : Int) = N) (hX : E + N = X) (b1 : -2000000 ≤ E) (b2 : E ≤ 2000000) (n1 : 1 ≤ n) (n2 : n ≤ 64) : Calls Tryz.prog 100 #[.agg #[.int .i64 1, .bool s, .int .u64 M, .int .i64 E], .int .i64 N] w (PMv w s (mvd M n) X) := by
  obtain ⟨v1, v2, v3⟩ := mv_low (show 0 ≤ M by omega) hM n1 n2
  obtain ⟨H, hH⟩ : ∃ H, M / 2 ^ n = H := ⟨_, rfl⟩; obtain ⟨P, hP⟩ : ∃ P, M * 2 ^ (64 - n) = P := ⟨_, rfl⟩; obtain ⟨L, hL⟩ : ∃ L, P % 18446744073709551616 = L := ⟨_, rfl⟩; rw [hP, hL] at v3; rw [hH] at v1 v2 v3
  have l1 : 0 ≤ L ∧ L < 18446744073709551616 := by omega
  have HH : Hid (M / 2 ^ N.toNat = H) := Lib.hid (by rw [← hN]; exact hH)
  have HP : Hid (M * 2 ^ (64 - N).toNat = P) := Lib.hid (by rw [← hN, show (64 - (n : Int)).toNat = 64 - n by omega]; exact hP)
  have HL : Hid (IntKind.u64.wrap P = L) := Lib.hid (by rw [IntKind.wrap_u64]; exact hL)
  have HV := Lib.hid v3
  have HX := Lib.hid (show IntKind.i64.wrap (E + N) = X by rw [hX]; exact IntWalk.i64_in _ (by omega))
  have HSB := Lib.hid (show IntKind.i64.wrap (64 - N) = 64 - N from IntWalk.i64_in _ (by omega))
  have m1 : 1 ≤ N := by omega
  have m2 : N ≤ 64 := by omega
  clear hH hP hL v3 hX hN
  go_enter Tryz.func100, Tryz.ntmps100
  go_upto_region 1 with (fail)
  generalize hW1 : (w.alloc _).alloc _ = w1 at *; obtain ⟨X2, XR, HB⟩ := Bo.en2 hW1; clear hW1; have xX2 := X2.cell; have hx := HX.out
  go_upto_region 2 with (fail)
  clear hx; clear xX2; have lX5 := Nat.le_refl (World.heap w1).size; have nX5X2 := X2.lt; have nX5XR := XR.lt; generalize hWn : w1.alloc _ = w2 at *; obtain ⟨X5, BW⟩ := Bo.nw hWn; clear hWn; replace X2 := X2.below BW; replace XR := XR.below BW; replace HB := Hqb HB BW; clear BW; clear lX5; have xX2 := X2.cell; have xX5 := X5.cell
  go_upto_region 3 with (fail)
  clear xX2 xX5; refine Jo.rl (w1.heap.size) #[.bool s, .int .u64 H, .int .u64 0, .int .i64 X] 89 [0, 1, 2, 3, 4, 5, 6, 7, 8, 9, 10, 11] [some 15, some 16, some 17, some 18, some 19, some 20, some 21, some 22, some 23, some 24, none, some 25, none] [[], [0], [], [1, 2], [], [4], [], [6], [5, 7], [], [3, 9], [], []] 13 1 [Jo.kp w.heap.size 2, Jo.LFact.eq (.int .u64 M), Jo.LFact.eq (.int .i64 N), Jo.LFact.eq (.int .u64 H), Jo.kp w.heap.size 2, Jo.LFact.eq (.int .u64 M), Jo.LFact.eq (.int .i64 N), Jo.LFact.eq (.int .i64 (64 - N)), Jo.LFact.eq (.int .u64 L), Jo.kp w1.heap.size 1, Jo.LFact.done, Jo.kp w1.heap.size 2, Jo.LFact.any] (by kernel_rfl) (by kernel_rfl) (by decide) rfl ?_ ?_
  · refine Jo.lm rfl ?_ ?_
    · rintro wj hJ K hK; simp only [Jo.z] at hK ⊢; go_simp; exact hK.out _ _ rfl (Jo.Off.refl _ _ _ _)
    refine Jo.lm rfl ?_ ?_
    · rintro wj hJ _ rfl K hK; simp only [Jo.z] at hK ⊢; replace X2 := X2.off (by omega) hJ; have xX2 := X2.cell; go_simp; exact hK.out _ _ rfl (Jo.Off.refl _ _ _ _)
    refine Jo.lm rfl ?_ ?_
    · rintro wj hJ K hK; simp only [Jo.z] at hK ⊢; go_simp; exact hK.out _ _ rfl (Jo.Off.refl _ _ _ _)
    refine Jo.lm rfl ?_ ?_
    · rintro wj hJ _ rfl _ rfl K hK; simp only [Jo.z] at hK ⊢; have hh := HH.out; go_simp; exact hK.out _ _ rfl (Jo.Off.refl _ _ _ _)
    refine Jo.lm rfl ?_ ?_
    · rintro wj hJ K hK; simp only [Jo.z] at hK ⊢; go_simp; exact hK.out _ _ rfl (Jo.Off.refl _ _ _ _)
    refine Jo.lm rfl ?_ ?_
    · rintro wj hJ _ rfl K hK; simp only [Jo.z] at hK ⊢; replace X2 := X2.off (by omega) hJ; have xX2 := X2.cell; go_simp; exact hK.out _ _ rfl (Jo.Off.refl _ _ _ _)
    refine Jo.lm rfl ?_ ?_
    · rintro wj hJ K hK; simp only [Jo.z] at hK ⊢; go_simp; exact hK.out _ _ rfl (Jo.Off.refl _ _ _ _)
    refine Jo.lm rfl ?_ ?_
    · rintro wj hJ _ rfl K hK; simp only [Jo.z] at hK ⊢; have hsb := HSB.out; go_simp; exact hK.out _ _ rfl (Jo.Off.refl _ _ _ _)
    refine Jo.lm rfl ?_ ?_
    · rintro wj hJ _ rfl _ rfl K hK; simp only [Jo.z] at hK ⊢; have hp := HP.out; have hl := HL.out; go_simp; exact hK.out _ _ rfl (Jo.Off.refl _ _ _ _)
    refine Jo.lm rfl ?_ ?_
    · rintro wj hJ K hK; simp only [Jo.z] at hK ⊢; go_simp; exact hK.out _ _ rfl (Jo.Off.refl _ _ _ _)
    refine Jo.lm rfl ?_ ?_
    · rintro wj hJ _ rfl _ rfl K hK; simp only [Jo.z] at hK ⊢
      rcases hJ.own with e | e
      · have XO : Bo wj (w1.heap.size) #[.bool s, .int .u64 0, .int .u64 0, .int .i64 X] 89 := X5.keep e
        have y0 := XO.a 0 (.bool s) rfl; have u0 := XO.frozen 0; have y1 := XO.a 1 (.int .u64 0) rfl; have u1 := XO.frozen 1; have y2 := XO.a 2 (.int .u64 0) rfl; have u2 := XO.frozen 2; have y3 := XO.a 3 (.int .i64 X) rfl; have u3 := XO.frozen 3; go_simp
        have SX : StN wj (World.setCell wj ⟨w1.heap.size, 1, none⟩ (.int .u64 H)) _ _ #[.bool s, .int .u64 H, .int .u64 0, .int .i64 X] _ := StN.at4 XO 1 (.int .u64 H)
        exact hK.out undef _ SX.box (Jo.Off.of_stn SX)
      · have XO : Bo wj (w1.heap.size) #[.bool s, .int .u64 H, .int .u64 0, .int .i64 X] 89 := e
        have y0 := XO.a 0 (.bool s) rfl; have u0 := XO.frozen 0; have y1 := XO.a 1 (.int .u64 H) rfl; have u1 := XO.frozen 1; have y2 := XO.a 2 (.int .u64 0) rfl; have u2 := XO.frozen 2; have y3 := XO.a 3 (.int .i64 X) rfl; have u3 := XO.frozen 3; go_simp
        have SX : StN wj (World.setCell wj ⟨w1.heap.size, 1, none⟩ (.int .u64 H)) _ _ #[.bool s, .int .u64 H, .int .u64 0, .int .i64 X] _ := StN.at4 XO 1 (.int .u64 H)
        exact hK.out undef _ SX.box (Jo.Off.of_stn SX)
    refine Jo.lm rfl ?_ ?_
    · rintro wj hJ K hK; simp only [Jo.z] at hK ⊢; go_simp; exact hK.out _ _ rfl (Jo.Off.refl _ _ _ _)
    exact Jo.Steps.nil
  rintro w3 hJ _ _ _ rfl _ rfl _ rfl _ _ _ rfl _ rfl _ rfl _ rfl _ _ u10 d10 _ rfl -; simp only [Jo.z]; replace HB := Lib.hid (hJ.below HB.out (by omega) X5.lt); replace X2 := X2.off (by omega) hJ; replace XR := XR.off (by omega) hJ
  replace X5 : Bo w3 (w1.heap.size) #[.bool s, .int .u64 H, .int .u64 0, .int .i64 X] 89 := d10
  have xX5 := X5.cell; have zX50 := X5.frozen
  refine Jo.jnext (i := 12) (o := ⟨none, _, _, _, _, _⟩) (by kernel_rfl) rfl (fun K hK => ?_)
  go_simp; refine hK.out _ _ ?_; clear hK K xX5 zX50
  have SX : StN w3 (World.setCell w3 ⟨w1.heap.size, 2, none⟩ (.int .u64 L)) _ _ #[.bool s, .int .u64 H, .int .u64 L, .int .i64 X] _ := StN.at4 X5 2 (.int .u64 L)
  replace X2 := X2.stn SX (by omega); replace XR := XR.stn SX (by omega); replace HB := Hqs HB SX (by omega); replace X5 := SX.box; clear SX; generalize World.setCell w3 ⟨w1.heap.size, 2, none⟩ (.int .u64 L) = w4 at *; refine Jo.jdone (by kernel_rfl) ?_; have xXR := XR.cell; have zXR0 := XR.frozen; have xX5 := X5.cell; go_wp2; clear xXR zXR0 xX5
  have SX := StN.mk4 XR (.bool s) (.int .u64 H) (.int .u64 L) (.int .i64 X); exact bodyPost_ret (v := .agg #[.bool s, .int .u64 H, .int .u64 L, .int .i64 X]) (by simp [results, Tryz.results100, go_sem, SX.box.cell]) rfl ⟨H, L, rfl, ⟨v1, v2, l1.1, l1.2, HV.out⟩, (SX.below HB.out (by omega))⟩
theorem moved_even {w : World} {s : Bool} {M E N X : Int} {n : Nat} (hT : Tb w) (h0 : 9223372036854775808 ≤ M) (hM : M < 18446744073709551616) (hN : (n : Int) = N) (hX : E + N = X) (b1 : -2000000 ≤ E) (b2 : E ≤ 2000000) (n1 : 1 ≤ n) (n2 : 64 < n) (n3 : n ≤ 4000000) (hr : M % 2 ^ (n - 64) = 0) : Calls Tryz.prog 100 #[.agg #[.int .i64 1, .bool s, .int .u64 M, .int .i64 E], .int .i64 N] w (PMv w s (mvd M n) X) := by
  obtain ⟨v1, v2⟩ := div_le_self (show 0 ≤ M by omega) (p2pos (n - 64))
  obtain ⟨Q, hQ⟩ : ∃ Q, M / 2 ^ (n - 64) = Q := ⟨_, rfl⟩; obtain ⟨k, hk⟩ : ∃ k, N - 64 = k := ⟨_, rfl⟩
  have hkn : k.toNat = n - 64 := by omega
  have k1 : 1 ≤ k := by omega
  rw [hQ] at v1 v2
  have hV : mvd M n = Q := by
    unfold mvd
    rw [if_neg (by omega), if_pos hr, hQ]
  obtain ⟨m, hm⟩ : ∃ m : Nat, (m : Int) = M := ⟨M.toNat, by omega⟩
  obtain ⟨z, hz⟩ : ∃ z, ((Lib.ctz 64 m : Nat) : Int) = z := ⟨_, rfl⟩
  have m0 : m ≠ 0 := by omega
  have m1 : m < 18446744073709551616 := by omega
  have hc : ¬ z < k := by
    have h1 := ctz_dvd (n := n - 64) m0 m1
    have h2 : m % 2 ^ (n - 64) = 0 ↔ M % 2 ^ (n - 64) = 0 := by
      rw [← hm]
      constructor
      · intro c
        have : ((m % 2 ^ (n - 64) : Nat) : Int) = 0 := by rw [c]; rfl
        rw [← this]
        push_cast
        rfl
      · intro c
        have : ((m % 2 ^ (n - 64) : Nat) : Int) = 0 := by
          rw [← c]
          push_cast
          rfl
        omega
    have h3 : n - 64 ≤ Lib.ctz 64 m ↔ M % 2 ^ (n - 64) = 0 := h1.trans h2
    have h4 := h3.2 hr
    omega
  have HSH : Hid (Op.shift .shr .u64 M .i64 k = pure (.int .u64 Q)) := Lib.hid (shr64_any (by omega) hM (by omega) (by rw [hkn]; exact hQ))
  have HQ : Hid (M / 2 ^ k.toNat = Q) := Lib.hid (by rw [hkn]; exact hQ)
  have HX := Lib.hid (show IntKind.i64.wrap (E + N) = X by rw [hX]; exact IntWalk.i64_in _ (by omega))
  have HK := Lib.hid (show IntKind.i64.wrap (N - 64) = k by rw [hk]; exact IntWalk.i64_in _ (by omega))
  have HM := Lib.hid hm; have HZ := Lib.hid hz; have HV := Lib.hid hV; have HO := Lib.hid (or_one (Q := Q) v1 (by omega))
  have m2 : ¬ N ≤ 64 := by omega
  obtain ⟨o, ho⟩ : ∃ o, Q / 2 * 2 + 1 = o := ⟨_, rfl⟩; rw [ho] at HO
  have ob : 0 ≤ o ∧ o < 18446744073709551616 := by omega
  have HOO := Lib.hid ho; clear hQ hX hN hm hz hV hr ho hkn hk
  go_enter Tryz.func100, Tryz.ntmps100
  go_upto_region 1 with (fail)
  generalize hW1 : (w.alloc _).alloc _ = w1 at *; obtain ⟨X2, XR, HB⟩ := Bo.en2 hW1; replace hT := hT.below HB.out; clear hW1; have xX2 := X2.cell; have hx := HX.out
  go_upto_region 2 with (fail)
  clear hx; clear xX2; have lX5 := Nat.le_refl (World.heap w1).size; have nX5X2 := X2.lt; have nX5XR := XR.lt; generalize hWn : w1.alloc _ = w2 at *; obtain ⟨X5, BW⟩ := Bo.nw hWn; clear hWn; replace X2 := X2.below BW; replace XR := XR.below BW; replace hT := hT.below BW; replace HB := Hqb HB BW; clear BW; clear lX5; have xX2 := X2.cell; have xX5 := X5.cell
  have zX50 := X5.frozen; have hkk := HK.out; have hsh := HSH.out; have hq := HQ.out
  go_upto_region 7 with (fail)
  clear hkk hsh hq; clear xX2 xX5 zX50
  have SX : StN w2 (World.setCell w2 ⟨w1.heap.size, 2, none⟩ (.int .u64 Q)) _ _ #[.bool s, .int .u64 0, .int .u64 Q, .int .i64 X] _ := StN.at4 X5 2 (.int .u64 Q)
  replace X2 := X2.stn SX (by omega); replace XR := XR.stn SX (by omega); replace hT := hT.stn SX (by simp [no8]); replace HB := Hqs HB SX (by omega); replace X5 := SX.box; clear SX; generalize World.setCell w2 ⟨w1.heap.size, 2, none⟩ (.int .u64 Q) = w3 at *; have xX2 := X2.cell
  go_wp2_with fail
  refine (aTz hT m0 m1 HM.out HZ.out).mono ?_; rintro ee w4 ⟨rfl, B⟩; clear xX2; replace X2 := X2.below B; replace XR := XR.below B; replace X5 := X5.below B; replace hT := hT.below B; replace HB := Hqb HB B; clear B; have xXR := XR.cell; have zXR0 := XR.frozen; have xX5 := X5.cell; go_wp2; clear xXR zXR0 xX5
  have SX := StN.mk4 XR (.bool s) (.int .u64 0) (.int .u64 Q) (.int .i64 X); exact bodyPost_ret (v := .agg #[.bool s, .int .u64 0, .int .u64 Q, .int .i64 X]) (by simp [results, Tryz.results100, go_sem, SX.box.cell]) rfl ⟨0, Q, rfl, ⟨by decide, by decide, v1, by omega, by rw [HV.out]; omega⟩, (SX.below HB.out (by omega))⟩
theorem moved_odd {w : World} {s : Bool} {M E N X : Int} {n : Nat} (hT : Tb w) (h0 : 9223372036854775808 ≤ M) (hM : M < 18446744073709551616) (hN : (n : Int) = N) (hX : E + N = X) (b1 : -2000000 ≤ E) (b2 : E ≤ 2000000) (n1 : 1 ≤ n) (n2 : 64 < n) (n3 : n ≤ 4000000) (hr : M % 2 ^ (n - 64) ≠ 0) : Calls Tryz.prog 100 #[.agg #[.int .i64 1, .bool s, .int .u64 M, .int .i64 E], .int .i64 N] w (PMv w s (mvd M n) X) := by
  obtain ⟨v1, v2⟩ := div_le_self (show 0 ≤ M by omega) (p2pos (n - 64))
  obtain ⟨Q, hQ⟩ : ∃ Q, M / 2 ^ (n - 64) = Q := ⟨_, rfl⟩; obtain ⟨k, hk⟩ : ∃ k, N - 64 = k := ⟨_, rfl⟩
  have hkn : k.toNat = n - 64 := by omega
  have k1 : 1 ≤ k := by omega
  rw [hQ] at v1 v2
  have hV : mvd M n = Q / 2 * 2 + 1 := by
    unfold mvd
    rw [if_neg (by omega), if_neg hr, hQ]
  obtain ⟨m, hm⟩ : ∃ m : Nat, (m : Int) = M := ⟨M.toNat, by omega⟩
  obtain ⟨z, hz⟩ : ∃ z, ((Lib.ctz 64 m : Nat) : Int) = z := ⟨_, rfl⟩
  have m0 : m ≠ 0 := by omega
  have m1 : m < 18446744073709551616 := by omega
  have hc : z < k := by
    have h1 := ctz_dvd (n := n - 64) m0 m1
    have h2 : m % 2 ^ (n - 64) = 0 ↔ M % 2 ^ (n - 64) = 0 := by
      rw [← hm]
      constructor
      · intro c
        have : ((m % 2 ^ (n - 64) : Nat) : Int) = 0 := by rw [c]; rfl
        rw [← this]
        push_cast
        rfl
      · intro c
        have : ((m % 2 ^ (n - 64) : Nat) : Int) = 0 := by
          rw [← c]
          push_cast
          rfl
        omega
    have h3 : n - 64 ≤ Lib.ctz 64 m ↔ M % 2 ^ (n - 64) = 0 := h1.trans h2
    have h4 : ¬ (n - 64 ≤ Lib.ctz 64 m) := fun c => hr (h3.1 c)
    omega
  have HSH : Hid (Op.shift .shr .u64 M .i64 k = pure (.int .u64 Q)) := Lib.hid (shr64_any (by omega) hM (by omega) (by rw [hkn]; exact hQ))
  have HQ : Hid (M / 2 ^ k.toNat = Q) := Lib.hid (by rw [hkn]; exact hQ)
  have HX := Lib.hid (show IntKind.i64.wrap (E + N) = X by rw [hX]; exact IntWalk.i64_in _ (by omega))
  have HK := Lib.hid (show IntKind.i64.wrap (N - 64) = k by rw [hk]; exact IntWalk.i64_in _ (by omega))
  have HM := Lib.hid hm; have HZ := Lib.hid hz; have HV := Lib.hid hV; have HO := Lib.hid (or_one (Q := Q) v1 (by omega))
  have m2 : ¬ N ≤ 64 := by omega
  obtain ⟨o, ho⟩ : ∃ o, Q / 2 * 2 + 1 = o := ⟨_, rfl⟩; rw [ho] at HO
  have ob : 0 ≤ o ∧ o < 18446744073709551616 := by omega
  have HOO := Lib.hid ho; clear hQ hX hN hm hz hV hr ho hkn hk
  go_enter Tryz.func100, Tryz.ntmps100
  go_upto_region 1 with (fail)
  generalize hW1 : (w.alloc _).alloc _ = w1 at *; obtain ⟨X2, XR, HB⟩ := Bo.en2 hW1; replace hT := hT.below HB.out; clear hW1; have xX2 := X2.cell; have hx := HX.out
  go_upto_region 2 with (fail)
  clear hx; clear xX2; have lX5 := Nat.le_refl (World.heap w1).size; have nX5X2 := X2.lt; have nX5XR := XR.lt; generalize hWn : w1.alloc _ = w2 at *; obtain ⟨X5, BW⟩ := Bo.nw hWn; clear hWn; replace X2 := X2.below BW; replace XR := XR.below BW; replace hT := hT.below BW; replace HB := Hqb HB BW; clear BW; clear lX5; have xX2 := X2.cell; have xX5 := X5.cell
  have zX50 := X5.frozen; have hkk := HK.out; have hsh := HSH.out; have hq := HQ.out
  go_upto_region 7 with (fail)
  clear hkk hsh hq; clear xX2 xX5 zX50
  have SX : StN w2 (World.setCell w2 ⟨w1.heap.size, 2, none⟩ (.int .u64 Q)) _ _ #[.bool s, .int .u64 0, .int .u64 Q, .int .i64 X] _ := StN.at4 X5 2 (.int .u64 Q)
  replace X2 := X2.stn SX (by omega); replace XR := XR.stn SX (by omega); replace hT := hT.stn SX (by simp [no8]); replace HB := Hqs HB SX (by omega); replace X5 := SX.box; clear SX; generalize World.setCell w2 ⟨w1.heap.size, 2, none⟩ (.int .u64 Q) = w3 at *; have xX2 := X2.cell
  go_wp2_with fail
  refine (aTz hT m0 m1 HM.out HZ.out).mono ?_; rintro ee w4 ⟨rfl, B⟩; clear xX2; replace X2 := X2.below B; replace XR := XR.below B; replace X5 := X5.below B; replace hT := hT.below B; replace HB := Hqb HB B; clear B; have xX5 := X5.cell; have zX50 := X5.frozen; have ho := HO.out
  go_upto_region 9 with (fail)
  clear ho; clear xX5 zX50
  have SX : StN w4 (World.setCell w4 ⟨w1.heap.size, 2, none⟩ (.int .u64 o)) _ _ #[.bool s, .int .u64 0, .int .u64 o, .int .i64 X] _ := StN.at4 X5 2 (.int .u64 o)
  replace X2 := X2.stn SX (by omega); replace XR := XR.stn SX (by omega); replace hT := hT.stn SX (by simp [no8]); replace HB := Hqs HB SX (by omega); replace X5 := SX.box; clear SX; generalize World.setCell w4 ⟨w1.heap.size, 2, none⟩ (.int .u64 o) = w5 at *; have xXR := XR.cell; have zXR0 := XR.frozen; have xX5 := X5.cell; go_wp2; clear xXR zXR0 xX5
  have SX := StN.mk4 XR (.bool s) (.int .u64 0) (.int .u64 o) (.int .i64 X); exact bodyPost_ret (v := .agg #[.bool s, .int .u64 0, .int .u64 o, .int .i64 X]) (by simp [results, Tryz.results100, go_sem, SX.box.cell]) rfl ⟨0, o, rfl, ⟨by decide, by decide, ob.1, ob.2, by rw [HV.out, HOO.out]; omega⟩, (SX.below HB.out (by omega))⟩
theorem aMoved {w : World} {s : Bool} {M E N X : Int} {n : Nat} (hT : Tb w) (h0 : 9223372036854775808 ≤ M) (hM : M < 18446744073709551616) (hN : (n : Int) = N) (hX : E + N = X) (b1 : -2000000 ≤ E) (b2 : E ≤ 2000000) (n1 : 1 ≤ n) (n3 : n ≤ 4000000) : Calls Tryz.prog 100 #[.agg #[.int .i64 1, .bool s, .int .u64 M, .int .i64 E], .int .i64 N] w (PMv w s (mvd M n) X) := by
  by_cases n2 : n ≤ 64
  · exact moved_low hT h0 hM hN hX b1 b2 n1 n2
  · by_cases hr : M % 2 ^ (n - 64) = 0
    · exact moved_even hT h0 hM hN hX b1 b2 n1 (by omega) n3 hr
    · exact moved_odd hT h0 hM hN hX b1 b2 n1 (by omega) n3 hr
theorem order_lt {w : World} {s1 s2 : Bool} {M1 M2 E1 E2 : Int} (h : E1 < E2) : Calls Tryz.prog 99 #[.agg #[.int .i64 1, .bool s1, .int .u64 M1, .int .i64 E1], .agg #[.int .i64 1, .bool s2, .int .u64 M2, .int .i64 E2]] w fun e w' => e = .returned (.tuple #[.agg #[.int .i64 1, .bool s2, .int .u64 M2, .int .i64 E2], .agg #[.int .i64 1, .bool s1, .int .u64 M1, .int .i64 E1]]) ∧ Below w.heap.size w w' := by
  go_enter Tryz.func99, Tryz.ntmps99
  go_upto_region 1 with (fail)
  generalize hW1 : (((w.alloc _).alloc _).alloc _).alloc _ = w1 at *; obtain ⟨X2, X3, X4, X5, HB⟩ := Bo.en4 hW1; clear hW1; have xX2 := X2.cell; have xX3 := X3.cell
  go_upto_region 2 with (fail)
  clear xX2 xX3; refine Jo.rl (w.heap.size + 1 + 1) #[.int .i64 1, .bool s2, .int .u64 M2, .int .i64 E2] 32 [0, 1, 2] [some 25, some 26, none, none] [[], [], [0], []] 4 1 [Jo.LFact.eq (.agg #[.int .i64 1, .bool s2, .int .u64 M2, .int .i64 E2]), Jo.LFact.eq (.agg #[.int .i64 1, .bool s1, .int .u64 M1, .int .i64 E1]), Jo.LFact.done, Jo.LFact.any] (by kernel_rfl) (by kernel_rfl) (by decide) rfl ?_ ?_
  · refine Jo.lm rfl ?_ ?_
    · rintro wj hJ K hK; simp only [Jo.z] at hK ⊢; replace X3 := X3.off (by omega) hJ; have xX3 := X3.cell; go_simp; exact hK.out _ _ rfl (Jo.Off.refl _ _ _ _)
    refine Jo.lm rfl ?_ ?_
    · rintro wj hJ K hK; simp only [Jo.z] at hK ⊢; replace X2 := X2.off (by omega) hJ; have xX2 := X2.cell; go_simp; exact hK.out _ _ rfl (Jo.Off.refl _ _ _ _)
    refine Jo.lm rfl ?_ ?_
    · rintro wj hJ _ rfl K hK; simp only [Jo.z] at hK ⊢
      obtain ⟨v0, v1, v2, v3, XO⟩ : ∃ v0 v1 v2 v3, Bo wj (w.heap.size + 1 + 1) #[v0, v1, v2, v3] 32 := by
        rcases hJ.own with e | e
        · exact ⟨_, _, _, _, X4.keep e⟩
        · exact ⟨_, _, _, _, e⟩
      have y0 := XO.a 0 (v0) rfl; have u0 := XO.frozen 0; have y1 := XO.a 1 (v1) rfl; have u1 := XO.frozen 1; have y2 := XO.a 2 (v2) rfl; have u2 := XO.frozen 2; have y3 := XO.a 3 (v3) rfl; have u3 := XO.frozen 3; go_simp; have SX := StN.mk4 XO (.int .i64 1) (.bool s2) (.int .u64 M2) (.int .i64 E2); exact hK.out undef _ SX.box (Jo.Off.of_stn SX)
    exact Jo.Steps.nil
  rintro w2 hJ _ rfl _ rfl u2 d2 -; simp only [Jo.z]; replace HB := Lib.hid (hJ.below HB.out (by omega) X4.lt); replace X2 := X2.off (by omega) hJ; replace X3 := X3.off (by omega) hJ; replace X5 := X5.off (by omega) hJ
  replace X4 : Bo w2 (w.heap.size + 1 + 1) #[.int .i64 1, .bool s2, .int .u64 M2, .int .i64 E2] 32 := d2
  have xX5 := X5.cell; have zX50 := X5.frozen
  refine Jo.jnext (i := 3) (o := ⟨none, _, _, _, _, _⟩) (by kernel_rfl) rfl (fun K hK => ?_)
  go_simp; refine hK.out _ _ ?_; clear hK K xX5 zX50; generalize hS : (((w2.setCell _ _).setCell _ _).setCell _ _).setCell _ _ = w3 at *; have SX := StN.of4 X5 hS; replace X2 := X2.stn SX (by omega); replace X3 := X3.stn SX (by omega); replace X4 := X4.stn SX (by omega); replace HB := Hqs HB SX (by omega); replace X5 := SX.box; clear SX hS; refine Jo.jdone (by kernel_rfl) ?_
  go_wp2; exact bodyPost_ret (v := .tuple #[.agg #[.int .i64 1, .bool s2, .int .u64 M2, .int .i64 E2], .agg #[.int .i64 1, .bool s1, .int .u64 M1, .int .i64 E1]]) (by simp [results, Tryz.results99, go_sem, X4.cell, X5.cell]) rfl ⟨rfl, HB.out⟩
theorem order_eqlt {w : World} {s1 s2 : Bool} {M1 M2 E1 E2 : Int} (h : E1 = E2) (hm : M1 < M2) : Calls Tryz.prog 99 #[.agg #[.int .i64 1, .bool s1, .int .u64 M1, .int .i64 E1], .agg #[.int .i64 1, .bool s2, .int .u64 M2, .int .i64 E2]] w fun e w' => e = .returned (.tuple #[.agg #[.int .i64 1, .bool s2, .int .u64 M2, .int .i64 E2], .agg #[.int .i64 1, .bool s1, .int .u64 M1, .int .i64 E1]]) ∧ Below w.heap.size w w' := by
  subst h
  have h1 : ¬ E1 < E1 := by omega
  go_enter Tryz.func99, Tryz.ntmps99
  go_upto_region 1 with (fail)
  generalize hW1 : (((w.alloc _).alloc _).alloc _).alloc _ = w1 at *; obtain ⟨X2, X3, X4, X5, HB⟩ := Bo.en4 hW1; clear hW1; have xX2 := X2.cell; have xX3 := X3.cell
  go_upto_region 2 with (fail)
  clear xX2 xX3; refine Jo.rl (w.heap.size + 1 + 1) #[.int .i64 1, .bool s2, .int .u64 M2, .int .i64 E1] 32 [0, 1, 2] [some 25, some 26, none, none] [[], [], [0], []] 4 1 [Jo.LFact.eq (.agg #[.int .i64 1, .bool s2, .int .u64 M2, .int .i64 E1]), Jo.LFact.eq (.agg #[.int .i64 1, .bool s1, .int .u64 M1, .int .i64 E1]), Jo.LFact.done, Jo.LFact.any] (by kernel_rfl) (by kernel_rfl) (by decide) rfl ?_ ?_
  · refine Jo.lm rfl ?_ ?_
    · rintro wj hJ K hK; simp only [Jo.z] at hK ⊢; replace X3 := X3.off (by omega) hJ; have xX3 := X3.cell; go_simp; exact hK.out _ _ rfl (Jo.Off.refl _ _ _ _)
    refine Jo.lm rfl ?_ ?_
    · rintro wj hJ K hK; simp only [Jo.z] at hK ⊢; replace X2 := X2.off (by omega) hJ; have xX2 := X2.cell; go_simp; exact hK.out _ _ rfl (Jo.Off.refl _ _ _ _)
    refine Jo.lm rfl ?_ ?_
    · rintro wj hJ _ rfl K hK; simp only [Jo.z] at hK ⊢
      obtain ⟨v0, v1, v2, v3, XO⟩ : ∃ v0 v1 v2 v3, Bo wj (w.heap.size + 1 + 1) #[v0, v1, v2, v3] 32 := by
        rcases hJ.own with e | e
        · exact ⟨_, _, _, _, X4.keep e⟩
        · exact ⟨_, _, _, _, e⟩
      have y0 := XO.a 0 (v0) rfl; have u0 := XO.frozen 0; have y1 := XO.a 1 (v1) rfl; have u1 := XO.frozen 1; have y2 := XO.a 2 (v2) rfl; have u2 := XO.frozen 2; have y3 := XO.a 3 (v3) rfl; have u3 := XO.frozen 3; go_simp; have SX := StN.mk4 XO (.int .i64 1) (.bool s2) (.int .u64 M2) (.int .i64 E1); exact hK.out undef _ SX.box (Jo.Off.of_stn SX)
    exact Jo.Steps.nil
  rintro w2 hJ _ rfl _ rfl u2 d2 -; simp only [Jo.z]; replace HB := Lib.hid (hJ.below HB.out (by omega) X4.lt); replace X2 := X2.off (by omega) hJ; replace X3 := X3.off (by omega) hJ; replace X5 := X5.off (by omega) hJ
  replace X4 : Bo w2 (w.heap.size + 1 + 1) #[.int .i64 1, .bool s2, .int .u64 M2, .int .i64 E1] 32 := d2
  have xX5 := X5.cell; have zX50 := X5.frozen
  refine Jo.jnext (i := 3) (o := ⟨none, _, _, _, _, _⟩) (by kernel_rfl) rfl (fun K hK => ?_)
  go_simp; refine hK.out _ _ ?_; clear hK K xX5 zX50; generalize hS : (((w2.setCell _ _).setCell _ _).setCell _ _).setCell _ _ = w3 at *; have SX := StN.of4 X5 hS; replace X2 := X2.stn SX (by omega); replace X3 := X3.stn SX (by omega); replace X4 := X4.stn SX (by omega); replace HB := Hqs HB SX (by omega); replace X5 := SX.box; clear SX hS; refine Jo.jdone (by kernel_rfl) ?_
  go_wp2; exact bodyPost_ret (v := .tuple #[.agg #[.int .i64 1, .bool s2, .int .u64 M2, .int .i64 E1], .agg #[.int .i64 1, .bool s1, .int .u64 M1, .int .i64 E1]]) (by simp [results, Tryz.results99, go_sem, X4.cell, X5.cell]) rfl ⟨rfl, HB.out⟩
theorem order_eqge {w : World} {s1 s2 : Bool} {M1 M2 E1 E2 : Int} (h : E1 = E2) (hm : ¬ M1 < M2) : Calls Tryz.prog 99 #[.agg #[.int .i64 1, .bool s1, .int .u64 M1, .int .i64 E1], .agg #[.int .i64 1, .bool s2, .int .u64 M2, .int .i64 E2]] w fun e w' => e = .returned (.tuple #[.agg #[.int .i64 1, .bool s1, .int .u64 M1, .int .i64 E1], .agg #[.int .i64 1, .bool s2, .int .u64 M2, .int .i64 E2]]) ∧ Below w.heap.size w w' := by
  subst h
  have h1 : ¬ E1 < E1 := by omega
  go_enter Tryz.func99, Tryz.ntmps99
  go_upto_region 1 with (fail)
  generalize hW1 : (((w.alloc _).alloc _).alloc _).alloc _ = w1 at *; obtain ⟨X2, X3, X4, X5, HB⟩ := Bo.en4 hW1; clear hW1; have xX2 := X2.cell; have xX3 := X3.cell
  go_upto_region 3 with (fail)
  clear xX2 xX3; refine Jo.rl (w.heap.size + 1 + 1) #[.int .i64 1, .bool s1, .int .u64 M1, .int .i64 E1] 32 [0, 1, 2] [some 27, some 28, none, none] [[], [], [0], []] 4 1 [Jo.LFact.eq (.agg #[.int .i64 1, .bool s1, .int .u64 M1, .int .i64 E1]), Jo.LFact.eq (.agg #[.int .i64 1, .bool s2, .int .u64 M2, .int .i64 E1]), Jo.LFact.done, Jo.LFact.any] (by kernel_rfl) (by kernel_rfl) (by decide) rfl ?_ ?_
  · refine Jo.lm rfl ?_ ?_
    · rintro wj hJ K hK; simp only [Jo.z] at hK ⊢; replace X2 := X2.off (by omega) hJ; have xX2 := X2.cell; go_simp; exact hK.out _ _ rfl (Jo.Off.refl _ _ _ _)
    refine Jo.lm rfl ?_ ?_
    · rintro wj hJ K hK; simp only [Jo.z] at hK ⊢; replace X3 := X3.off (by omega) hJ; have xX3 := X3.cell; go_simp; exact hK.out _ _ rfl (Jo.Off.refl _ _ _ _)
    refine Jo.lm rfl ?_ ?_
    · rintro wj hJ _ rfl K hK; simp only [Jo.z] at hK ⊢
      obtain ⟨v0, v1, v2, v3, XO⟩ : ∃ v0 v1 v2 v3, Bo wj (w.heap.size + 1 + 1) #[v0, v1, v2, v3] 32 := by
        rcases hJ.own with e | e
        · exact ⟨_, _, _, _, X4.keep e⟩
        · exact ⟨_, _, _, _, e⟩
      have y0 := XO.a 0 (v0) rfl; have u0 := XO.frozen 0; have y1 := XO.a 1 (v1) rfl; have u1 := XO.frozen 1; have y2 := XO.a 2 (v2) rfl; have u2 := XO.frozen 2; have y3 := XO.a 3 (v3) rfl; have u3 := XO.frozen 3; go_simp; have SX := StN.mk4 XO (.int .i64 1) (.bool s1) (.int .u64 M1) (.int .i64 E1); exact hK.out undef _ SX.box (Jo.Off.of_stn SX)
    exact Jo.Steps.nil
  rintro w2 hJ _ rfl _ rfl u2 d2 -; simp only [Jo.z]; replace HB := Lib.hid (hJ.below HB.out (by omega) X4.lt); replace X2 := X2.off (by omega) hJ; replace X3 := X3.off (by omega) hJ; replace X5 := X5.off (by omega) hJ
  replace X4 : Bo w2 (w.heap.size + 1 + 1) #[.int .i64 1, .bool s1, .int .u64 M1, .int .i64 E1] 32 := d2
  have xX5 := X5.cell; have zX50 := X5.frozen
  refine Jo.jnext (i := 3) (o := ⟨none, _, _, _, _, _⟩) (by kernel_rfl) rfl (fun K hK => ?_)
  go_simp; refine hK.out _ _ ?_; clear hK K xX5 zX50; generalize hS : (((w2.setCell _ _).setCell _ _).setCell _ _).setCell _ _ = w3 at *; have SX := StN.of4 X5 hS; replace X2 := X2.stn SX (by omega); replace X3 := X3.stn SX (by omega); replace X4 := X4.stn SX (by omega); replace HB := Hqs HB SX (by omega); replace X5 := SX.box; clear SX hS; refine Jo.jdone (by kernel_rfl) ?_
  go_wp2; exact bodyPost_ret (v := .tuple #[.agg #[.int .i64 1, .bool s1, .int .u64 M1, .int .i64 E1], .agg #[.int .i64 1, .bool s2, .int .u64 M2, .int .i64 E1]]) (by simp [results, Tryz.results99, go_sem, X4.cell, X5.cell]) rfl ⟨rfl, HB.out⟩
theorem order_gt {w : World} {s1 s2 : Bool} {M1 M2 E1 E2 : Int} (h : E2 < E1) : Calls Tryz.prog 99 #[.agg #[.int .i64 1, .bool s1, .int .u64 M1, .int .i64 E1], .agg #[.int .i64 1, .bool s2, .int .u64 M2, .int .i64 E2]] w fun e w' => e = .returned (.tuple #[.agg #[.int .i64 1, .bool s1, .int .u64 M1, .int .i64 E1], .agg #[.int .i64 1, .bool s2, .int .u64 M2, .int .i64 E2]]) ∧ Below w.heap.size w w' := by
  have h1 : ¬ E1 < E2 := by omega
  have h2 : (E1 == E2) = false := by
    have : E1 ≠ E2 := by omega
    simpa using this
  go_enter Tryz.func99, Tryz.ntmps99
  go_upto_region 1 with (fail)
  generalize hW1 : (((w.alloc _).alloc _).alloc _).alloc _ = w1 at *; obtain ⟨X2, X3, X4, X5, HB⟩ := Bo.en4 hW1; clear hW1; have xX2 := X2.cell; have xX3 := X3.cell
  go_upto_region 3 with (fail)
  clear xX2 xX3; refine Jo.rl (w.heap.size + 1 + 1) #[.int .i64 1, .bool s1, .int .u64 M1, .int .i64 E1] 32 [0, 1, 2] [some 27, some 28, none, none] [[], [], [0], []] 4 1 [Jo.LFact.eq (.agg #[.int .i64 1, .bool s1, .int .u64 M1, .int .i64 E1]), Jo.LFact.eq (.agg #[.int .i64 1, .bool s2, .int .u64 M2, .int .i64 E2]), Jo.LFact.done, Jo.LFact.any] (by kernel_rfl) (by kernel_rfl) (by decide) rfl ?_ ?_
  · refine Jo.lm rfl ?_ ?_
    · rintro wj hJ K hK; simp only [Jo.z] at hK ⊢; replace X2 := X2.off (by omega) hJ; have xX2 := X2.cell; go_simp; exact hK.out _ _ rfl (Jo.Off.refl _ _ _ _)
    refine Jo.lm rfl ?_ ?_
    · rintro wj hJ K hK; simp only [Jo.z] at hK ⊢; replace X3 := X3.off (by omega) hJ; have xX3 := X3.cell; go_simp; exact hK.out _ _ rfl (Jo.Off.refl _ _ _ _)
    refine Jo.lm rfl ?_ ?_
    · rintro wj hJ _ rfl K hK; simp only [Jo.z] at hK ⊢
      obtain ⟨v0, v1, v2, v3, XO⟩ : ∃ v0 v1 v2 v3, Bo wj (w.heap.size + 1 + 1) #[v0, v1, v2, v3] 32 := by
        rcases hJ.own with e | e
        · exact ⟨_, _, _, _, X4.keep e⟩
        · exact ⟨_, _, _, _, e⟩
      have y0 := XO.a 0 (v0) rfl; have u0 := XO.frozen 0; have y1 := XO.a 1 (v1) rfl; have u1 := XO.frozen 1; have y2 := XO.a 2 (v2) rfl; have u2 := XO.frozen 2; have y3 := XO.a 3 (v3) rfl; have u3 := XO.frozen 3; go_simp; have SX := StN.mk4 XO (.int .i64 1) (.bool s1) (.int .u64 M1) (.int .i64 E1); exact hK.out undef _ SX.box (Jo.Off.of_stn SX)
    exact Jo.Steps.nil
  rintro w2 hJ _ rfl _ rfl u2 d2 -; simp only [Jo.z]; replace HB := Lib.hid (hJ.below HB.out (by omega) X4.lt); replace X2 := X2.off (by omega) hJ; replace X3 := X3.off (by omega) hJ; replace X5 := X5.off (by omega) hJ
  replace X4 : Bo w2 (w.heap.size + 1 + 1) #[.int .i64 1, .bool s1, .int .u64 M1, .int .i64 E1] 32 := d2
  have xX5 := X5.cell; have zX50 := X5.frozen
  refine Jo.jnext (i := 3) (o := ⟨none, _, _, _, _, _⟩) (by kernel_rfl) rfl (fun K hK => ?_)
  go_simp; refine hK.out _ _ ?_; clear hK K xX5 zX50; generalize hS : (((w2.setCell _ _).setCell _ _).setCell _ _).setCell _ _ = w3 at *; have SX := StN.of4 X5 hS; replace X2 := X2.stn SX (by omega); replace X3 := X3.stn SX (by omega); replace X4 := X4.stn SX (by omega); replace HB := Hqs HB SX (by omega); replace X5 := SX.box; clear SX hS; refine Jo.jdone (by kernel_rfl) ?_
  go_wp2; exact bodyPost_ret (v := .tuple #[.agg #[.int .i64 1, .bool s1, .int .u64 M1, .int .i64 E1], .agg #[.int .i64 1, .bool s2, .int .u64 M2, .int .i64 E2]]) (by simp [results, Tryz.results99, go_sem, X4.cell, X5.cell]) rfl ⟨rfl, HB.out⟩
end Go.Proofs.YtpnmphofengoeaaGreatDoor
