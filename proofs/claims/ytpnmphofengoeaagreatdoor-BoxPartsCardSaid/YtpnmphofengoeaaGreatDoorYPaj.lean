/-
  Contracts and words that the statement's proof rests on: Refa, Refb, Refl, Refc, Refd, Refr, Refh.
-/
import Derived.Test.YtpnmphofengoeaaGreatDoorYPaf
import Derived.Test.YtpnmphofengoeaaGreatDoorYPag
namespace Go.Proofs.YtpnmphofengoeaaGreatDoor
set_option maxHeartbeats 1000000
open Go.RowKit
set_option linter.unusedVariables false

theorem Ar.nm {w : World} {base n c v : Nat} {A : Option Addr} (h : Ar w base A n c (limbs v)) (hn : n ≤ 1099511627776) : Nm w A n c v := by
  obtain ⟨g, h⟩ := h.slice hn; exact ⟨g, h⟩

theorem rTrim {w : World} {A : Option Addr} {n c v : Nat} (h1 : Rd w A n c v) : Calls Tryz.prog 107 #[.slice A n c] w (P1 w n v) := by
  have hle := h1.limbs_le; obtain ⟨b, xs, h, rfl⟩ := h1; have hc := h.cap; have hb := h.big
  go_enter Tryz.func107, Tryz.ntmps107
  go_wp2
  go_loop [3] (fun i => ∃ k : Nat, k ≤ n ∧ i = .int .i64 k ∧ val (xs.drop k) = 0) (fun i => (intOf i).toNat)
  case atStart => exact ⟨n, Nat.le_refl _, rfl, by rw [List.drop_of_length_le (by rw [h.len]; omega)]; rfl⟩
  case round =>
    obtain ⟨k, hk, rfl, hz⟩ := hrel; have HZ := Lib.hid hz; clear hz
    by_cases hk0 : 0 < k ∧ xs.getD (k - 1) 0 = 0
    · obtain ⟨hk0, hx⟩ := hk0; obtain ⟨o, rfl, hcell⟩ := h.at (by omega); have hck := hcell (k - 1) (by omega)
      have hi : ((k : Int) - 1).toNat = k - 1 := by omega
      clear hcell; rw [hx] at hck; have HX := Lib.hid hx; clear hx; go_wp2
      go_round
      case rel =>
        refine ⟨k - 1, by omega, by go_num, ?_⟩
        have hl := h.len
        rw [val_drop (by omega), show k - 1 + 1 = k by omega, HZ.out, HX.out]
      case measure => simp [intOf]; omega
    · have hT := take_eq_limbs h.lim (by have := h.len; omega) HZ.out (fun h0 e => hk0 ⟨h0, e⟩)
      have hsl := h.take hk; rw [hT] at hsl
      have HT : Hid (k = (limbs (val xs)).length) := by show k = _; rw [hsl.len]
      have hlk := hsl.len
      have HP : Hid (∀ A2 c2 w', Ar w' w.heap.size A2 (0 + k) c2 ([] ++ limbs (val xs)) → Below w.heap.size w w' → P1 w n (val xs) (.returned (.slice A2 k c2)) w') := by
        intro A2 c2 w' ha hbl
        rw [Nat.zero_add, List.nil_append] at ha; exact ⟨A2, k, c2, rfl, ha.nm (by omega), hk, hbl⟩
      have HS := Lib.hid hsl; clear hT hsl hlk
      by_cases hp : 0 < k
      · obtain ⟨o, rfl, hcell⟩ := h.at (by omega); have hck := hcell (k - 1) (by omega)
        have hi : ((k : Int) - 1).toNat = k - 1 := by omega
        have hx' : ((xs.getD (k - 1) 0 : Nat) : Int) ≠ 0 := by
          intro e
          exact hk0 ⟨hp, by omega⟩
        clear hk0 hcell
        revert hck hx'
        generalize xs.getD (k - 1) 0 = x
        intro hck hx'
        have hx2 : ((x : Int) == 0) = false := by simpa using hx'
        go_wp2_with (with_reducible refine wpList_app rfl (.const (.slice none 0 0)) (.tmp 20) 79 rfl Tryz.underlying79 rfl rfl (Ar.nil w w.heap.size) HS.out (by omega) (Nat.le_refl _) ?_; intro A2 c2 w2 ha hbl)
        go_ret
        exact HP.out _ _ _ ha hbl
      · obtain rfl : k = 0 := by omega
        go_wp2_with (with_reducible refine wpList_app rfl (.const (.slice none 0 0)) (.tmp 20) 79 rfl Tryz.underlying79 rfl rfl (Ar.nil w w.heap.size) HS.out (by omega) (Nat.le_refl _) ?_; intro A2 c2 w2 ha hbl)
        go_ret
        exact HP.out _ _ _ ha hbl

theorem rAt (w : World) (b : Nat) (A : Option Addr) (n c : Nat) (xs : List Nat) (h : Sl w b A n c xs) (i : Nat) (hi : i ≤ 1099511627776) :
    Calls Tryz.prog 110 #[.slice A n c, .int .i64 (i : Int)] w fun e w' => e = .returned (.int .u64 ((xs.getD i 0 : Nat) : Int)) ∧ w = w' := by
  have hb := h.big
  by_cases hin : i < n
  · obtain ⟨o, rfl, hc⟩ := h.at (by omega); have hck := hc i hin; have hx := h.lim.getD i; clear hc h
    revert hck hx
    generalize xs.getD i 0 = x
    intro hck hx
    go_enter Tryz.func110, Tryz.ntmps110
    go_wp2
    go_ret
    exact ⟨rfl, rfl⟩
  · rw [getD_beyond (by rw [h.len]; omega)]; clear h
    go_enter Tryz.func110, Tryz.ntmps110
    go_wp2
    go_ret
    exact ⟨rfl, rfl⟩

def RaddInv (w : World) (xs ys : List Nat) (k cy : Nat) (v : Value) (wr : World) : Prop :=
  ∃ A c zs, v = .slice A k c ∧ Ar wr w.heap.size A k c zs ∧ Below w.heap.size w wr ∧ cy ≤ 1 ∧ val zs + cy * 4294967296 ^ k = val (xs.take k) + val (ys.take k)

theorem rAdd {w : World} {A1 A2 : Option Addr} {n m c1 c2 a b : Nat} (h1 : Rd w A1 n c1 a) (h2 : Rd w A2 m c2 b) (hn : n ≤ 1073741824) (hm : m ≤ 1073741824) :
    Calls Tryz.prog 97 #[.slice A1 n c1, .slice A2 m c2] w (P1 w (n + m + 1) (a + b)) := by
  have hL := limbs_add_len h1.bound h2.bound; obtain ⟨b1, xs, h1, rfl⟩ := h1; obtain ⟨b2, ys, h2, rfl⟩ := h2; have H1 := Lib.hid h1.len; have H2 := Lib.hid h2.len
  go_enter Tryz.func97, Tryz.ntmps97
  go_wp2
  go_loopw [5, 6, 7] (fun v u i wr => ∃ k cy : Nat, k ≤ max n m + 1 ∧ (max n m < k → cy = 0) ∧ i = .int .i64 k ∧ u = .int .u64 cy ∧ RaddInv w xs ys k cy v wr) (fun _ _ i _ => n + m + 2 - (intOf i).toNat)
  case atStart => exact ⟨0, 0, Nat.zero_le _, fun _ => rfl, rfl, rfl, none, 0, [], rfl, Ar.nil _ _, Below.refl _ _, by omega, by simp [val]⟩
  case round =>
    obtain ⟨k, cy, hk, hor, rfl, rfl, hI⟩ := hrel; obtain ⟨A, c, zs, rfl, ha, hbl, hcy, hv⟩ := hI; have HV := Lib.hid hv; have HA := Lib.hid ha; have HB := Lib.hid hbl; clear hv ha hbl
    have hkb : k ≤ 2147483649 := by omega
    by_cases hgo : k < n ∨ k < m ∨ 0 < cy
    · have hkm : k ≤ max n m := by
        rcases Nat.lt_or_ge (max n m) k with e | e
        · have := hor e; omega
        · exact e
      have s1 := h1.below HB.out; have s2 := h2.below HB.out; have bx := h1.lim.getD k
      have by' := h2.lim.getD k
      have HG1 := Lib.hid (rAt wr b1 A1 n c1 xs s1 k (by omega)); have HG2 := Lib.hid (rAt wr b2 A2 m c2 ys s2 k (by omega))
      have HST : Hid (∀ x y, xs.getD k 0 = x → ys.getD k 0 = y → val (xs.take (k + 1)) + val (ys.take (k + 1)) = (val (xs.take k) + 4294967296 ^ k * x) + (val (ys.take k) + 4294967296 ^ k * y) ∧ (n ≤ k → x = 0) ∧ (m ≤ k → y = 0)) := fun x y hx hy => by
        refine ⟨by rw [val_take_more, val_take_more, hx, hy], fun h => ?_, fun h => ?_⟩
        · rw [← hx]; exact getD_beyond (by rw [H1.out]; exact h)
        · rw [← hy]; exact getD_beyond (by rw [H2.out]; exact h)
      have HST' := Lib.hid (HST.out _ _ rfl rfl)
      clear HST s1 s2
      revert HG1 HG2 bx by' HST'
      generalize xs.getD k 0 = x; generalize ys.getD k 0 = y
      intro bx by' HG1 HG2 HST
      obtain ⟨t, ht, e1⟩ : ∃ t : Nat, t = (x + y + cy) % 4294967296 ∧ ((x : Int) + y + cy) % 4294967296 = t := ⟨_, rfl, by omega⟩
      obtain ⟨u, hu, e2⟩ : ∃ u : Nat, u = (x + y + cy) / 4294967296 ∧ ((x : Int) + y + cy) / 4294967296 = u := ⟨_, rfl, by omega⟩
      have bt : t < 4294967296 := by omega
      have e3 : (t : Int) % 4294967296 = t := by omega
      have HN : Hid (∀ A3 c3 w3, Ar w3 w.heap.size A3 (k + 1) c3 (zs ++ [t]) → Below w.heap.size (wr.alloc (.cells #[.int .u32 (t : Int)] 74)) w3 → k + 1 ≤ max n m + 1 ∧ (max n m < k + 1 → u = 0) ∧ RaddInv w xs ys (k + 1) u (.slice A3 (k + 1) c3) w3) := by
        intro A3 c3 w3 ha3 hb3
        refine ⟨by omega, fun h => ?_, A3, c3, _, rfl, ha3, (HB.out.alloc HB.out.size _).trans hb3, by omega, ?_⟩
        · have hx0 : n ≤ k := by omega
          have hy0 : m ≤ k := by omega
          have := HST.out.2.1 hx0
          have := HST.out.2.2 hy0
          omega
        · rw [val_snoc, HA.out.len, HST.out.1, Nat.pow_succ, ht, hu]; exact add_step HV.out
      clear ht hu HV HST hor; have sl1 := lit1 wr t bt
      go_wp2_with (first
        | (go_at_call 110; ((with_reducible refine HG1.out.mono ?_); rintro e w' ⟨rfl, rfl⟩))
        | (go_at_call 110; ((with_reducible refine HG2.out.mono ?_); rintro e w' ⟨rfl, rfl⟩))
        | (with_reducible refine wpList_app rfl (.tmp 34) (.tmp 38) 79 rfl Tryz.underlying79 rfl rfl (HA.out.alloc _) sl1 (by omega) (HB.out.alloc HB.out.size _).size ?_; intro A3 c3 w3 ha3 hb3; have HN3 := Lib.hid (HN.out A3 c3 w3 ha3 hb3); clear ha3 hb3))
      all_goals
        go_roundw
        case rel => exact ⟨k + 1, u, HN3.out.1, HN3.out.2.1, by go_num, by first | rfl | rw [e2], HN3.out.2.2⟩
        case measure => simp [intOf]; omega
    · have hkn : n ≤ k := by omega
      have hkm : m ≤ k := by omega
      obtain rfl : cy = 0 := by omega
      obtain ⟨g, hs⟩ := HA.out.slice (by omega); have hv := HV.out; rw [val_take_all (by rw [H1.out]; exact hkn), val_take_all (by rw [H2.out]; exact hkm), Nat.zero_mul, Nat.add_zero] at hv; have HT := Lib.hid (rTrim ⟨g, zs, hs, hv⟩); clear hv HV hgo hor hs
      go_wp2_with (go_at_call 107; ((with_reducible refine HT.out.mono ?_); rintro e w4 ⟨A4, n4, c4, rfl, hm4, hk4, hb4⟩))
      go_ret
      have := hm4.len
      exact ⟨A4, n4, c4, rfl, hm4, by omega, HB.out.trans (hb4.mono HB.out.size)⟩

theorem rCmp {w : World} {A1 A2 : Option Addr} {n m c1 c2 a b : Nat} {z : Int} (h1 : Rd w A1 n c1 a) (h2 : Rd w A2 m c2 b) (hz : cmpI (a : Int) (b : Int) = z) :
    Calls Tryz.prog 119 #[.slice A1 n c1, .slice A2 m c2] w (PI w z) := by
  have HT1 := Lib.hid (rTrim h1); have HZ := Lib.hid hz; clear hz
  go_enter Tryz.func119, Tryz.ntmps119
  go_wp2_with (go_at_call 107; ((with_reducible refine HT1.out.mono ?_); rintro e w3 ⟨A3, p, c3, rfl, s3, k3, B3⟩; replace h2 := h2.below B3; have HB := Lib.hid B3; clear B3))
  refine (rTrim h2).mono ?_; rintro e w4 ⟨A4, q, c4, rfl, s4, k4, B4⟩; replace s3 := s3.below B4; replace HB := Lib.hid (HB.out.trans (B4.mono HB.out.size)); clear B4 HT1 h1 h2; have l3 := s3.len; have l4 := s4.len; obtain ⟨b3, s3⟩ := s3; obtain ⟨b4, s4⟩ := s4; have hb3 := s3.big; have hb4 := s4.big
  by_cases hpq : p = q
  · subst hpq
    have hne' : ((p : Int) != (p : Int)) = false := by simp
    have HL3 := Lib.hid l3; have HL4 := Lib.hid l4; clear l3 l4
    go_wp2_with fail
    go_loopw [7] (fun i wr => ∃ k t : Nat, k ≤ p ∧ i = .int .i64 ((p : Int) - 1 - k) ∧ wr = w4.drewN t ∧ val ((limbs a).drop (p - k)) = val ((limbs b).drop (p - k))) (fun i _ => (intOf i + 1).toNat)
    case atStart => exact ⟨0, 0, Nat.zero_le _, by go_num, rfl, by rw [List.drop_of_length_le (by rw [HL3.out]; omega), List.drop_of_length_le (by rw [HL4.out]; omega)]⟩
    case round =>
      obtain ⟨k, t, hk, rfl, rfl, hz⟩ := hrel; have HZZ := Lib.hid hz; clear hz
      by_cases hlt : k < p
      · obtain ⟨o3, rfl, j3⟩ := s3.at (by omega); obtain ⟨o4, rfl, j4⟩ := s4.at (by omega); have g3 := j3 (p - 1 - k) (by omega); have g4 := j4 (p - 1 - k) (by omega); clear j3 j4; have HX := Lib.hid (val_limb_cases (lim_limbs a) (lim_limbs b) HL3.out HL4.out hlt HZZ.out); rw [val_limbs, val_limbs] at HX
        revert g3 g4 HX
        generalize (limbs a).getD (p - 1 - k) 0 = x; generalize (limbs b).getD (p - 1 - k) 0 = y
        intro g3 g4 HX
        have i1 : ((p : Int) - 1 - k).toNat = p - 1 - k := by omega
        have i2 : 0 ≤ (p : Int) - 1 - k := by omega
        rcases Nat.lt_trichotomy x y with hxy | hxy | hxy
        · have HR : Hid ((-1 : Int) = z) := by show _ = _; rw [← HZ.out]; exact (cmpI_lt (by have := HX.out.1 hxy; omega)).symm
          have hxy' : decide ((x : Int) < y) = true := by simp; omega
          clear HX; go_wp2
          go_quiet (fail)
          go_wp2
          go_ret
          exact ⟨ret_int HR.out, by first | exact below_drewN HB.out _ | exact below_drewN (below_drewN HB.out _) _⟩
        · subst hxy
          have hxy' : decide ((x : Int) < x) = false := by simp
          have hD := HX.out.2.2 rfl; have HD := Lib.hid hD; clear HX hD; go_wp2
          go_quiet (fail)
          go_wp2
          go_quiet (fail)
          go_wp2
          go_roundw
          case rel => exact ⟨k + 1, _, by omega, by go_num, by first | rfl | rw [World.drewN_drewN] | rw [World.drewN_drewN, World.drewN_drewN], by rw [show p - (k + 1) = p - 1 - k by omega]; exact HD.out⟩
          case measure => simp [intOf]; omega
        · have HR : Hid ((1 : Int) = z) := by show _ = _; rw [← HZ.out]; exact (cmpI_gt (by have := HX.out.2.1 hxy; omega)).symm
          have hxy' : decide ((x : Int) < y) = false := by simp; omega
          have hxy2 : decide ((y : Int) < x) = true := by simp; omega
          clear HX; go_wp2
          go_quiet (fail)
          go_wp2
          go_quiet (fail)
          go_wp2
          go_ret
          exact ⟨ret_int HR.out, below_drewN (below_drewN (below_drewN HB.out _) _) _⟩
      · obtain rfl : k = p := by omega
        have e := HZZ.out; rw [Nat.sub_self, List.drop_zero, List.drop_zero, val_limbs, val_limbs] at e
        have HR : Hid ((0 : Int) = z) := by show _ = _; rw [← HZ.out]; exact (cmpI_eq (by omega)).symm
        clear e HZZ; go_wp2
        go_ret
        exact ⟨ret_int HR.out, below_drewN HB.out _⟩
  · have hne' : ((p : Int) != (q : Int)) = true := by simp; omega
    by_cases hlt : p < q
    · have HR : Hid ((-1 : Int) = z) := by show _ = _; rw [← HZ.out]; exact (cmpI_lt (by have := limbs_length_lt_of_lt (a := a) (b := b) (by omega); omega)).symm
      have hlt' : decide ((p : Int) < q) = true := by simp; omega
      clear hpq l3 l4; go_wp2
      go_ret
      exact ⟨ret_int HR.out, HB.out⟩
    · have HR : Hid ((1 : Int) = z) := by show _ = _; rw [← HZ.out]; exact (cmpI_gt (by have := limbs_length_lt_of_lt (a := b) (b := a) (by omega); omega)).symm
      have hlt' : decide ((p : Int) < q) = false := by simp; omega
      clear hpq l3 l4; go_wp2
      go_ret
      exact ⟨ret_int HR.out, HB.out⟩
end Go.Proofs.YtpnmphofengoeaaGreatDoor

namespace Go.Proofs.YtpnmphofengoeaaGreatDoor
set_option maxHeartbeats 2000000
open Go.RowKit
set_option linter.unusedVariables false

theorem rSub_lt {w : World} {A1 A2 : Option Addr} {n m c1 c2 a b : Nat} (h1 : Rd w A1 n c1 a) (h2 : Rd w A2 m c2 b) (h : a < b) :
    Calls Tryz.prog 111 #[.slice A1 n c1, .slice A2 m c2] w fun e w' => e = .returned (.tuple #[.slice none 0 0, .bool false]) ∧ Below w.heap.size w w' := by
  have HC := Lib.hid (rCmp h1 h2 (cmpI_lt (by omega))); clear h1 h2 h
  go_enter Tryz.func111, Tryz.ntmps111
  go_wp2_with (go_at_call 119; ((with_reducible refine HC.out.mono ?_); rintro e w3 ⟨rfl, B3⟩))
  go_ret2
  exact ⟨rfl, B3⟩

theorem take_val {ys : List Nat} {n : Nat} (h : val ys < 4294967296 ^ n) : val (ys.take n) = val ys := by
  rcases Nat.le_total ys.length n with e | e
  · exact val_take_all e
  · have h1 := val_take_drop ys e
    rcases Nat.eq_zero_or_pos (val (ys.drop n)) with e0 | e0
    · rw [e0] at h1; omega
    · have := Nat.le_mul_of_pos_right (4294967296 ^ n) e0
      omega

theorem rsub_step {p A Y v x y l t u : Nat} (h : A + l * p = v + Y) (hx : x + u * 4294967296 = t + y + l) : (A + p * x) + u * (p * 4294967296) = (v + p * t) + (Y + p * y) := by
  have e : p * (x + u * 4294967296) = p * (t + y + l) := by rw [hx]
  grind

def RsubInv (w : World) (xs ys : List Nat) (k l : Nat) (v : Value) (wr : World) : Prop :=
  ∃ A c zs, v = .slice A k c ∧ Ar wr w.heap.size A k c zs ∧ Below w.heap.size w wr ∧ l ≤ 1 ∧ val (xs.take k) + l * 4294967296 ^ k = val zs + val (ys.take k)

theorem rSub {w : World} {A1 A2 : Option Addr} {n m c1 c2 a b r : Nat} (h1 : Rd w A1 n c1 a) (h2 : Rd w A2 m c2 b) (h : b ≤ a) (hr : a - b = r) :
    Calls Tryz.prog 111 #[.slice A1 n c1, .slice A2 m c2] w (P1T w n r) := by
  obtain ⟨z, hz, hz0⟩ := cmpI_ge h; have HC := Lib.hid (rCmp h1 h2 hz); have hab := h1.bound; obtain ⟨b1, xs, h1, rfl⟩ := h1; obtain ⟨b2, ys, h2, rfl⟩ := h2; have hbn := h1.big; have H1 := Lib.hid h1.len; have HYT := Lib.hid (take_val (ys := ys) (n := n) (by omega)); have HLE := Lib.hid h; have HAB := Lib.hid hab; have HRR := Lib.hid hr; clear hz h hab hr
  go_enter Tryz.func111, Tryz.ntmps111
  go_wp2_with (go_at_call 119; ((with_reducible refine HC.out.mono ?_); rintro e w0 ⟨rfl, B0⟩; have HB0 := Lib.hid B0; clear B0))
  clear HC; replace h1 := h1.below HB0.out; replace h2 := h2.below HB0.out
  go_loopw [6, 7, 8] (fun v u i wr => ∃ k l : Nat, k ≤ n ∧ i = .int .i64 k ∧ u = .int .u64 l ∧ RsubInv w0 xs ys k l v wr) (fun _ _ i _ => n - (intOf i).toNat)
  case atStart => exact ⟨0, 0, Nat.zero_le _, rfl, rfl, none, 0, [], rfl, Ar.nil _ _, Below.refl _ _, by omega, by simp [val]⟩
  case round =>
    obtain ⟨k, l, hk, rfl, rfl, hI⟩ := hrel; obtain ⟨A, c, zs, rfl, ha, hbl, hl, hv⟩ := hI; have HV := Lib.hid hv; have HA := Lib.hid ha; have HB := Lib.hid hbl; clear hv ha hbl
    by_cases hlt : k < n
    · have s1 := h1.below HB.out; have s2 := h2.below HB.out; have bx := h1.lim.getD k
      have by' := h2.lim.getD k
      have HG1 := Lib.hid (rAt wr b1 A1 n c1 xs s1 k (by omega)); have HG2 := Lib.hid (rAt wr b2 A2 m c2 ys s2 k (by omega))
      have HST : Hid (∀ x y, xs.getD k 0 = x → ys.getD k 0 = y → val (xs.take (k + 1)) = val (xs.take k) + 4294967296 ^ k * x ∧ val (ys.take (k + 1)) = val (ys.take k) + 4294967296 ^ k * y) := fun x y hx hy => by
        rw [val_take_more, val_take_more, hx, hy]; exact ⟨rfl, rfl⟩
      have HST' := Lib.hid (HST.out _ _ rfl rfl)
      clear HST s1 s2
      revert HG1 HG2 bx by' HST'
      generalize xs.getD k 0 = x; generalize ys.getD k 0 = y
      intro bx by' HG1 HG2 HST
      obtain ⟨t, ht, e1⟩ : ∃ t : Nat, t = (4294967296 + x - y - l) % 4294967296 ∧ ((4294967296 : Int) + x - y - l) % 4294967296 = t := ⟨_, rfl, by omega⟩
      obtain ⟨u, hu, e2⟩ : ∃ u : Nat, u = (4294967296 + x - y - l) / 4294967296 ∧ ((4294967296 : Int) + x - y - l) / 4294967296 = u := ⟨_, rfl, by omega⟩
      have bt : t < 4294967296 := by omega
      have bu : u ≤ 1 := by omega
      have e3 : (t : Int) % 4294967296 = t := by omega
      have HN : Hid (∀ A3 c3 w3, Ar w3 w0.heap.size A3 (k + 1) c3 (zs ++ [t]) → Below w0.heap.size (wr.alloc (.cells #[.int .u32 (t : Int)] 74)) w3 → RsubInv w0 xs ys (k + 1) (1 - u) (.slice A3 (k + 1) c3) w3) := by
        intro A3 c3 w3 ha3 hb3
        refine ⟨A3, c3, _, rfl, ha3, (HB.out.alloc HB.out.size _).trans hb3, by omega, ?_⟩
        rw [val_snoc, HA.out.len, HST.out.1, HST.out.2, Nat.pow_succ]; exact rsub_step HV.out (by omega)
      clear ht hu HV HST; have sl1 := lit1 wr t bt
      go_wp2_with (first
        | (go_at_call 110; ((with_reducible refine HG1.out.mono ?_); rintro e w' ⟨rfl, rfl⟩))
        | (go_at_call 110; ((with_reducible refine HG2.out.mono ?_); rintro e w' ⟨rfl, rfl⟩))
        | (with_reducible refine wpList_app rfl (.tmp 30) (.tmp 34) 79 rfl Tryz.underlying79 rfl rfl (HA.out.alloc _) sl1 (by omega) (HB.out.alloc HB.out.size _).size ?_; intro A3 c3 w3 ha3 hb3; have HN3 := Lib.hid (HN.out A3 c3 w3 ha3 hb3); clear ha3 hb3))
      go_roundw
      case rel => exact ⟨k + 1, 1 - u, by omega, by go_num, by first | go_num | (congr 1; omega), HN3.out⟩
      case measure => simp [intOf]; omega
    · obtain rfl : k = n := by omega
      obtain ⟨g, hs⟩ := HA.out.slice (by omega); have hv := HV.out; have hzl := val_lt HA.out.lim; rw [val_take_all (by rw [H1.out]; omega), HYT.out] at hv; rw [HA.out.len] at hzl
      have hvv : val zs = r := by
        rw [← HRR.out]
        have := HLE.out
        rcases Nat.eq_zero_or_pos l with e | e
        · subst e; omega
        · have := Nat.mul_le_mul_right (4294967296 ^ k) e
          omega
      have HT := Lib.hid (rTrim ⟨g, zs, hs, hvv⟩); clear hv HV hs hzl hvv
      go_wp2_with (go_at_call 107; ((with_reducible refine HT.out.mono ?_); rintro e w4 ⟨A4, n4, c4, rfl, hm4, hk4, hb4⟩))
      go_ret2
      exact ⟨A4, n4, c4, rfl, hm4, hk4, HB0.out.trans ((HB.out.trans (hb4.mono HB.out.size)).mono HB0.out.size)⟩

theorem lit_ar (W : World) (base x : Nat) (hx : x < 4294967296) (hb : base ≤ W.heap.size) : Ar (W.alloc (.cells #[.int .u32 (x : Int)] 74)) base (some ⟨W.heap.size, 0, none⟩) 1 1 [x] :=
  ⟨⟨rfl, Or.inr ⟨W.heap.size, 1, _, rfl, hb, heap_alloc_new W _, Nat.le_refl _, by decide, rfl, rfl⟩⟩, Lim.cons hx Lim.nil⟩

theorem row_sums {x f cy : Nat} (hx : x < 4294967296) (hf : f < 4294967296) (hc : cy < 4294967296) :
    ∃ p s t u : Nat, Hid (s = x * f + cy) ∧ Hid (t = s % 4294967296) ∧ Hid (u = s / 4294967296) ∧ t < 4294967296 ∧ u < 4294967296 ∧ IntKind.u64.wrap ((x : Int) * f) = p ∧ IntKind.u64.wrap ((p : Int) + cy) = s ∧ (s : Int) % 4294967296 = t ∧ (t : Int) % 4294967296 = t ∧ (s : Int) / 4294967296 = u := by
  have hp := prod_lt hx hf; refine ⟨x * f, x * f + cy, (x * f + cy) % 4294967296, (x * f + cy) / 4294967296, rfl, rfl, rfl, by omega, by omega, ?_, ?_, by omega, by omega, by omega⟩
  · have := wrap_u64_nat (x * f) (by omega); simpa using this
  · have := wrap_u64_nat (x * f + cy) (by omega); simpa using this

theorem row_step {p A v x c f : Nat} (h : v + c * p = A * f) : (v + p * ((x * f + c) % 4294967296)) + (x * f + c) / 4294967296 * (p * 4294967296) = (A + p * x) * f := by
  have e := Nat.mod_add_div (x * f + c) 4294967296
  have e2 : p * ((x * f + c) % 4294967296 + 4294967296 * ((x * f + c) / 4294967296)) = p * (x * f + c) := by rw [e]
  grind

theorem mul_ev (a f d : Nat) : 0 + 4294967296 * (a * d) + a * f = a * (f + 4294967296 * d) := by grind

def RowInv (w : World) (xs : List Nat) (f k cy : Nat) (v : Value) (wr : World) : Prop :=
  ∃ A c zs, v = .slice A k c ∧ Ar wr w.heap.size A k c zs ∧ Below w.heap.size w wr ∧ cy < 4294967296 ∧ val zs + cy * 4294967296 ^ k = val (xs.take k) * f

def RmulInv (w : World) (n m : Nat) (xs ys : List Nat) (k : Nat) (v : Value) (wr : World) : Prop :=
  ∃ A l c, v = .slice A l c ∧ Rd wr A l c (val xs * val (ys.drop (m - k))) ∧ l ≤ n + m + 2 ∧ Below w.heap.size w wr

theorem rMul {w : World} {A1 A2 : Option Addr} {n m c1 c2 a b r : Nat} (h1 : Rd w A1 n c1 a) (h2 : Rd w A2 m c2 b) (hn : n ≤ 268435456) (hm : m ≤ 268435456) (hr : a * b = r) :
    Calls Tryz.prog 108 #[.slice A1 n c1, .slice A2 m c2] w (P1 w (n + m) r) := by
  have hL := limbs_mul_len h1.bound h2.bound; obtain ⟨b1, xs, h1, rfl⟩ := h1; obtain ⟨b2, ys, h2, rfl⟩ := h2; have H1 := Lib.hid h1.len; have H2 := Lib.hid h2.len; rw [hr] at hL; have HRR := Lib.hid hr; clear hr
  have HLen : Hid (∀ k, (limbs (val xs * val (ys.drop k))).length ≤ n + m) := fun k => by
    have e1 := val_lt h1.lim; have e2 := val_lt (h2.lim.drop k); rw [H1.out] at e1
    have := limbs_mul_len e1 e2
    have e3 : (ys.drop k).length ≤ m := by rw [List.length_drop, H2.out]; omega
    omega
  go_enter Tryz.func108, Tryz.ntmps108
  go_wp2
  go_loopw [5, 6] (fun v i wr => ∃ k : Nat, k ≤ m ∧ i = .int .i64 ((m : Int) - 1 - k) ∧ RmulInv w n m xs ys k v wr) (fun _ i _ => (intOf i + 1).toNat)
  case atStart => exact ⟨0, Nat.zero_le _, by go_num, none, 0, 0, rfl, by rw [List.drop_of_length_le (by rw [H2.out]; omega), val_nil, Nat.mul_zero]; exact Nm.zero.rd, by omega, Below.refl _ _⟩
  case round =>
    obtain ⟨k, hk, rfl, hI⟩ := hrel; obtain ⟨A, l, c, rfl, hs, hl, hbl⟩ := hI; obtain ⟨wo, rfl⟩ : ∃ wo : World, wo = wr := ⟨_, rfl⟩; have HB := Lib.hid hbl; clear hbl
    by_cases hlt : k < m
    · obtain ⟨bo, os, so, hso⟩ := hs; have HSO := Lib.hid hso; clear hso; have hal := alloc_below wo (.cells #[.int .u32 ((0 : Nat) : Int)] 74); have ar0 := lit_ar wo w.heap.size 0 (by decide) HB.out.size; have so0 := so.below hal
      have i0 : 0 ≤ (m : Int) - 1 - k := by omega
      go_wp2_with (with_reducible refine wpList_app rfl (.tmp 20) (.tmp 21) 79 rfl Tryz.underlying79 rfl rfl ar0 so0 (by omega) (HB.out.alloc HB.out.size _).size ?_; intro A3 c3 w3 ha3 hb3)
      have HB3 : Hid (Below w.heap.size w w3) := (HB.out.alloc HB.out.size _).trans hb3
      have HA3 := Lib.hid ha3; have s1 := h1.below HB3.out; have s2 := h2.below HB3.out; obtain ⟨ob2, rfl, j2⟩ := s2.at (by omega); have g2 := j2 (m - 1 - k) (by omega); have bf := h2.lim.getD (m - 1 - k)
      have HD : Hid (∀ f, ys.getD (m - 1 - k) 0 = f → val (ys.drop (m - (k + 1))) = f + 4294967296 * val (ys.drop (m - k))) := fun f hf => by
        have := val_drop (xs := ys) (k := m - 1 - k) (by rw [H2.out]; omega)
        rw [hf, show m - 1 - k + 1 = m - k by omega] at this
        rw [show m - (k + 1) = m - 1 - k by omega]
        exact this
      have HD' := Lib.hid (HD.out _ rfl)
      clear HD j2 ha3 hb3 so so0 ar0 hal s2
      revert g2 bf HD'
      generalize ys.getD (m - 1 - k) 0 = f
      intro g2 bf HD
      have i1 : ((m : Int) - 1 - k).toNat = m - 1 - k := by omega
      have i2 : (m : Int) - 1 - k < m := by omega
      go_loopw [8, 9, 10] (fun v u i wr2 => ∃ j cy : Nat, j ≤ n ∧ i = .int .i64 j ∧ u = .int .u64 cy ∧ RowInv w3 xs f j cy v wr2) (fun _ _ i _ => n - (intOf i).toNat)
      case atStart => exact ⟨0, 0, Nat.zero_le _, rfl, rfl, none, 0, [], rfl, Ar.nil _ _, Below.refl _ _, by omega, by simp [val]⟩
      case round =>
        obtain ⟨j, cy, hj, rfl, rfl, hI⟩ := hrel; obtain ⟨A4, c4, zs, rfl, ha, hbl, hcy, hv⟩ := hI; have HV := Lib.hid hv; have HA := Lib.hid ha; have HBr := Lib.hid hbl; clear hv ha hbl
        by_cases hjn : j < n
        · have t1 := s1.below HBr.out
          have HB4 : Hid (Below w.heap.size w wr) := HB3.out.trans (HBr.out.mono HB3.out.size)
          have gf : wr.cell? ⟨b2, ob2 + (m - 1 - k), none⟩ = some (.int .u32 (f : Int)) := (HBr.out.cell (by
            have := block_lt_of_cell g2
            exact this)).trans g2
          obtain ⟨o1, rfl, j1⟩ := t1.at (by omega); have g1 := j1 j hjn; have bx := h1.lim.getD j
          have HST : Hid (∀ x, xs.getD j 0 = x → val (xs.take (j + 1)) = val (xs.take j) + 4294967296 ^ j * x) := fun x hx => by
            rw [val_take_more, hx]
          have HST' := Lib.hid (HST.out _ rfl)
          clear HST j1 t1
          revert g1 bx HST'
          generalize xs.getD j 0 = x
          intro g1 bx HST
          obtain ⟨p, s, t, u, HS, HT, HU, bt, bu, e1, e2, e3, e3', e4⟩ := row_sums bx bf hcy
          have HN : Hid (∀ q A5 c5 w5, Ar w5 w3.heap.size A5 (j + 1) c5 (zs ++ [t]) → Below w3.heap.size ((wr.drewN q).alloc (.cells #[.int .u32 (t : Int)] 74)) w5 → RowInv w3 xs f (j + 1) u (.slice A5 (j + 1) c5) w5) := by
            intro q A5 c5 w5 ha5 hb5
            refine ⟨A5, c5, _, rfl, ha5, ((below_drewN HBr.out q).alloc HBr.out.size _).trans hb5, bu, ?_⟩; rw [val_snoc, HA.out.len, HST.out, Nat.pow_succ, HT.out, HU.out, HS.out]; exact row_step HV.out
          clear HST HV HS HT HU
          have HA' : Hid (∀ q, Ar ((wr.drewN q).alloc (.cells #[.int .u32 (t : Int)] 74)) w3.heap.size A4 j c4 zs) := fun q => Ar.alloc (w := wr.drewN q) HA.out _
          have HSL : Hid (∀ q, Sl ((wr.drewN q).alloc (.cells #[.int .u32 (t : Int)] 74)) wr.heap.size (some ⟨wr.heap.size, 0, none⟩) 1 1 [t]) := fun q => lit1 (wr.drewN q) t bt
          have HSZ : Hid (∀ q, w3.heap.size ≤ ((wr.drewN q).alloc (.cells #[.int .u32 (t : Int)] 74)).heap.size) := fun q => ((below_drewN HBr.out q).alloc HBr.out.size _).size
          go_wp2
          go_quiet (fail)
          go_wp2_with (with_reducible refine wpList_app rfl (.tmp 43) (.tmp 47) 79 rfl Tryz.underlying79 rfl rfl (HA'.out _) (HSL.out _) (by omega) (HSZ.out _) ?_; intro A5 c5 w5 ha5 hb5; have HN5 := Lib.hid (HN.out _ A5 c5 w5 ha5 hb5); clear ha5 hb5)
          go_roundw
          case rel => exact ⟨j + 1, u, by omega, by go_num, rfl, HN5.out⟩
          case measure => simp [intOf]; omega
        · obtain rfl : j = n := by omega
          have ecy : (cy : Int) % 4294967296 = cy := by omega
          have HBA : Hid (Below w3.heap.size w3 (wr.alloc (.cells #[.int .u32 (cy : Int)] 74))) := HBr.out.alloc HBr.out.size _
          have sl1 := lit1 wr cy hcy
          have HV2 : Hid (val (zs ++ [cy]) = val xs * f) := by
            show _ = _
            have := HV.out
            rw [val_take_all (by rw [H1.out]; omega)] at this; rw [val_snoc, HA.out.len, Nat.mul_comm, this]
          have HADD : Hid (∀ A5 c5 w5, Ar w5 w3.heap.size A5 (j + 1) c5 (zs ++ [cy]) → Below w3.heap.size (wr.alloc (.cells #[.int .u32 (cy : Int)] 74)) w5 →
              Calls Tryz.prog 97 #[.slice A3 (1 + l) c3, .slice A5 (j + 1) c5] w5 (fun e w6 => ∃ A6 l6 c6, e = .returned (.slice A6 l6 c6) ∧ RmulInv w j m xs ys (k + 1) (.slice A6 l6 c6) w6)) := by
            intro A5 c5 w5 ha5 hb5
            have hb35 : Below w3.heap.size w3 w5 := HBA.out.trans hb5
            obtain ⟨gu, su⟩ := (HA3.out.all hb35).slice (by omega); obtain ⟨gr, sr⟩ := ha5.slice (by omega); refine (rAdd ⟨gu, _, su, rfl⟩ ⟨gr, _, sr, HV2.out⟩ (by omega) (by omega)).mono ?_; rintro e w6 ⟨A6, l6, c6, rfl, m6, k6, b6⟩
            have ev : val ([0] ++ os) + val xs * f = val xs * val (ys.drop (m - (k + 1))) := by
              rw [HD.out, List.singleton_append, val_cons, HSO.out]; exact mul_ev _ _ _
            rw [ev] at m6
            have := m6.len
            have := HLen.out (m - (k + 1))
            exact ⟨A6, l6, c6, rfl, A6, l6, c6, rfl, m6.rd, by omega, (HB3.out.trans (hb35.mono HB3.out.size)).trans (b6.mono (Nat.le_trans HB3.out.size hb35.size))⟩
          clear HV HV2 HD
          go_wp2_with (first
            | (with_reducible refine wpList_app rfl (.tmp 51) (.tmp 54) 79 rfl Tryz.underlying79 rfl rfl (HA.out.alloc _) sl1 (by omega) HBA.out.size ?_; intro A5 c5 w5 ha5 hb5; have HX5 := Lib.hid (HADD.out A5 c5 w5 ha5 hb5); clear ha5 hb5)
            | (go_at_call 97; ((with_reducible refine HX5.out.mono ?_); rintro e w6 ⟨A6, l6, c6, rfl, hR⟩; have HR6 := Lib.hid hR; clear hR)))
          go_roundw
          case rel => exact ⟨k + 1, by omega, by go_num, HR6.out⟩
          case measure => simp [intOf]; omega
    · obtain rfl : k = m := by omega
      rw [Nat.sub_self, List.drop_zero, HRR.out] at hs; have HT := Lib.hid (rTrim hs); clear hs
      go_wp2_with (go_at_call 107; ((with_reducible refine HT.out.mono ?_); rintro e w4 ⟨A4, n4, c4, rfl, hm4, hk4, hb4⟩))
      go_ret
      have := hm4.len
      exact ⟨A4, n4, c4, rfl, hm4, by omega, HB.out.trans (hb4.mono HB.out.size)⟩
end Go.Proofs.YtpnmphofengoeaaGreatDoor

namespace Go.Proofs.YtpnmphofengoeaaGreatDoor
open Go.RowKit
set_option linter.unusedVariables false

set_option maxHeartbeats 1000000 in
theorem rLen {w : World} {A1 : Option Addr} {n c1 a : Nat} {z : Int} (h1 : Rd w A1 n c1 a) (hz : ((blen a : Nat) : Int) = z) : Calls Tryz.prog 92 #[.slice A1 n c1] w (PI w z) := by
  subst hz; have HT1 := Lib.hid (rTrim h1); have hbl := h1.blen_le
  have hn : n ≤ 1099511627776 := by obtain ⟨_, _, h, _⟩ := h1; exact h.big
  clear h1
  go_enter Tryz.func92, Tryz.ntmps92
  go_wp2_with fail
  refine HT1.out.mono ?_; rintro e w3 ⟨A3, p, c3, rfl, s3, k3, B3⟩; have HB := Lib.hid B3; clear B3; have l3 := s3.len
  by_cases h0 : a = 0
  · obtain rfl : p = 0 := by rw [← l3, h0, limbs_zero]; rfl
    have HZ : Hid ((0 : Int) = ((blen a : Nat) : Int)) := by show _ = _; rw [h0]; rfl
    clear h0 l3 s3 HT1; go_wp2
    go_ret
    exact ⟨ret_int HZ.out, HB.out⟩
  · have hp : p ≠ 0 := fun e => h0 (limbs_length_zero.1 (by omega))
    have hp0 : ((p : Int) == 0) = false := by simpa using hp
    have HL := blen_limbs h0; rw [l3] at HL; obtain ⟨b3, s3⟩ := s3; obtain ⟨o, rfl, hc⟩ := s3.at (by omega); have hck := hc (p - 1) (by omega); have hx := (lim_limbs a).getD (p - 1); clear hc s3 h0 l3 HT1; obtain ⟨x, hxe⟩ : ∃ x, (limbs a).getD (p - 1) 0 = x := ⟨_, rfl⟩; rw [hxe] at HL hck hx; clear hxe
    have i1 : ((p : Int) - 1).toNat = p - 1 := by omega
    obtain ⟨L, hL⟩ : ∃ L, blen a = L := ⟨_, rfl⟩; rw [hL] at HL hbl; have HLa := Lib.hid hL; clear hL; have HLL := Lib.hid HL; clear HL; go_wp2
    go_loop [4, 5] (fun v u => ∃ t j : Nat, u = .int .u32 t ∧ v = .int .i64 j ∧ t < 4294967296 ∧ j + blen t = L) (fun _ u => (intOf u).toNat)
    case atStart => exact ⟨x, (p - 1) * 32, rfl, by go_num, hx, HLL.out.symm⟩
    case round =>
      obtain ⟨t, j, rfl, rfl, ht, hj⟩ := hrel
      by_cases ht0 : t = 0
      · have HJ : Hid ((j : Int) = ((blen a : Nat) : Int)) := by show _ = _; rw [HLa.out, ← hj, ht0]; simp [blen]
        subst ht0; clear hj; go_wp2
        go_ret
        exact ⟨ret_int HJ.out, HB.out⟩
      · have hh := blen_half ht0
        have HJ : Hid (j + 1 + blen (t / 2) = L) := by show _ = _; omega
        have hjb : j ≤ n * 32 := by omega
        have ht1 : 0 < t := by omega
        clear hj hh ht0; go_wp2
        go_round
        case rel => exact ⟨t / 2, j + 1, by go_num, by go_num, by omega, HJ.out⟩
        case measure => simp [intOf]; omega
end Go.Proofs.YtpnmphofengoeaaGreatDoor

namespace Go.Proofs.YtpnmphofengoeaaGreatDoor
set_option maxHeartbeats 1000000
open Go.RowKit
set_option linter.unusedVariables false

theorem bit_limb {xs : List Nat} (hl : Lim xs) (i : Nat) : xs.getD (i / 32) 0 / 2 ^ (i % 32) % 2 = val xs / 2 ^ i % 2 := by
  have h1 : xs.getD (i / 32) 0 = val xs / 4294967296 ^ (i / 32) % 4294967296 := by
    rw [← val_drop_div hl]
    rcases Nat.lt_or_ge (i / 32) xs.length with h | h
    · rw [val_drop h]
      have := hl.getD (i / 32)
      omega
    · rw [getD_beyond h, List.drop_eq_nil_of_le h]; rfl
  have h2 : 2 ^ i = 4294967296 ^ (i / 32) * 2 ^ (i % 32) := by rw [← pow_split, show 32 * (i / 32) + i % 32 = i by omega]
  rw [h1, h2, ← Nat.div_div_eq_div_mul]; generalize val xs / 4294967296 ^ (i / 32) = y
  have hs : i % 32 < 32 := Nat.mod_lt _ (by decide)
  generalize i % 32 = s at hs
  have e : 4294967296 = 2 ^ s * 2 ^ (32 - s) := by rw [← Nat.pow_add, show s + (32 - s) = 32 by omega]
  rw [e, Nat.mod_mul_right_div_self]
  have e2 : 2 ^ (32 - s) = 2 * 2 ^ (31 - s) := by rw [show 32 - s = (31 - s) + 1 by omega, Nat.pow_succ, Nat.mul_comm]
  rw [e2, Nat.mod_mul_right_mod]

theorem rBit {w : World} {A1 : Option Addr} {n c1 a : Nat} {t : Bool} (h1 : Rd w A1 n c1 a) (i : Nat) (hi : i ≤ 34359738368) (ht : decide (a / 2 ^ i % 2 = 1) = t) :
    Calls Tryz.prog 117 #[.slice A1 n c1, .int .i64 (i : Int)] w fun e w' => e = .returned (.bool t) ∧ Below w.heap.size w w' := by
  obtain ⟨b1, xs, h1, rfl⟩ := h1; have HA := rAt w b1 A1 n c1 xs h1 (i / 32) (by omega); have hb := bit_limb h1.lim i; have hx := h1.lim.getD (i / 32); rw [← hb] at ht; clear hb h1
  revert HA hx ht
  generalize xs.getD (i / 32) 0 = x
  intro ht HA hx
  have HA := Lib.hid HA; obtain ⟨q, hq⟩ : ∃ q, i / 32 = q := ⟨_, rfl⟩; rw [hq] at HA
  have eq : (i : Int) / 32 = q := by omega
  clear hq; obtain ⟨s, es, hs, hse⟩ : ∃ s : Nat, (i : Int) % 32 = s ∧ s < 32 ∧ Hid (s = i % 32) := ⟨i % 32, by omega, by omega, rfl⟩
  obtain ⟨y, ey, hye⟩ : ∃ y : Nat, (x : Int) / 2 ^ s = y ∧ Hid (y = x / 2 ^ s) := ⟨x / 2 ^ s, by simp, rfl⟩
  have HT : Hid (((y : Int) % 2 == 1) = t) := by
    show _ = _
    rw [← ht, ← hse.out, ← hye.out, Bool.eq_iff_iff]
    simp
    omega
  clear ht
  go_enter Tryz.func117, Tryz.ntmps117
  go_wp2_with (go_at_call 110; ((with_reducible refine HA.out.mono ?_); rintro e w' ⟨rfl, rfl⟩))
  go_ret
  exact ⟨by rw [← HT.out]; rfl, Below.refl _ _⟩

theorem Ar.set {w : World} {base n c : Nat} {A : Option Addr} {l : List Nat} (h : Ar w base A n c l) {i : Nat} (hi : i < n) :
    ∃ g, A = some ⟨g, 0, none⟩ ∧ base ≤ g ∧ w.cell? ⟨g, i, none⟩ = some (.int .u32 (l.getD i 0 : Nat)) ∧ w.frozen? ⟨g, i, none⟩ = false ∧
      ∀ x : Nat, x < 4294967296 → Ar (w.setCell ⟨g, i, none⟩ (.int .u32 (x : Int))) base A n c (l.set i x) := by
  have hl := h.len
  rcases h.1.2 with ⟨h1, h2⟩ | ⟨g, cap, cur, hv, hg, hh, hc, hm, hs, ht⟩
  · omega
  · injection hv with e1 e2 e3
    subst e1; subst e3
    refine ⟨g, rfl, hg, ?_, by simp [World.frozen?, hh], fun x hx => ⟨⟨by simp [hl], Or.inr ⟨g, c, cur.setIfInBounds i (.int .u32 (x : Int)), rfl, hg, ?_, hc, hm, by simpa using hs, ?_⟩⟩, h.2.set i hx⟩⟩
    · rw [cell_of_row w g i _ _ (0, 0) hh]
      have h2 : (cur.toList.take (n * 1))[i]? = (l.map u32)[i]? := by rw [ht]
      rw [List.getElem?_take, if_pos (by omega), List.getElem?_map] at h2; rw [← Array.getElem?_toList, h2, List.getD_eq_getElem?_getD]
      rcases hq : l[i]? with _ | y
      · rw [List.getElem?_eq_none_iff] at hq; omega
      · simp [u32]
    · simp [World.setCell, Array.getElem?_modify, hh]
    · rw [Array.toList_setIfInBounds, List.take_set, ht, List.map_set]
      rfl

def SetInv (w : World) (xs : List Nat) (q : Nat) (v : Value) (wr : World) : Prop :=
  ∃ A c k, v = .slice A (xs.length + k) c ∧ Ar wr w.heap.size A (xs.length + k) c (xs ++ List.replicate k 0) ∧ Below w.heap.size w wr ∧ (0 < k → xs.length + k ≤ q + 1)

theorem set_val {l : List Nat} {q x : Nat} (hq : q < l.length) : val (l.set q (l.getD q 0 + x)) = val l + 4294967296 ^ q * x := by
  have h1 := val_take_drop l (k := q) (by omega); have h2 := val_take_drop (l.set q (l.getD q 0 + x)) (k := q) (by simp; omega); rw [List.take_set_of_le (Nat.le_refl q), val_drop (by simp; omega), List.drop_set_of_lt (by omega)] at h2; rw [val_drop hq] at h1
  have e : (l.set q (l.getD q 0 + x)).getD q 0 = l.getD q 0 + x := by
    rw [List.getD_eq_getElem?_getD, List.getElem?_set_self hq]; rfl
  rw [e] at h2; rw [h2, h1]
  grind

theorem set_fits {x s : Nat} (hs : s < 32) (hx : x < 4294967296) (h : x / 2 ^ s % 2 = 0) : x + 2 ^ s < 4294967296 := by
  have e : 4294967296 = 2 ^ s * 2 ^ (32 - s) := by rw [← Nat.pow_add, show s + (32 - s) = 32 by omega]
  have e2 : 2 ^ (32 - s) = 2 * 2 ^ (31 - s) := by rw [show 32 - s = (31 - s) + 1 by omega, Nat.pow_succ, Nat.mul_comm]
  have h1 : x / 2 ^ s < 2 ^ (32 - s) := by
    rw [Nat.div_lt_iff_lt_mul (Nat.two_pow_pos s), Nat.mul_comm, ← e]; exact hx
  have h2 : x / 2 ^ s + 2 ≤ 2 ^ (32 - s) := by omega
  have h3 := Nat.mul_le_mul_left (2 ^ s) h2; have h4 := Nat.div_add_mod x (2 ^ s); have h5 := Nat.mod_lt x (Nat.two_pow_pos s); rw [← e, Nat.mul_add] at h3
  omega

theorem rSet {w : World} {A1 : Option Addr} {n c1 a : Nat} (h1 : Rd w A1 n c1 a) (i : Nat) (hn : n ≤ 1073741824) (hi : i ≤ 34359738368) (hb : a / 2 ^ i % 2 = 0) :
    Calls Tryz.prog 118 #[.slice A1 n c1, .int .i64 (i : Int)] w (fun e w' => ∃ A m c, e = .returned (.slice A m c) ∧ Rd w' A m c (a + 2 ^ i) ∧ m ≤ max n (i / 32 + 1) ∧ Below w.heap.size w w') := by
  obtain ⟨b1, xs, h1, rfl⟩ := h1; have hbl := bit_limb h1.lim i; rw [hb] at hbl; have H1 := Lib.hid h1.len; have hl1 := h1.len; subst hl1
  have HQ : Hid (2 ^ i = 4294967296 ^ (i / 32) * 2 ^ (i % 32)) := by show _ = _; rw [← pow_split, show 32 * (i / 32) + i % 32 = i by omega]
  have HX : Hid (xs.getD (i / 32) 0 / 2 ^ (i % 32) % 2 = 0) := hbl
  clear hbl hb; obtain ⟨q, hq⟩ : ∃ q, i / 32 = q := ⟨_, rfl⟩; obtain ⟨s, hs⟩ : ∃ s, i % 32 = s := ⟨_, rfl⟩; rw [hq, hs] at HQ HX; rw [hq]
  have eq : (i : Int) / 32 = q := by omega
  have es : (i : Int) % 32 = s := by omega
  have hs32 : s < 32 := by omega
  have hqb : q ≤ 1073741824 := by omega
  clear hq hs
  go_enter Tryz.func118, Tryz.ntmps118
  go_wp2_with (with_reducible refine wpList_app rfl (.const (.slice none 0 0)) (.tmp 6) 79 rfl Tryz.underlying79 rfl rfl (Ar.nil w w.heap.size) h1 (by omega) (Nat.le_refl _) ?_; intro A2 c2 w2 ha2 hb2)
  rw [Nat.zero_add, List.nil_append] at ha2
  have HI : Hid (SetInv w xs q (.slice A2 xs.length c2) w2) := ⟨A2, c2, 0, rfl, by simpa using ha2, hb2, fun h => absurd h (by omega)⟩
  clear ha2 hb2
  go_loopw [5] (fun v wr => SetInv w xs q v wr) (fun v _ => match v with | .slice _ m _ => q + 1 - m | _ => 0)
  case atStart => exact HI.out
  case round =>
    clear HI; obtain ⟨A, c, k, rfl, ha, hbl, hk⟩ := hrel; have HA := Lib.hid ha; have HB := Lib.hid hbl; clear ha hbl
    by_cases hlt : xs.length + k ≤ q
    · have sl1 := lit1 wr 0 (by decide)
      go_wp2_with (with_reducible refine wpList_app rfl (.tmp 13) (.tmp 14) 79 rfl Tryz.underlying79 rfl rfl (HA.out.alloc _) sl1 (by omega) (HB.out.alloc HB.out.size _).size ?_; intro A3 c3 w3 ha3 hb3)
      have HI3 : Hid (SetInv w xs q (.slice A3 (xs.length + (k + 1)) c3) w3) := ⟨A3, c3, k + 1, rfl, by rw [List.replicate_succ', ← List.append_assoc]; exact ha3, (HB.out.alloc HB.out.size _).trans hb3, fun _ => by omega⟩
      clear ha3 hb3
      go_roundw
      case rel => exact HI3.out
      case measure => show q + 1 - (xs.length + k + 1) < q + 1 - (xs.length + k); omega
    · obtain ⟨g, rfl, hg, hcell, hfr, hset⟩ := HA.out.set (i := q) (by omega)
      have e0 : (xs ++ List.replicate k 0).getD q 0 = xs.getD q 0 := by
        rcases Nat.lt_or_ge q xs.length with h | h
        · rw [List.getD_eq_getElem?_getD, List.getElem?_append_left h, List.getD_eq_getElem?_getD]
        · rw [List.getD_eq_getElem?_getD, List.getElem?_append_right h, List.getElem?_replicate, List.getD_eq_getElem?_getD, List.getElem?_eq_none h]
          split <;> rfl
      rw [e0] at hcell; have bx := h1.lim.getD q; have HSV := set_val (l := xs ++ List.replicate k 0) (q := q) (x := 2 ^ s) (by simp; omega); rw [e0, val_append, val_zeros, Nat.mul_zero, Nat.add_zero, ← HQ.out] at HSV; have HSET := Lib.hid (hset (xs.getD q 0 + 2 ^ s))
      have HSV' := Lib.hid HSV
      clear hset e0 HSV
      revert hcell bx HSV' HSET HX
      generalize xs.getD q 0 = x
      intro HX hcell bx HSET HSV
      go_wp2
      go_ret
      have hsum := set_fits hs32 bx HX.out
      have e : ((x : Int) + 2 ^ s) % 4294967296 = ((x + 2 ^ s : Nat) : Int) := by
        have : ((x + 2 ^ s : Nat) : Int) = (x : Int) + 2 ^ s := by simp
        rw [← this]; clear this HSV HSET HX; generalize x + 2 ^ s = y at hsum ⊢
        omega
      rw [e]; have ha := HSET.out hsum; obtain ⟨g2, hs2⟩ := ha.slice (by omega); refine ⟨_, _, _, rfl, ⟨g2, _, hs2, HSV.out⟩, ?_, HB.out.setCell (by simpa using hg) _⟩
      rcases Nat.eq_zero_or_pos k with e | e
      · omega
      · have := hk e; omega

theorem bit_on (a d i : Nat) : a / 2 ^ i = 2 * (a / 2 ^ (i + 1)) + a / 2 ^ i % 2 := by
  rw [Nat.pow_succ, ← Nat.div_div_eq_div_mul]
  omega
end Go.Proofs.YtpnmphofengoeaaGreatDoor

namespace Go.Proofs.YtpnmphofengoeaaGreatDoor
open Go.RowKit
set_option linter.unusedVariables false

theorem rAddE {w : World} {A1 A2 : Option Addr} {n m c1 c2 a b r : Nat} (h1 : Rd w A1 n c1 a) (h2 : Rd w A2 m c2 b) (hn : n ≤ 1073741824) (hm : m ≤ 1073741824) (hr : a + b = r) :
    Calls Tryz.prog 97 #[.slice A1 n c1, .slice A2 m c2] w (P1 w (n + m + 1) r) := hr ▸ rAdd h1 h2 hn hm

theorem div_uniq {x d q r : Nat} (h : x = d * q + r) (hr : r < d) : x / d = q ∧ x % d = r := by
  subst h; rw [Nat.mul_add_div (by omega), Nat.mul_add_mod, Nat.div_eq_of_lt hr, Nat.mod_eq_of_lt hr]; exact ⟨rfl, rfl⟩

theorem div_bit {A d b : Nat} (hd : 0 < d) (hb : b ≤ 1) :
    (d ≤ 2 * (A % d) + b → (2 * A + b) / d = 2 * (A / d) + 1 ∧ (2 * A + b) % d = 2 * (A % d) + b - d) ∧ (2 * (A % d) + b < d → (2 * A + b) / d = 2 * (A / d) ∧ (2 * A + b) % d = 2 * (A % d) + b) := by
  have h1 := div_split A d; have h2 := Nat.mod_lt A hd
  constructor
  · intro h
    refine div_uniq ?_ (by omega)
    have : d * (2 * (A / d) + 1) = 2 * (A / d * d) + d := by grind
    omega
  · intro h
    refine div_uniq ?_ h
    have : d * (2 * (A / d)) = 2 * (A / d * d) := by grind
    omega

theorem quo_bit {Q i : Nat} : Q * 2 ^ (i + 1) / 2 ^ i % 2 = 0 := by
  rw [Nat.pow_succ, ← Nat.mul_assoc, Nat.mul_right_comm, Nat.mul_div_cancel _ (Nat.two_pow_pos i)]
  omega

set_option maxHeartbeats 4000000 in
theorem rDiv {w : World} {A1 A2 : Option Addr} {n m c1 c2 a d : Nat} (h1 : Rd w A1 n c1 a) (h2 : Rd w A2 m c2 d) (hn : n ≤ 268435456) (hm : m ≤ 268435456) (hd : d ≠ 0) :
    Calls Tryz.prog 109 #[.slice A1 n c1, .slice A2 m c2] w (P3 w n (a / d) (a % d)) := by
  have hd0 : 0 < d := Nat.pos_of_ne_zero hd
  have hLb := h1.blen_le; have hLa := blen_lt a; have hl1 := Nat.le_trans (limbs_length_mono (Nat.div_le_self a d)) h1.limbs_le; have hl2 := Nat.le_trans (limbs_length_mono (Nat.mod_le a d)) h1.limbs_le; have HT := Lib.hid (rTrim h2)
  go_enter Tryz.func109, Tryz.ntmps109
  go_wp2_with fail
  refine HT.out.mono ?_; rintro e w3 ⟨Ad, p, cd, rfl, sd, kd, B3⟩; have sa := h1.below B3
  have hp : p ≠ 0 := fun e => hd (limbs_length_zero.1 (by rw [sd.len, e]))
  have hp0 : ((p : Int) == 0) = false := by simpa using hp
  have HB3 := Lib.hid B3; clear HT B3 h1 h2 hp
  go_wp2_with fail
  refine (rLen sa rfl).mono ?_; rintro e w4 ⟨rfl, B4⟩; replace sa := sa.below B4; replace sd := sd.below B4; have HB4 := Lib.hid (HB3.out.trans (B4.mono HB3.out.size)); clear B4 HB3
  have HD0 : Hid (a / 2 ^ blen a = 0) := Nat.div_eq_of_lt hLa
  have hdm : d < 4294967296 ^ m := Nat.lt_of_lt_of_le sd.rd.bound (Nat.pow_le_pow_right (by decide) kd)
  have HDM := Lib.hid hdm; clear hLa hdm
  revert hLb HD0
  generalize blen a = L
  intro hLb HD0
  go_wp2
  go_loopw [8, 9, 10] (fun vq vr i wr => ∃ k : Nat, k ≤ L ∧ i = .int .i64 ((L : Int) - 1 - k) ∧ ∃ Aq lq cq Ar lr cr, vq = .slice Aq lq cq ∧ vr = .slice Ar lr cr ∧ Rd wr Aq lq cq (a / 2 ^ (L - k) / d * 2 ^ (L - k)) ∧ Nm wr Ar lr cr (a / 2 ^ (L - k) % d) ∧ lq ≤ n ∧
      Rd wr A1 n c1 a ∧ Nm wr Ad p cd d ∧ Below w.heap.size w wr) (fun _ _ i _ => (intOf i + 1).toNat)
  case atStart => exact ⟨0, Nat.zero_le _, by go_num, none, 0, 0, none, 0, 0, rfl, rfl, by rw [Nat.sub_zero, HD0.out, Nat.zero_div, Nat.zero_mul]; exact Nm.zero.rd, by rw [Nat.sub_zero, HD0.out, Nat.zero_mod]; exact Nm.zero, by omega, sa, sd, HB4.out⟩
  case round =>
    clear sa sd HB4; obtain ⟨k, hk, rfl, Aq, lq, cq, Ar, lr, cr, rfl, rfl, sq, sr, hlq, sa, sd, hbl⟩ := hrel; have HB := Lib.hid hbl; clear hbl
    by_cases hlt : k < L
    · have hi0 : 0 ≤ (L : Int) - 1 - k := by omega
      obtain ⟨i, hi⟩ : ∃ i, L - 1 - k = i := ⟨_, rfl⟩
      have hij : L - k = i + 1 := by omega
      have ei : (L : Int) - 1 - k = (i : Int) := by omega
      have hin : i / 32 + 1 ≤ n := by omega
      have hib : i ≤ 34359738368 := by omega
      rw [hij] at sq sr
      have hnext : L - (k + 1) = i := by omega
      have hlr : lr ≤ m := by
        rw [← sr.len]; exact limbs_length_le (Nat.lt_trans (Nat.mod_lt _ hd0) HDM.out)
      have hbt := bit_on a d i; obtain ⟨bt, hbte⟩ : ∃ bt, a / 2 ^ i % 2 = bt := ⟨_, rfl⟩
      have hb1 : bt ≤ 1 := by omega
      rw [hbte] at hbt; have hstep := div_bit (A := a / 2 ^ (i + 1)) (b := bt) hd0 hb1; rw [← hbt] at hstep; obtain ⟨Q, hQ⟩ : ∃ Q, a / 2 ^ (i + 1) / d = Q := ⟨_, rfl⟩; obtain ⟨r, hr⟩ : ∃ r, a / 2 ^ (i + 1) % d = r := ⟨_, rfl⟩; rw [hQ, hr] at hstep; rw [hQ] at sq; rw [hr] at sr
      have hrd : r < d := by rw [← hr]; exact Nat.mod_lt _ hd0
      have HQ2 := Lib.hid (quo_bit (Q := Q) (i := i))
      have hpp : Q * 2 ^ (i + 1) = 2 * Q * 2 ^ i := by rw [Nat.pow_succ]; grind
      have E1 : Hid (r + r = 2 * r) := by show _ = _; omega
      have HIS : Hid (d ≤ 2 * r + bt → Q * 2 ^ (i + 1) + 2 ^ i = a / 2 ^ (L - (k + 1)) / d * 2 ^ (L - (k + 1)) ∧ 2 * r + bt - d = a / 2 ^ (L - (k + 1)) % d) := fun h => by
        obtain ⟨x1, x2⟩ := hstep.1 h; rw [hnext, x1, x2, hpp]; exact ⟨by grind, rfl⟩
      have HNO : Hid (2 * r + bt < d → Q * 2 ^ (i + 1) = a / 2 ^ (L - (k + 1)) / d * 2 ^ (L - (k + 1)) ∧ 2 * r + bt = a / 2 ^ (L - (k + 1)) % d) := fun h => by
        obtain ⟨x1, x2⟩ := hstep.2 h; rw [hnext, x1, x2, hpp]; exact ⟨rfl, rfl⟩
      have HBT := Lib.hid hbte; clear hbt hi hij hnext hstep  hpp hQ hr hbte
      by_cases hbz : bt = 0
      · subst hbz
        have ET : Hid (decide (a / 2 ^ i % 2 = 1) = false) := by show _ = _; rw [HBT.out]; rfl
        by_cases hle : d ≤ 2 * r
        · obtain ⟨x, hx⟩ : ∃ x, 2 * r - d = x := ⟨_, rfl⟩; have E3 := Lib.hid hx; have HQN := Lib.hid (HIS.out hle).1
          have HRN : Hid (x = a / 2 ^ (L - (k + 1)) % d) := by show _ = _; rw [← hx]; exact (HIS.out hle).2
          clear hx HIS HNO HBT
          go_wp2_with (first
            | (go_at_call 97; ((with_reducible refine (rAddE sr.rd sr.rd (by omega) (by omega) E1.out).mono ?_); rintro e w2 ⟨A2, n2, c2, rfl, s2, k2, B⟩; replace sa := sa.below B; replace sd := sd.below B; replace sq := sq.below B; replace HB := Lib.hid (HB.out.trans (B.mono HB.out.size)); clear B))
            | (go_at_call 117; ((with_reducible refine (rBit sa i (by omega) ET.out).mono ?_); rintro e w3 ⟨rfl, B⟩; replace sa := sa.below B; replace sd := sd.below B; replace sq := sq.below B; replace s2 := s2.below B; replace HB := Lib.hid (HB.out.trans (B.mono HB.out.size)); clear B))
            | (go_at_call 111; ((with_reducible refine (rSub s2.rd sd.rd hle E3.out).mono ?_); rintro e w5 ⟨A5, n5, c5, rfl, s5, k5, B⟩; replace sa := sa.below B; replace sd := sd.below B; replace sq := sq.below B; replace HB := Lib.hid (HB.out.trans (B.mono HB.out.size)); clear B))
            | (go_at_call 118; ((with_reducible refine (rSet sq i (by omega) (by omega) HQ2.out).mono ?_); rintro e w6 ⟨A6, n6, c6, rfl, s6, k6, B⟩; replace sa := sa.below B; replace sd := sd.below B; replace s5 := s5.below B; replace HB := Lib.hid (HB.out.trans (B.mono HB.out.size)); clear B)))
          go_roundw
          case rel => exact ⟨k + 1, by omega, by congr 1; omega, _, _, _, _, _, _, rfl, rfl, (by rw [HQN.out] at s6; exact s6), (by rw [HRN.out] at s5; exact s5), by omega, sa, sd, HB.out⟩
          case measure => simp [intOf]; omega
        · have hlt2 : 2 * r < d := by omega
          have HQN := Lib.hid (HNO.out hlt2).1
          have HRN : Hid (2 * r = a / 2 ^ (L - (k + 1)) % d) := (HNO.out hlt2).2
          clear HIS HNO HBT hle
          go_wp2_with (first
            | (go_at_call 97; ((with_reducible refine (rAddE sr.rd sr.rd (by omega) (by omega) E1.out).mono ?_); rintro e w2 ⟨A2, n2, c2, rfl, s2, k2, B⟩; replace sa := sa.below B; replace sd := sd.below B; replace sq := sq.below B; replace HB := Lib.hid (HB.out.trans (B.mono HB.out.size)); clear B))
            | (go_at_call 117; ((with_reducible refine (rBit sa i (by omega) ET.out).mono ?_); rintro e w3 ⟨rfl, B⟩; replace sa := sa.below B; replace sd := sd.below B; replace sq := sq.below B; replace s2 := s2.below B; replace HB := Lib.hid (HB.out.trans (B.mono HB.out.size)); clear B))
            | (go_at_call 111; ((with_reducible refine (rSub_lt s2.rd sd.rd hlt2).mono ?_); rintro e w5 ⟨rfl, B⟩; replace sa := sa.below B; replace sd := sd.below B; replace sq := sq.below B; replace s2 := s2.below B; replace HB := Lib.hid (HB.out.trans (B.mono HB.out.size)); clear B)))
          go_roundw
          case rel => exact ⟨k + 1, by omega, by congr 1; omega, _, _, _, _, _, _, rfl, rfl, (by rw [HQN.out] at sq; exact sq), (by rw [HRN.out] at s2; exact s2), by omega, sa, sd, HB.out⟩
          case measure => simp [intOf]; omega
      · obtain rfl : bt = 1 := by omega
        have ET : Hid (decide (a / 2 ^ i % 2 = 1) = true) := by show _ = _; rw [HBT.out]; rfl
        have E2 : Hid (2 * r + 1 = 2 * r + 1) := rfl
        by_cases hle : d ≤ 2 * r + 1
        · obtain ⟨x, hx⟩ : ∃ x, 2 * r + 1 - d = x := ⟨_, rfl⟩; have E3 := Lib.hid hx; have HQN := Lib.hid (HIS.out hle).1
          have HRN : Hid (x = a / 2 ^ (L - (k + 1)) % d) := by show _ = _; rw [← hx]; exact (HIS.out hle).2
          clear hx HIS HNO HBT
          go_wp2_with (first
            | (go_at_call 97; ((with_reducible refine (rAddE sr.rd sr.rd (by omega) (by omega) E1.out).mono ?_); rintro e w2 ⟨A2, n2, c2, rfl, s2, k2, B⟩; replace sa := sa.below B; replace sd := sd.below B; replace sq := sq.below B; replace HB := Lib.hid (HB.out.trans (B.mono HB.out.size)); clear B))
            | (go_at_call 117; ((with_reducible refine (rBit sa i (by omega) ET.out).mono ?_); rintro e w3 ⟨rfl, B⟩; replace sa := sa.below B; replace sd := sd.below B; replace sq := sq.below B; replace s2 := s2.below B; replace HB := Lib.hid (HB.out.trans (B.mono HB.out.size)); clear B))
            | (go_at_call 97; ((with_reducible refine (rAddE (s2.below (alloc_below w3 (.cells #[.int .u32 1] 74))).rd (one_rd w3) (by omega) (by omega) rfl).mono ?_); rintro e w4 ⟨A4, n4, c4, rfl, s4, k4, B⟩; replace sa := sa.below (alloc_below w3 (.cells #[.int .u32 1] 74)); replace sd := sd.below (alloc_below w3 (.cells #[.int .u32 1] 74)); replace sq := sq.below (alloc_below w3 (.cells #[.int .u32 1] 74)); replace HB := Lib.hid (HB.out.alloc HB.out.size (.cells #[.int .u32 1] 74)); replace sa := sa.below B; replace sd := sd.below B; replace sq := sq.below B; replace HB := Lib.hid (HB.out.trans (B.mono HB.out.size)); clear B))
            | (go_at_call 111; ((with_reducible refine (rSub s4.rd sd.rd hle E3.out).mono ?_); rintro e w5 ⟨A5, n5, c5, rfl, s5, k5, B⟩; replace sa := sa.below B; replace sd := sd.below B; replace sq := sq.below B; replace HB := Lib.hid (HB.out.trans (B.mono HB.out.size)); clear B))
            | (go_at_call 118; ((with_reducible refine (rSet sq i (by omega) (by omega) HQ2.out).mono ?_); rintro e w6 ⟨A6, n6, c6, rfl, s6, k6, B⟩; replace sa := sa.below B; replace sd := sd.below B; replace s5 := s5.below B; replace HB := Lib.hid (HB.out.trans (B.mono HB.out.size)); clear B)))
          go_roundw
          case rel => exact ⟨k + 1, by omega, by congr 1; omega, _, _, _, _, _, _, rfl, rfl, (by rw [HQN.out] at s6; exact s6), (by rw [HRN.out] at s5; exact s5), by omega, sa, sd, HB.out⟩
          case measure => simp [intOf]; omega
        · have hlt2 : 2 * r + 1 < d := by omega
          have HQN := Lib.hid (HNO.out hlt2).1; have HRN := Lib.hid (HNO.out hlt2).2; clear HIS HNO HBT hle
          go_wp2_with (first
            | (go_at_call 97; ((with_reducible refine (rAddE sr.rd sr.rd (by omega) (by omega) E1.out).mono ?_); rintro e w2 ⟨A2, n2, c2, rfl, s2, k2, B⟩; replace sa := sa.below B; replace sd := sd.below B; replace sq := sq.below B; replace HB := Lib.hid (HB.out.trans (B.mono HB.out.size)); clear B))
            | (go_at_call 117; ((with_reducible refine (rBit sa i (by omega) ET.out).mono ?_); rintro e w3 ⟨rfl, B⟩; replace sa := sa.below B; replace sd := sd.below B; replace sq := sq.below B; replace s2 := s2.below B; replace HB := Lib.hid (HB.out.trans (B.mono HB.out.size)); clear B))
            | (go_at_call 97; ((with_reducible refine (rAddE (s2.below (alloc_below w3 (.cells #[.int .u32 1] 74))).rd (one_rd w3) (by omega) (by omega) rfl).mono ?_); rintro e w4 ⟨A4, n4, c4, rfl, s4, k4, B⟩; replace sa := sa.below (alloc_below w3 (.cells #[.int .u32 1] 74)); replace sd := sd.below (alloc_below w3 (.cells #[.int .u32 1] 74)); replace sq := sq.below (alloc_below w3 (.cells #[.int .u32 1] 74)); replace HB := Lib.hid (HB.out.alloc HB.out.size (.cells #[.int .u32 1] 74)); replace sa := sa.below B; replace sd := sd.below B; replace sq := sq.below B; replace HB := Lib.hid (HB.out.trans (B.mono HB.out.size)); clear B))
            | (go_at_call 111; ((with_reducible refine (rSub_lt s4.rd sd.rd hlt2).mono ?_); rintro e w5 ⟨rfl, B⟩; replace sa := sa.below B; replace sd := sd.below B; replace sq := sq.below B; replace s4 := s4.below B; replace HB := Lib.hid (HB.out.trans (B.mono HB.out.size)); clear B)))
          go_roundw
          case rel => exact ⟨k + 1, by omega, by congr 1; omega, _, _, _, _, _, _, rfl, rfl, (by rw [HQN.out] at sq; exact sq), (by rw [HRN.out] at s4; exact s4), by omega, sa, sd, HB.out⟩
          case measure => simp [intOf]; omega
    · obtain rfl : k = L := by omega
      rw [Nat.sub_self, Nat.pow_zero, Nat.div_one, Nat.mul_one] at sq; rw [Nat.sub_self, Nat.pow_zero, Nat.div_one] at sr
      go_wp2_with (first
        | (go_at_call 107; ((with_reducible refine (rTrim sq).mono ?_); rintro e w6 ⟨A6, n6, c6, rfl, s6, k6, B⟩; replace sr := sr.below B; replace HB := Lib.hid (HB.out.trans (B.mono HB.out.size)); clear B))
        | (go_at_call 107; ((with_reducible refine (rTrim sr.rd).mono ?_); rintro e w7 ⟨A7, n7, c7, rfl, s7, k7, B⟩; replace s6 := s6.below B; replace HB := Lib.hid (HB.out.trans (B.mono HB.out.size)); clear B)))
      go_ret3
      have e6 := s6.len; have e7 := s7.len; exact ⟨A6, n6, c6, A7, n7, c7, rfl, s6, s7, by omega, by omega, HB.out⟩
end Go.Proofs.YtpnmphofengoeaaGreatDoor

namespace Go.Proofs.YtpnmphofengoeaaGreatDoor
open Go.RowKit
set_option linter.unusedVariables false

theorem lit_pow2 (W : World) (s o : Nat) (ho : 2 ^ s = o) (hs : s < 32) : Rd (W.alloc (.cells #[.int .u32 (o : Int)] 74)) (some ⟨W.heap.size, 0, none⟩) 1 1 (2 ^ s) := by
  have hb : o < 4294967296 := by rw [← ho]; exact Nat.pow_lt_pow_right (n := 32) (by decide) hs
  exact ⟨_, _, lit1 W o hb, by rw [ho]; simp [val]⟩

theorem sl_drop {w : World} {b o n c : Nat} {xs : List Nat} (h : Sl w b (some ⟨b, o, none⟩) n c xs) {q : Nat} (hq : q < n) : Sl w b (some ⟨b, o + q, none⟩) (n - q) (c - q) (xs.drop q) := by
  obtain ⟨o', e, hc⟩ := h.at (by omega)
  injection e with e
  injection e with _ e
  subst e
  exact ⟨by rw [List.length_drop, h.len], by have := h.cap; omega, by have := h.big; omega, h.lim.drop q, fun _ => ⟨o + q, rfl, fun k hk => by rw [Nat.add_assoc, hc (q + k) (by omega), getD_drop]⟩⟩

theorem rShr_low {w : World} {A1 : Option Addr} {n c1 a : Nat} (z : Int) (h1 : Rd w A1 n c1 a) (hz : z < 1) : Calls Tryz.prog 96 #[.slice A1 n c1, .int .i64 z] w (P1 w n a) := by
  have HT := Lib.hid (rTrim h1); clear h1
  go_enter Tryz.func96, Tryz.ntmps96
  go_wp2_with (go_at_call 107; ((with_reducible refine HT.out.mono ?_); rintro e w6 ⟨A6, n6, c6, rfl, s6, k6, B⟩))
  go_ret
  exact ⟨A6, n6, c6, rfl, s6, k6, B⟩
theorem rShr_all {w : World} {A1 : Option Addr} {n c1 : Nat} (z : Int) (hz : 1 ≤ z) (hn : 32 * (n : Int) ≤ z) (hb : n ≤ 268435456) : Calls Tryz.prog 96 #[.slice A1 n c1, .int .i64 z] w fun e w' => e = .returned (.slice none 0 0) ∧ Below w.heap.size w w' := by
  go_enter Tryz.func96, Tryz.ntmps96
  go_wp2
  go_ret
  exact ⟨rfl, Below.refl _ _⟩

set_option maxHeartbeats 1000000 in
theorem rShr_mid {w : World} {A1 : Option Addr} {n c1 a : Nat} (z : Nat) (h1 : Rd w A1 n c1 a) (hn : n ≤ 268435456) (hz1 : 1 ≤ z) (hz : z < 32 * n) : Calls Tryz.prog 96 #[.slice A1 n c1, .int .i64 (z : Int)] w (P1 w n (a / 2 ^ z)) := by
  obtain ⟨b1, xs, h1, rfl⟩ := h1; have hl := Nat.le_trans (limbs_length_mono (Nat.div_le_self (val xs) (2 ^ z))) (by have := val_limbs_le h1.lim; rw [h1.len] at this; exact this); obtain ⟨o1, rfl, _⟩ := h1.at (by omega)
  have hq : (z : Int) / 32 = ((z / 32 : Nat) : Int) := by omega
  have hs : (z : Int) % 32 = ((z % 32 : Nat) : Int) := by omega
  have HP : Hid (2 ^ z = 4294967296 ^ (z / 32) * 2 ^ (z % 32)) := by show _ = _; rw [← pow_split, show 32 * (z / 32) + z % 32 = z by omega]
  have hs32 : z % 32 < 32 := Nat.mod_lt _ (by decide)
  have hqb : z / 32 < n := by omega
  revert hq hs HP hs32 hqb
  generalize z / 32 = q; generalize z % 32 = s
  intro hq hs HP hs32 hqb
  obtain ⟨o, ho⟩ : ∃ o, 2 ^ s = o := ⟨_, rfl⟩
  have eo : (2 : Int) ^ s = (o : Int) := by rw [← ho]; simp
  have bo : o < 4294967296 := by rw [← ho]; exact Nat.pow_lt_pow_right (n := 32) (by decide) hs32
  have HO := Lib.hid ho; clear ho; have hcap := h1.cap
  have hcne : ¬ (c1 = q) := by omega
  have HT := Lib.hid (rTrim ⟨b1, _, sl_drop h1 hqb, val_drop_div h1.lim q⟩); clear h1
  go_enter Tryz.func96, Tryz.ntmps96
  go_wp2_with (first
    | (go_at_call 107; ((with_reducible refine HT.out.mono ?_); rintro e w6 ⟨A6, n6, c6, rfl, s6, k6, B⟩; have HB := Lib.hid B; clear B))
    | (go_at_call 109; ((with_reducible refine (rDiv (s6.below (alloc_below w6 (.cells #[.int .u32 (o : Int)] 74))).rd (lit_pow2 w6 s o HO.out hs32) (by omega) (by omega) (Nat.pos_iff_ne_zero.1 (Nat.two_pow_pos s))).mono ?_); rintro e w7 ⟨A7, n7, c7, A8, n8, c8, rfl, s7, s8, k7, k8, B⟩; replace HB := Lib.hid ((HB.out.alloc HB.out.size (.cells #[.int .u32 (o : Int)] 74)).trans (B.mono (HB.out.alloc HB.out.size (.cells #[.int .u32 (o : Int)] 74)).size)); clear B)))
  go_ret
  rw [Nat.div_div_eq_div_mul, ← HP.out] at s7; exact ⟨A7, n7, c7, rfl, s7, by omega, HB.out⟩

theorem rShrP {w : World} {A1 : Option Addr} {n c1 a : Nat} (z : Int) (h1 : Rd w A1 n c1 a) (hn : n ≤ 268435456) : Calls Tryz.prog 96 #[.slice A1 n c1, .int .i64 z] w (P1 w n (a / 2 ^ z.toNat)) := by
  by_cases h0 : z < 1
  · rw [show z.toNat = 0 by omega, Nat.pow_zero, Nat.div_one]
    exact rShr_low z h1 h0
  · by_cases h2 : 32 * (n : Int) ≤ z
    · have e : a / 2 ^ z.toNat = 0 := by
        apply Nat.div_eq_of_lt
        have := h1.bound
        rw [pow32] at this; exact Nat.lt_of_lt_of_le this (Nat.pow_le_pow_right (by decide) (by omega))
      rw [e]; refine (rShr_all z (by omega) h2 hn).mono ?_; rintro e w' ⟨rfl, B⟩; exact ⟨none, 0, 0, rfl, Nm.zero, Nat.zero_le _, B⟩
    · obtain ⟨k, rfl⟩ := Int.eq_ofNat_of_zero_le (show 0 ≤ z by omega)
      rw [Int.toNat_natCast]; exact rShr_mid k h1 hn (by omega) (by omega)
end Go.Proofs.YtpnmphofengoeaaGreatDoor

namespace Go.Proofs.YtpnmphofengoeaaGreatDoor
open Go.RowKit
set_option linter.unusedVariables false

theorem Own.ar {w : World} {g base : Nat} {l : List Nat} (h : Own w g l) (hl : Lim l) (hb : base ≤ g) (hn : l.length ≤ 1099511627776) : Ar w base (some ⟨g, 0, none⟩) l.length l.length l :=
  ⟨⟨by simp, Or.inr ⟨g, l.length, arr l, rfl, hb, h, Nat.le_refl _, by unfold maxLen; omega, by simp [arr], by show (l.map u32).take (l.length * 1) = _; rw [Nat.mul_one, List.take_of_length_le (by simp)]⟩⟩, hl⟩

theorem rShl_low {w : World} {A1 : Option Addr} {n c1 a : Nat} (z : Int) (h1 : Rd w A1 n c1 a) (hz : z < 1) : Calls Tryz.prog 95 #[.slice A1 n c1, .int .i64 z] w (P1 w n a) := by
  have HT := Lib.hid (rTrim h1); clear h1
  go_enter Tryz.func95, Tryz.ntmps95
  go_wp2_with (go_at_call 107; ((with_reducible refine HT.out.mono ?_); rintro e w6 ⟨A6, n6, c6, rfl, s6, k6, B⟩))
  go_ret
  exact ⟨A6, n6, c6, rfl, s6, k6, B⟩
theorem lit_pow (W : World) (s o : Nat) (ho : 2 ^ s = o) (hs : s < 32) : Rd (W.alloc (.cells #[.int .u32 (o : Int)] 74)) (some ⟨W.heap.size, 0, none⟩) 1 1 (2 ^ s) := by
  have hb : o < 4294967296 := by rw [← ho]; exact Nat.pow_lt_pow_right (n := 32) (by decide) hs
  exact ⟨_, _, lit1 W o hb, by rw [ho]; simp [val]⟩

set_option maxHeartbeats 1000000 in
theorem rShl {w : World} {A1 : Option Addr} {n c1 a : Nat} (z : Nat) (h1 : Rd w A1 n c1 a) (hn : n ≤ 134217728) (hz1 : 1 ≤ z) (hz : z ≤ 16777216) : Calls Tryz.prog 95 #[.slice A1 n c1, .int .i64 (z : Int)] w (P1 w (n + z / 32 + 1) (a * 2 ^ z)) := by
  obtain ⟨b1, xs, h1, rfl⟩ := h1
  have hq : (z : Int) / 32 = ((z / 32 : Nat) : Int) := by omega
  have hs : (z : Int) % 32 = ((z % 32 : Nat) : Int) := by omega
  have HP : Hid (2 ^ z = 4294967296 ^ (z / 32) * 2 ^ (z % 32)) := by show _ = _; rw [← pow_split, show 32 * (z / 32) + z % 32 = z by omega]
  have hs32 : z % 32 < 32 := Nat.mod_lt _ (by decide)
  have hqb : z / 32 ≤ 524288 := by omega
  revert hq hs HP hs32 hqb
  generalize z / 32 = q; generalize z % 32 = s
  intro hq hs HP hs32 hqb
  obtain ⟨o, ho⟩ : ∃ o, 2 ^ s = o := ⟨_, rfl⟩
  have eo : (2 : Int) ^ s = (o : Int) := by rw [← ho]; simp
  have bo : o < 4294967296 := by rw [← ho]; exact Nat.pow_lt_pow_right (n := 32) (by decide) hs32
  have HO := Lib.hid ho; clear ho
  have hmk := fun W => run_make32' q (q : Int) rfl (by omega) W
  have ar1 := (Own.new w (List.replicate q 0)).ar (base := w.heap.size) (Lim.replicate q) (Nat.le_refl _) (by simp; omega); rw [List.length_replicate] at ar1; have s1 := h1.below (alloc_below w (.cells (arr (List.replicate q 0)) 74))
  go_enter Tryz.func95, Tryz.ntmps95
  go_wp2_with (with_reducible refine wpList_app rfl (.tmp 16) (.tmp 17) 79 rfl Tryz.underlying79 rfl rfl ar1 s1 (by omega) (alloc_below w _).size ?_; intro A2 c2 w2 ha2 hb2)
  obtain ⟨g2, s2⟩ := ha2.slice (by omega); have hbl := (alloc_below w (.cells (arr (List.replicate q 0)) 74)).trans hb2; have hal := alloc_below w2 (.cells #[.int .u32 (o : Int)] 74)
  have r2 : Rd (w2.alloc (.cells #[.int .u32 (o : Int)] 74)) A2 (q + n) c2 (4294967296 ^ q * val xs) := ⟨g2, _, s2.below hal, by rw [val_append, val_zeros, List.length_replicate, Nat.zero_add]⟩
  have HM := Lib.hid (rMul r2 (lit_pow w2 s o HO.out hs32) (by omega) (by omega) (show 4294967296 ^ q * val xs * 2 ^ s = val xs * 2 ^ z by rw [HP.out]; grind))
  have HB := Lib.hid (hbl.trans (hal.mono hbl.size)); clear ha2 hb2 s2 hbl hal r2 hmk ar1 s1
  go_wp2_with (go_at_call 108; ((with_reducible refine HM.out.mono ?_); rintro e w6 ⟨A6, n6, c6, rfl, s6, k6, B⟩))
  go_ret
  exact ⟨A6, n6, c6, rfl, s6, by omega, HB.out.trans (B.mono HB.out.size)⟩
end Go.Proofs.YtpnmphofengoeaaGreatDoor
