/-
  The document's answers of layer 1: what Trim, Cmp, at and Add do, said of numbers.
-/
import Derived.Test.YtbendmhcimadpaaApp
import Derived.Test.YtbendmhcimadpaaVals
namespace Go.Proofs.Ytbendmhcimadpaa
open Go.RowKit
set_option linter.unusedVariables false

theorem Ar.nm {w : World} {base n c v : Nat} {A : Option Addr} (h : Ar w base A n c (limbs v)) (hn : n ≤ 1099511627776) : Nm w A n c v := by
  obtain ⟨g, h⟩ := h.slice hn
  exact ⟨g, h⟩

set_option maxHeartbeats 400000 in
theorem rTrim {w : World} {A : Option Addr} {n c v : Nat} (h1 : Rd w A n c v) : Calls Try.prog 51 #[.slice A n c] w (P1 w n v) := by
  have hle := h1.limbs_le
  obtain ⟨b, xs, h, rfl⟩ := h1
  have hc := h.cap
  have hb := h.big
  go_enter Try.func51, Try.ntmps51
  go_wp2
  go_loop [3] (fun i => ∃ k : Nat, k ≤ n ∧ i = .int .i64 k ∧ val (xs.drop k) = 0) (fun i => (intOf i).toNat)
  case atStart => exact ⟨n, Nat.le_refl _, rfl, by rw [List.drop_of_length_le (by rw [h.len]; omega)]; rfl⟩
  case round =>
    obtain ⟨k, hk, rfl, hz⟩ := hrel
    have HZ := Lib.hid hz
    clear hz
    by_cases hk0 : 0 < k ∧ xs.getD (k - 1) 0 = 0
    · obtain ⟨hk0, hx⟩ := hk0
      obtain ⟨o, rfl, hcell⟩ := h.at (by omega)
      have hck := hcell (k - 1) (by omega)
      have hi : ((k : Int) - 1).toNat = k - 1 := by omega
      clear hcell
      rw [hx] at hck
      have HX := Lib.hid hx
      clear hx
      go_wp2
      go_round
      case rel =>
        refine ⟨k - 1, by omega, by go_num, ?_⟩
        have hl := h.len
        rw [val_drop (by omega), show k - 1 + 1 = k by omega, HZ.out, HX.out]
      case measure => simp [intOf]; omega
    · have hT := take_eq_limbs h.lim (by have := h.len; omega) HZ.out (fun h0 e => hk0 ⟨h0, e⟩)
      have hsl := h.take hk
      rw [hT] at hsl
      have HT : Hid (k = (limbs (val xs)).length) := by show k = _; rw [hsl.len]
      have hlk := hsl.len
      have HP : Hid (∀ A2 c2 w', Ar w' w.heap.size A2 (0 + k) c2 ([] ++ limbs (val xs)) → Below w.heap.size w w' → P1 w n (val xs) (.returned (.slice A2 k c2)) w') := by
        intro A2 c2 w' ha hbl
        rw [Nat.zero_add, List.nil_append] at ha
        exact ⟨A2, k, c2, rfl, ha.nm (by omega), hk, hbl⟩
      have HS := Lib.hid hsl
      clear hT hsl hlk
      by_cases hp : 0 < k
      · obtain ⟨o, rfl, hcell⟩ := h.at (by omega)
        have hck := hcell (k - 1) (by omega)
        have hi : ((k : Int) - 1).toNat = k - 1 := by omega
        have hx' : ((xs.getD (k - 1) 0 : Nat) : Int) ≠ 0 := by
          intro e
          exact hk0 ⟨hp, by omega⟩
        clear hk0 hcell
        revert hck hx'
        generalize xs.getD (k - 1) 0 = x
        intro hck hx'
        have hx2 : ((x : Int) == 0) = false := by simpa using hx'
        go_wp2_with (with_reducible refine wpList_app rfl (.const (.slice none 0 0)) (.tmp 20) 22 rfl Try.underlying22 rfl rfl (Ar.nil w w.heap.size) HS.out (by omega) (Nat.le_refl _) ?_; intro A2 c2 w2 ha hbl)
        go_ret
        exact HP.out _ _ _ ha hbl
      · obtain rfl : k = 0 := by omega
        go_wp2_with (with_reducible refine wpList_app rfl (.const (.slice none 0 0)) (.tmp 20) 22 rfl Try.underlying22 rfl rfl (Ar.nil w w.heap.size) HS.out (by omega) (Nat.le_refl _) ?_; intro A2 c2 w2 ha hbl)
        go_ret
        exact HP.out _ _ _ ha hbl

/-- A limb; nought beyond the last one. -/
theorem rAt (w : World) (b : Nat) (A : Option Addr) (n c : Nat) (xs : List Nat) (h : Sl w b A n c xs) (i : Nat) (hi : i ≤ 1099511627776) :
    Calls Try.prog 52 #[.slice A n c, .int .i64 (i : Int)] w fun e w' => e = .returned (.int .u64 ((xs.getD i 0 : Nat) : Int)) ∧ w = w' := by
  have hb := h.big
  by_cases hin : i < n
  · obtain ⟨o, rfl, hc⟩ := h.at (by omega)
    have hck := hc i hin
    have hx := h.lim.getD i
    clear hc h
    revert hck hx
    generalize xs.getD i 0 = x
    intro hck hx
    go_enter Try.func52, Try.ntmps52
    go_wp2
    go_ret
    exact ⟨rfl, rfl⟩
  · rw [getD_beyond (by rw [h.len]; omega)]
    clear h
    go_enter Try.func52, Try.ntmps52
    go_wp2
    go_ret
    exact ⟨rfl, rfl⟩

def RaddInv (w : World) (xs ys : List Nat) (k cy : Nat) (v : Value) (wr : World) : Prop :=
  ∃ A c zs, v = .slice A k c ∧ Ar wr w.heap.size A k c zs ∧ Below w.heap.size w wr ∧ cy ≤ 1 ∧ val zs + cy * 4294967296 ^ k = val (xs.take k) + val (ys.take k)

set_option maxHeartbeats 1000000 in
theorem rAdd {w : World} {A1 A2 : Option Addr} {n m c1 c2 a b : Nat} (h1 : Rd w A1 n c1 a) (h2 : Rd w A2 m c2 b) (hn : n ≤ 1073741824) (hm : m ≤ 1073741824) :
    Calls Try.prog 37 #[.slice A1 n c1, .slice A2 m c2] w (P1 w (n + m + 1) (a + b)) := by
  have hL := limbs_add_len h1.bound h2.bound
  obtain ⟨b1, xs, h1, rfl⟩ := h1
  obtain ⟨b2, ys, h2, rfl⟩ := h2
  have H1 := Lib.hid h1.len
  have H2 := Lib.hid h2.len
  go_enter Try.func37, Try.ntmps37
  go_wp2
  go_loopw [5, 6, 7] (fun v u i wr => ∃ k cy : Nat, k ≤ max n m + 1 ∧ (max n m < k → cy = 0) ∧ i = .int .i64 k ∧ u = .int .u64 cy ∧ RaddInv w xs ys k cy v wr) (fun _ _ i _ => n + m + 2 - (intOf i).toNat)
  case atStart => exact ⟨0, 0, Nat.zero_le _, fun _ => rfl, rfl, rfl, none, 0, [], rfl, Ar.nil _ _, Below.refl _ _, by omega, by simp [val]⟩
  case round =>
    obtain ⟨k, cy, hk, hor, rfl, rfl, hI⟩ := hrel
    obtain ⟨A, c, zs, rfl, ha, hbl, hcy, hv⟩ := hI
    have HV := Lib.hid hv
    have HA := Lib.hid ha
    have HB := Lib.hid hbl
    clear hv ha hbl
    have hkb : k ≤ 2147483649 := by omega
    by_cases hgo : k < n ∨ k < m ∨ 0 < cy
    · have hkm : k ≤ max n m := by
        rcases Nat.lt_or_ge (max n m) k with e | e
        · have := hor e; omega
        · exact e
      have s1 := h1.below HB.out
      have s2 := h2.below HB.out
      have bx := h1.lim.getD k
      have by' := h2.lim.getD k
      have HG1 := Lib.hid (rAt wr b1 A1 n c1 xs s1 k (by omega))
      have HG2 := Lib.hid (rAt wr b2 A2 m c2 ys s2 k (by omega))
      have HST : Hid (∀ x y, xs.getD k 0 = x → ys.getD k 0 = y → val (xs.take (k + 1)) + val (ys.take (k + 1)) = (val (xs.take k) + 4294967296 ^ k * x) + (val (ys.take k) + 4294967296 ^ k * y) ∧ (n ≤ k → x = 0) ∧ (m ≤ k → y = 0)) := fun x y hx hy => by
        refine ⟨by rw [val_take_more, val_take_more, hx, hy], fun h => ?_, fun h => ?_⟩
        · rw [← hx]; exact getD_beyond (by rw [H1.out]; exact h)
        · rw [← hy]; exact getD_beyond (by rw [H2.out]; exact h)
      have HST' := Lib.hid (HST.out _ _ rfl rfl)
      clear HST s1 s2
      revert HG1 HG2 bx by' HST'
      generalize xs.getD k 0 = x
      generalize ys.getD k 0 = y
      intro bx by' HG1 HG2 HST
      obtain ⟨t, ht, e1⟩ : ∃ t : Nat, t = (x + y + cy) % 4294967296 ∧ ((x : Int) + y + cy) % 4294967296 = t := ⟨_, rfl, by omega⟩
      obtain ⟨u, hu, e2⟩ : ∃ u : Nat, u = (x + y + cy) / 4294967296 ∧ ((x : Int) + y + cy) / 4294967296 = u := ⟨_, rfl, by omega⟩
      have bt : t < 4294967296 := by omega
      have e3 : (t : Int) % 4294967296 = t := by omega
      have HN : Hid (∀ A3 c3 w3, Ar w3 w.heap.size A3 (k + 1) c3 (zs ++ [t]) → Below w.heap.size (wr.alloc (.cells #[.int .u32 (t : Int)] 54)) w3 → k + 1 ≤ max n m + 1 ∧ (max n m < k + 1 → u = 0) ∧ RaddInv w xs ys (k + 1) u (.slice A3 (k + 1) c3) w3) := by
        intro A3 c3 w3 ha3 hb3
        refine ⟨by omega, fun h => ?_, A3, c3, _, rfl, ha3, (HB.out.alloc HB.out.size _).trans hb3, by omega, ?_⟩
        · have hx0 : n ≤ k := by omega
          have hy0 : m ≤ k := by omega
          have := HST.out.2.1 hx0
          have := HST.out.2.2 hy0
          omega
        · rw [val_snoc, HA.out.len, HST.out.1, Nat.pow_succ, ht, hu]
          exact add_step HV.out
      clear ht hu HV HST hor
      have sl1 := lit1 wr t bt
      go_wp2_with (first
        | (go_at_call 52; ((with_reducible refine HG1.out.mono ?_); rintro e w' ⟨rfl, rfl⟩))
        | (go_at_call 52; ((with_reducible refine HG2.out.mono ?_); rintro e w' ⟨rfl, rfl⟩))
        | (with_reducible refine wpList_app rfl (.tmp 34) (.tmp 38) 22 rfl Try.underlying22 rfl rfl (HA.out.alloc _) sl1 (by omega) (HB.out.alloc HB.out.size _).size ?_; intro A3 c3 w3 ha3 hb3; have HN3 := Lib.hid (HN.out A3 c3 w3 ha3 hb3); clear ha3 hb3))
      all_goals
        go_roundw
        case rel => exact ⟨k + 1, u, HN3.out.1, HN3.out.2.1, by go_num, by first | rfl | rw [e2], HN3.out.2.2⟩
        case measure => simp [intOf]; omega
    · have hkn : n ≤ k := by omega
      have hkm : m ≤ k := by omega
      obtain rfl : cy = 0 := by omega
      obtain ⟨g, hs⟩ := HA.out.slice (by omega)
      have hv := HV.out
      rw [val_take_all (by rw [H1.out]; exact hkn), val_take_all (by rw [H2.out]; exact hkm), Nat.zero_mul, Nat.add_zero] at hv
      have HT := Lib.hid (rTrim ⟨g, zs, hs, hv⟩)
      clear hv HV hgo hor hs
      go_wp2_with (go_at_call 51; ((with_reducible refine HT.out.mono ?_); rintro e w4 ⟨A4, n4, c4, rfl, hm4, hk4, hb4⟩))
      go_ret
      have := hm4.len
      exact ⟨A4, n4, c4, rfl, hm4, by omega, HB.out.trans (hb4.mono HB.out.size)⟩

theorem sign_cases {x y : Nat} : x < y ∨ x = y ∨ y < x := by omega

set_option maxHeartbeats 1000000 in
theorem rCmp {w : World} {A1 A2 : Option Addr} {n m c1 c2 a b : Nat} {z : Int} (h1 : Rd w A1 n c1 a) (h2 : Rd w A2 m c2 b) (hz : cmpI (a : Int) (b : Int) = z) :
    Calls Try.prog 53 #[.slice A1 n c1, .slice A2 m c2] w (PI w z) := by
  have HT1 := Lib.hid (rTrim h1)
  have HZ := Lib.hid hz
  clear hz
  go_enter Try.func53, Try.ntmps53
  go_wp2_with (go_at_call 51; ((with_reducible refine HT1.out.mono ?_); rintro e w3 ⟨A3, p, c3, rfl, s3, k3, B3⟩; replace h2 := h2.below B3; have HB := Lib.hid B3; clear B3))
  refine (rTrim h2).mono ?_
  rintro e w4 ⟨A4, q, c4, rfl, s4, k4, B4⟩
  replace s3 := s3.below B4
  replace HB := Lib.hid (HB.out.trans (B4.mono HB.out.size))
  clear B4 HT1 h1 h2
  have l3 := s3.len
  have l4 := s4.len
  obtain ⟨b3, s3⟩ := s3
  obtain ⟨b4, s4⟩ := s4
  have hb3 := s3.big
  have hb4 := s4.big
  by_cases hpq : p = q
  · subst hpq
    have hne' : ((p : Int) != (p : Int)) = false := by simp
    have HL3 := Lib.hid l3
    have HL4 := Lib.hid l4
    clear l3 l4
    go_wp2_with fail
    go_loopw [7] (fun i wr => ∃ k t : Nat, k ≤ p ∧ i = .int .i64 ((p : Int) - 1 - k) ∧ wr = w4.drewN t ∧ val ((limbs a).drop (p - k)) = val ((limbs b).drop (p - k))) (fun i _ => (intOf i + 1).toNat)
    case atStart => exact ⟨0, 0, Nat.zero_le _, by go_num, rfl, by rw [List.drop_of_length_le (by rw [HL3.out]; omega), List.drop_of_length_le (by rw [HL4.out]; omega)]⟩
    case round =>
      obtain ⟨k, t, hk, rfl, rfl, hz⟩ := hrel
      have HZZ := Lib.hid hz
      clear hz
      by_cases hlt : k < p
      · obtain ⟨o3, rfl, j3⟩ := s3.at (by omega)
        obtain ⟨o4, rfl, j4⟩ := s4.at (by omega)
        have g3 := j3 (p - 1 - k) (by omega)
        have g4 := j4 (p - 1 - k) (by omega)
        clear j3 j4
        have HX := Lib.hid (val_limb_cases (lim_limbs a) (lim_limbs b) HL3.out HL4.out hlt HZZ.out)
        rw [val_limbs, val_limbs] at HX
        revert g3 g4 HX
        generalize (limbs a).getD (p - 1 - k) 0 = x
        generalize (limbs b).getD (p - 1 - k) 0 = y
        intro g3 g4 HX
        have i1 : ((p : Int) - 1 - k).toNat = p - 1 - k := by omega
        have i2 : 0 ≤ (p : Int) - 1 - k := by omega
        rcases Nat.lt_trichotomy x y with hxy | hxy | hxy
        · have HR : Hid ((-1 : Int) = z) := by show _ = _; rw [← HZ.out]; exact (cmpI_lt (by have := HX.out.1 hxy; omega)).symm
          have hxy' : decide ((x : Int) < y) = true := by simp; omega
          clear HX
          go_wp2
          go_quiet (fail)
          go_wp2
          go_ret
          exact ⟨ret_int HR.out, by first | exact below_drewN HB.out _ | exact below_drewN (below_drewN HB.out _) _⟩
        · subst hxy
          have hxy' : decide ((x : Int) < x) = false := by simp
          have hD := HX.out.2.2 rfl
          have HD := Lib.hid hD
          clear HX hD
          go_wp2
          go_quiet (fail)
          go_wp2
          go_quiet (fail)
          go_wp2
          go_roundw
          case rel => exact ⟨k + 1, _, by omega, by go_num, by first | rfl | rw [World.drewN_drewN] | rw [World.drewN_drewN, World.drewN_drewN], by rw [show p - (k + 1) = p - 1 - k by omega]; exact HD.out⟩
          case measure => simp [intOf]; omega
        · have HR : Hid ((1 : Int) = z) := by show _ = _; rw [← HZ.out]; exact (cmpI_gt (by have := HX.out.2.1 hxy; omega)).symm
          have hxy' : decide ((x : Int) < y) = false := by simp; omega
          have hxy2 : decide ((y : Int) < x) = true := by simp; omega
          clear HX
          go_wp2
          go_quiet (fail)
          go_wp2
          go_quiet (fail)
          go_wp2
          go_ret
          exact ⟨ret_int HR.out, below_drewN (below_drewN (below_drewN HB.out _) _) _⟩
      · obtain rfl : k = p := by omega
        have e := HZZ.out
        rw [Nat.sub_self, List.drop_zero, List.drop_zero, val_limbs, val_limbs] at e
        have HR : Hid ((0 : Int) = z) := by show _ = _; rw [← HZ.out]; exact (cmpI_eq (by omega)).symm
        clear e HZZ
        go_wp2
        go_ret
        exact ⟨ret_int HR.out, below_drewN HB.out _⟩
  · have hne' : ((p : Int) != (q : Int)) = true := by simp; omega
    by_cases hlt : p < q
    · have HR : Hid ((-1 : Int) = z) := by show _ = _; rw [← HZ.out]; exact (cmpI_lt (by have := limbs_length_lt_of_lt (a := a) (b := b) (by omega); omega)).symm
      have hlt' : decide ((p : Int) < q) = true := by simp; omega
      clear hpq l3 l4
      go_wp2
      go_ret
      exact ⟨ret_int HR.out, HB.out⟩
    · have HR : Hid ((1 : Int) = z) := by show _ = _; rw [← HZ.out]; exact (cmpI_gt (by have := limbs_length_lt_of_lt (a := b) (b := a) (by omega); omega)).symm
      have hlt' : decide ((p : Int) < q) = false := by simp; omega
      clear hpq l3 l4
      go_wp2
      go_ret
      exact ⟨ret_int HR.out, HB.out⟩
end Go.Proofs.Ytbendmhcimadpaa
