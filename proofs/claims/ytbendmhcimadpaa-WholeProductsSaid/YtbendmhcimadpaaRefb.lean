/-
  The document's answers of layer 1: what Sub and Mul do, said of numbers.
-/
import Derived.Test.YtbendmhcimadpaaRefa
namespace Go.Proofs.Ytbendmhcimadpaa
open Go.RowKit
set_option linter.unusedVariables false

theorem rSub_lt {w : World} {A1 A2 : Option Addr} {n m c1 c2 a b : Nat} (h1 : Rd w A1 n c1 a) (h2 : Rd w A2 m c2 b) (h : a < b) :
    Calls Try.prog 38 #[.slice A1 n c1, .slice A2 m c2] w fun e w' => e = .returned (.tuple #[.slice none 0 0, .bool false]) ∧ Below w.heap.size w w' := by
  have HC := Lib.hid (rCmp h1 h2 (cmpI_lt (by omega)))
  clear h1 h2 h
  go_enter Try.func38, Try.ntmps38
  go_wp2_with (go_at_call 53; ((with_reducible refine HC.out.mono ?_); rintro e w3 ⟨rfl, B3⟩))
  go_ret2
  exact ⟨rfl, B3⟩

theorem take_val {ys : List Nat} {n : Nat} (h : val ys < 4294967296 ^ n) : val (ys.take n) = val ys := by
  rcases Nat.le_total ys.length n with e | e
  · exact val_take_all e
  · have h1 := val_take_drop ys e
    rcases Nat.eq_zero_or_pos (val (ys.drop n)) with e0 | e0
    · rw [e0] at h1; omega
    · have := Nat.le_mul_of_pos_right (4294967296 ^ n) e0
      omega

theorem rsub_step {p A Y v x y l t u : Nat} (h : A + l * p = v + Y) (hx : x + u * 4294967296 = t + y + l) : (A + p * x) + u * (p * 4294967296) = (v + p * t) + (Y + p * y) := by
  have e : p * (x + u * 4294967296) = p * (t + y + l) := by rw [hx]
  grind

def RsubInv (w : World) (xs ys : List Nat) (k l : Nat) (v : Value) (wr : World) : Prop :=
  ∃ A c zs, v = .slice A k c ∧ Ar wr w.heap.size A k c zs ∧ Below w.heap.size w wr ∧ l ≤ 1 ∧ val (xs.take k) + l * 4294967296 ^ k = val zs + val (ys.take k)

set_option maxHeartbeats 1000000 in
theorem rSub {w : World} {A1 A2 : Option Addr} {n m c1 c2 a b r : Nat} (h1 : Rd w A1 n c1 a) (h2 : Rd w A2 m c2 b) (h : b ≤ a) (hr : a - b = r) :
    Calls Try.prog 38 #[.slice A1 n c1, .slice A2 m c2] w (P1T w n r) := by
  obtain ⟨z, hz, hz0⟩ := cmpI_ge h
  have HC := Lib.hid (rCmp h1 h2 hz)
  have hab := h1.bound
  obtain ⟨b1, xs, h1, rfl⟩ := h1
  obtain ⟨b2, ys, h2, rfl⟩ := h2
  have hbn := h1.big
  have H1 := Lib.hid h1.len
  have HYT := Lib.hid (take_val (ys := ys) (n := n) (by omega))
  have HLE := Lib.hid h
  have HAB := Lib.hid hab
  have HRR := Lib.hid hr
  clear hz h hab hr
  go_enter Try.func38, Try.ntmps38
  go_wp2_with (go_at_call 53; ((with_reducible refine HC.out.mono ?_); rintro e w0 ⟨rfl, B0⟩; have HB0 := Lib.hid B0; clear B0))
  clear HC
  replace h1 := h1.below HB0.out
  replace h2 := h2.below HB0.out
  go_loopw [6, 7, 8] (fun v u i wr => ∃ k l : Nat, k ≤ n ∧ i = .int .i64 k ∧ u = .int .u64 l ∧ RsubInv w0 xs ys k l v wr) (fun _ _ i _ => n - (intOf i).toNat)
  case atStart => exact ⟨0, 0, Nat.zero_le _, rfl, rfl, none, 0, [], rfl, Ar.nil _ _, Below.refl _ _, by omega, by simp [val]⟩
  case round =>
    obtain ⟨k, l, hk, rfl, rfl, hI⟩ := hrel
    obtain ⟨A, c, zs, rfl, ha, hbl, hl, hv⟩ := hI
    have HV := Lib.hid hv
    have HA := Lib.hid ha
    have HB := Lib.hid hbl
    clear hv ha hbl
    by_cases hlt : k < n
    · have s1 := h1.below HB.out
      have s2 := h2.below HB.out
      have bx := h1.lim.getD k
      have by' := h2.lim.getD k
      have HG1 := Lib.hid (rAt wr b1 A1 n c1 xs s1 k (by omega))
      have HG2 := Lib.hid (rAt wr b2 A2 m c2 ys s2 k (by omega))
      have HST : Hid (∀ x y, xs.getD k 0 = x → ys.getD k 0 = y → val (xs.take (k + 1)) = val (xs.take k) + 4294967296 ^ k * x ∧ val (ys.take (k + 1)) = val (ys.take k) + 4294967296 ^ k * y) := fun x y hx hy => by
        rw [val_take_more, val_take_more, hx, hy]; exact ⟨rfl, rfl⟩
      have HST' := Lib.hid (HST.out _ _ rfl rfl)
      clear HST s1 s2
      revert HG1 HG2 bx by' HST'
      generalize xs.getD k 0 = x
      generalize ys.getD k 0 = y
      intro bx by' HG1 HG2 HST
      obtain ⟨t, ht, e1⟩ : ∃ t : Nat, t = (4294967296 + x - y - l) % 4294967296 ∧ ((4294967296 : Int) + x - y - l) % 4294967296 = t := ⟨_, rfl, by omega⟩
      obtain ⟨u, hu, e2⟩ : ∃ u : Nat, u = (4294967296 + x - y - l) / 4294967296 ∧ ((4294967296 : Int) + x - y - l) / 4294967296 = u := ⟨_, rfl, by omega⟩
      have bt : t < 4294967296 := by omega
      have bu : u ≤ 1 := by omega
      have e3 : (t : Int) % 4294967296 = t := by omega
      have HN : Hid (∀ A3 c3 w3, Ar w3 w0.heap.size A3 (k + 1) c3 (zs ++ [t]) → Below w0.heap.size (wr.alloc (.cells #[.int .u32 (t : Int)] 54)) w3 → RsubInv w0 xs ys (k + 1) (1 - u) (.slice A3 (k + 1) c3) w3) := by
        intro A3 c3 w3 ha3 hb3
        refine ⟨A3, c3, _, rfl, ha3, (HB.out.alloc HB.out.size _).trans hb3, by omega, ?_⟩
        rw [val_snoc, HA.out.len, HST.out.1, HST.out.2, Nat.pow_succ]
        exact rsub_step HV.out (by omega)
      clear ht hu HV HST
      have sl1 := lit1 wr t bt
      go_wp2_with (first
        | (go_at_call 52; ((with_reducible refine HG1.out.mono ?_); rintro e w' ⟨rfl, rfl⟩))
        | (go_at_call 52; ((with_reducible refine HG2.out.mono ?_); rintro e w' ⟨rfl, rfl⟩))
        | (with_reducible refine wpList_app rfl (.tmp 30) (.tmp 34) 22 rfl Try.underlying22 rfl rfl (HA.out.alloc _) sl1 (by omega) (HB.out.alloc HB.out.size _).size ?_; intro A3 c3 w3 ha3 hb3; have HN3 := Lib.hid (HN.out A3 c3 w3 ha3 hb3); clear ha3 hb3))
      go_roundw
      case rel => exact ⟨k + 1, 1 - u, by omega, by go_num, by first | go_num | (congr 1; omega), HN3.out⟩
      case measure => simp [intOf]; omega
    · obtain rfl : k = n := by omega
      obtain ⟨g, hs⟩ := HA.out.slice (by omega)
      have hv := HV.out
      have hzl := val_lt HA.out.lim
      rw [val_take_all (by rw [H1.out]; omega), HYT.out] at hv
      rw [HA.out.len] at hzl
      have hvv : val zs = r := by
        rw [← HRR.out]
        have := HLE.out
        rcases Nat.eq_zero_or_pos l with e | e
        · subst e; omega
        · have := Nat.mul_le_mul_right (4294967296 ^ k) e
          omega
      have HT := Lib.hid (rTrim ⟨g, zs, hs, hvv⟩)
      clear hv HV hs hzl hvv
      go_wp2_with (go_at_call 51; ((with_reducible refine HT.out.mono ?_); rintro e w4 ⟨A4, n4, c4, rfl, hm4, hk4, hb4⟩))
      go_ret2
      exact ⟨A4, n4, c4, rfl, hm4, hk4, HB0.out.trans ((HB.out.trans (hb4.mono HB.out.size)).mono HB0.out.size)⟩

theorem lit_ar (W : World) (base x : Nat) (hx : x < 4294967296) (hb : base ≤ W.heap.size) : Ar (W.alloc (.cells #[.int .u32 (x : Int)] 54)) base (some ⟨W.heap.size, 0, none⟩) 1 1 [x] :=
  ⟨⟨rfl, Or.inr ⟨W.heap.size, 1, _, rfl, hb, heap_alloc_new W _, Nat.le_refl _, by decide, rfl, rfl⟩⟩, Lim.cons hx Lim.nil⟩

/-- The numbers of a step of a row, none of which wraps. -/
theorem row_sums {x f cy : Nat} (hx : x < 4294967296) (hf : f < 4294967296) (hc : cy < 4294967296) :
    ∃ p s t u : Nat, Hid (s = x * f + cy) ∧ Hid (t = s % 4294967296) ∧ Hid (u = s / 4294967296) ∧ t < 4294967296 ∧ u < 4294967296 ∧ IntKind.u64.wrap ((x : Int) * f) = p ∧ IntKind.u64.wrap ((p : Int) + cy) = s ∧ (s : Int) % 4294967296 = t ∧ (t : Int) % 4294967296 = t ∧ (s : Int) / 4294967296 = u := by
  have hp := prod_lt hx hf
  refine ⟨x * f, x * f + cy, (x * f + cy) % 4294967296, (x * f + cy) / 4294967296, rfl, rfl, rfl, by omega, by omega, ?_, ?_, by omega, by omega, by omega⟩
  · have := wrap_u64_nat (x * f) (by omega); simpa using this
  · have := wrap_u64_nat (x * f + cy) (by omega); simpa using this

/-- One step of a row. -/
theorem row_step {p A v x c f : Nat} (h : v + c * p = A * f) : (v + p * ((x * f + c) % 4294967296)) + (x * f + c) / 4294967296 * (p * 4294967296) = (A + p * x) * f := by
  have e := Nat.mod_add_div (x * f + c) 4294967296
  have e2 : p * ((x * f + c) % 4294967296 + 4294967296 * ((x * f + c) / 4294967296)) = p * (x * f + c) := by rw [e]
  grind

theorem mul_ev (a f d : Nat) : 0 + 4294967296 * (a * d) + a * f = a * (f + 4294967296 * d) := by grind

def RowInv (w : World) (xs : List Nat) (f k cy : Nat) (v : Value) (wr : World) : Prop :=
  ∃ A c zs, v = .slice A k c ∧ Ar wr w.heap.size A k c zs ∧ Below w.heap.size w wr ∧ cy < 4294967296 ∧ val zs + cy * 4294967296 ^ k = val (xs.take k) * f

def RmulInv (w : World) (n m : Nat) (xs ys : List Nat) (k : Nat) (v : Value) (wr : World) : Prop :=
  ∃ A l c, v = .slice A l c ∧ Rd wr A l c (val xs * val (ys.drop (m - k))) ∧ l ≤ n + m + 2 ∧ Below w.heap.size w wr

set_option maxHeartbeats 2000000 in
theorem rMul {w : World} {A1 A2 : Option Addr} {n m c1 c2 a b r : Nat} (h1 : Rd w A1 n c1 a) (h2 : Rd w A2 m c2 b) (hn : n ≤ 268435456) (hm : m ≤ 268435456) (hr : a * b = r) :
    Calls Try.prog 66 #[.slice A1 n c1, .slice A2 m c2] w (P1 w (n + m) r) := by
  have hL := limbs_mul_len h1.bound h2.bound
  obtain ⟨b1, xs, h1, rfl⟩ := h1
  obtain ⟨b2, ys, h2, rfl⟩ := h2
  have H1 := Lib.hid h1.len
  have H2 := Lib.hid h2.len
  rw [hr] at hL
  have HRR := Lib.hid hr
  clear hr
  have HLen : Hid (∀ k, (limbs (val xs * val (ys.drop k))).length ≤ n + m) := fun k => by
    have e1 := val_lt h1.lim
    have e2 := val_lt (h2.lim.drop k)
    rw [H1.out] at e1
    have := limbs_mul_len e1 e2
    have e3 : (ys.drop k).length ≤ m := by rw [List.length_drop, H2.out]; omega
    omega
  go_enter Try.func66, Try.ntmps66
  go_wp2
  go_loopw [5, 6] (fun v i wr => ∃ k : Nat, k ≤ m ∧ i = .int .i64 ((m : Int) - 1 - k) ∧ RmulInv w n m xs ys k v wr) (fun _ i _ => (intOf i + 1).toNat)
  case atStart => exact ⟨0, Nat.zero_le _, by go_num, none, 0, 0, rfl, by rw [List.drop_of_length_le (by rw [H2.out]; omega), val_nil, Nat.mul_zero]; exact Nm.zero.rd, by omega, Below.refl _ _⟩
  case round =>
    obtain ⟨k, hk, rfl, hI⟩ := hrel
    obtain ⟨A, l, c, rfl, hs, hl, hbl⟩ := hI
    obtain ⟨wo, rfl⟩ : ∃ wo : World, wo = wr := ⟨_, rfl⟩
    have HB := Lib.hid hbl
    clear hbl
    by_cases hlt : k < m
    · obtain ⟨bo, os, so, hso⟩ := hs
      have HSO := Lib.hid hso
      clear hso
      have hal := alloc_below wo (.cells #[.int .u32 ((0 : Nat) : Int)] 54)
      have ar0 := lit_ar wo w.heap.size 0 (by decide) HB.out.size
      have so0 := so.below hal
      have i0 : 0 ≤ (m : Int) - 1 - k := by omega
      go_wp2_with (with_reducible refine wpList_app rfl (.tmp 20) (.tmp 21) 22 rfl Try.underlying22 rfl rfl ar0 so0 (by omega) (HB.out.alloc HB.out.size _).size ?_; intro A3 c3 w3 ha3 hb3)
      have HB3 : Hid (Below w.heap.size w w3) := (HB.out.alloc HB.out.size _).trans hb3
      have HA3 := Lib.hid ha3
      have s1 := h1.below HB3.out
      have s2 := h2.below HB3.out
      obtain ⟨ob2, rfl, j2⟩ := s2.at (by omega)
      have g2 := j2 (m - 1 - k) (by omega)
      have bf := h2.lim.getD (m - 1 - k)
      have HD : Hid (∀ f, ys.getD (m - 1 - k) 0 = f → val (ys.drop (m - (k + 1))) = f + 4294967296 * val (ys.drop (m - k))) := fun f hf => by
        have := val_drop (xs := ys) (k := m - 1 - k) (by rw [H2.out]; omega)
        rw [hf, show m - 1 - k + 1 = m - k by omega] at this
        rw [show m - (k + 1) = m - 1 - k by omega]
        exact this
      have HD' := Lib.hid (HD.out _ rfl)
      clear HD j2 ha3 hb3 so so0 ar0 hal s2
      revert g2 bf HD'
      generalize ys.getD (m - 1 - k) 0 = f
      intro g2 bf HD
      have i1 : ((m : Int) - 1 - k).toNat = m - 1 - k := by omega
      have i2 : (m : Int) - 1 - k < m := by omega
      go_loopw [8, 9, 10] (fun v u i wr2 => ∃ j cy : Nat, j ≤ n ∧ i = .int .i64 j ∧ u = .int .u64 cy ∧ RowInv w3 xs f j cy v wr2) (fun _ _ i _ => n - (intOf i).toNat)
      case atStart => exact ⟨0, 0, Nat.zero_le _, rfl, rfl, none, 0, [], rfl, Ar.nil _ _, Below.refl _ _, by omega, by simp [val]⟩
      case round =>
        obtain ⟨j, cy, hj, rfl, rfl, hI⟩ := hrel
        obtain ⟨A4, c4, zs, rfl, ha, hbl, hcy, hv⟩ := hI
        have HV := Lib.hid hv
        have HA := Lib.hid ha
        have HBr := Lib.hid hbl
        clear hv ha hbl
        by_cases hjn : j < n
        · have t1 := s1.below HBr.out
          have HB4 : Hid (Below w.heap.size w wr) := HB3.out.trans (HBr.out.mono HB3.out.size)
          have gf : wr.cell? ⟨b2, ob2 + (m - 1 - k), none⟩ = some (.int .u32 (f : Int)) := (HBr.out.cell (by
            have := block_lt_of_cell g2
            exact this)).trans g2
          obtain ⟨o1, rfl, j1⟩ := t1.at (by omega)
          have g1 := j1 j hjn
          have bx := h1.lim.getD j
          have HST : Hid (∀ x, xs.getD j 0 = x → val (xs.take (j + 1)) = val (xs.take j) + 4294967296 ^ j * x) := fun x hx => by
            rw [val_take_more, hx]
          have HST' := Lib.hid (HST.out _ rfl)
          clear HST j1 t1
          revert g1 bx HST'
          generalize xs.getD j 0 = x
          intro g1 bx HST
          obtain ⟨p, s, t, u, HS, HT, HU, bt, bu, e1, e2, e3, e3', e4⟩ := row_sums bx bf hcy
          have HN : Hid (∀ q A5 c5 w5, Ar w5 w3.heap.size A5 (j + 1) c5 (zs ++ [t]) → Below w3.heap.size ((wr.drewN q).alloc (.cells #[.int .u32 (t : Int)] 54)) w5 → RowInv w3 xs f (j + 1) u (.slice A5 (j + 1) c5) w5) := by
            intro q A5 c5 w5 ha5 hb5
            refine ⟨A5, c5, _, rfl, ha5, ((below_drewN HBr.out q).alloc HBr.out.size _).trans hb5, bu, ?_⟩
            rw [val_snoc, HA.out.len, HST.out, Nat.pow_succ, HT.out, HU.out, HS.out]
            exact row_step HV.out
          clear HST HV HS HT HU
          have HA' : Hid (∀ q, Ar ((wr.drewN q).alloc (.cells #[.int .u32 (t : Int)] 54)) w3.heap.size A4 j c4 zs) := fun q => Ar.alloc (w := wr.drewN q) HA.out _
          have HSL : Hid (∀ q, Sl ((wr.drewN q).alloc (.cells #[.int .u32 (t : Int)] 54)) wr.heap.size (some ⟨wr.heap.size, 0, none⟩) 1 1 [t]) := fun q => lit1 (wr.drewN q) t bt
          have HSZ : Hid (∀ q, w3.heap.size ≤ ((wr.drewN q).alloc (.cells #[.int .u32 (t : Int)] 54)).heap.size) := fun q => ((below_drewN HBr.out q).alloc HBr.out.size _).size
          go_wp2
          go_quiet (fail)
          go_wp2_with (with_reducible refine wpList_app rfl (.tmp 43) (.tmp 47) 22 rfl Try.underlying22 rfl rfl (HA'.out _) (HSL.out _) (by omega) (HSZ.out _) ?_; intro A5 c5 w5 ha5 hb5; have HN5 := Lib.hid (HN.out _ A5 c5 w5 ha5 hb5); clear ha5 hb5)
          go_roundw
          case rel => exact ⟨j + 1, u, by omega, by go_num, rfl, HN5.out⟩
          case measure => simp [intOf]; omega
        · obtain rfl : j = n := by omega
          have ecy : (cy : Int) % 4294967296 = cy := by omega
          have HBA : Hid (Below w3.heap.size w3 (wr.alloc (.cells #[.int .u32 (cy : Int)] 54))) := HBr.out.alloc HBr.out.size _
          have sl1 := lit1 wr cy hcy
          have HV2 : Hid (val (zs ++ [cy]) = val xs * f) := by
            show _ = _
            have := HV.out
            rw [val_take_all (by rw [H1.out]; omega)] at this
            rw [val_snoc, HA.out.len, Nat.mul_comm, this]
          have HADD : Hid (∀ A5 c5 w5, Ar w5 w3.heap.size A5 (j + 1) c5 (zs ++ [cy]) → Below w3.heap.size (wr.alloc (.cells #[.int .u32 (cy : Int)] 54)) w5 →
              Calls Try.prog 37 #[.slice A3 (1 + l) c3, .slice A5 (j + 1) c5] w5 (fun e w6 => ∃ A6 l6 c6, e = .returned (.slice A6 l6 c6) ∧ RmulInv w j m xs ys (k + 1) (.slice A6 l6 c6) w6)) := by
            intro A5 c5 w5 ha5 hb5
            have hb35 : Below w3.heap.size w3 w5 := HBA.out.trans hb5
            obtain ⟨gu, su⟩ := (HA3.out.all hb35).slice (by omega)
            obtain ⟨gr, sr⟩ := ha5.slice (by omega)
            refine (rAdd ⟨gu, _, su, rfl⟩ ⟨gr, _, sr, HV2.out⟩ (by omega) (by omega)).mono ?_
            rintro e w6 ⟨A6, l6, c6, rfl, m6, k6, b6⟩
            have ev : val ([0] ++ os) + val xs * f = val xs * val (ys.drop (m - (k + 1))) := by
              rw [HD.out, List.singleton_append, val_cons, HSO.out]
              exact mul_ev _ _ _
            rw [ev] at m6
            have := m6.len
            have := HLen.out (m - (k + 1))
            exact ⟨A6, l6, c6, rfl, A6, l6, c6, rfl, m6.rd, by omega, (HB3.out.trans (hb35.mono HB3.out.size)).trans (b6.mono (Nat.le_trans HB3.out.size hb35.size))⟩
          clear HV HV2 HD
          go_wp2_with (first
            | (with_reducible refine wpList_app rfl (.tmp 51) (.tmp 54) 22 rfl Try.underlying22 rfl rfl (HA.out.alloc _) sl1 (by omega) HBA.out.size ?_; intro A5 c5 w5 ha5 hb5; have HX5 := Lib.hid (HADD.out A5 c5 w5 ha5 hb5); clear ha5 hb5)
            | (go_at_call 37; ((with_reducible refine HX5.out.mono ?_); rintro e w6 ⟨A6, l6, c6, rfl, hR⟩; have HR6 := Lib.hid hR; clear hR)))
          go_roundw
          case rel => exact ⟨k + 1, by omega, by go_num, HR6.out⟩
          case measure => simp [intOf]; omega
    · obtain rfl : k = m := by omega
      rw [Nat.sub_self, List.drop_zero, HRR.out] at hs
      have HT := Lib.hid (rTrim hs)
      clear hs
      go_wp2_with (go_at_call 51; ((with_reducible refine HT.out.mono ?_); rintro e w4 ⟨A4, n4, c4, rfl, hm4, hk4, hb4⟩))
      go_ret
      have := hm4.len
      exact ⟨A4, n4, c4, rfl, hm4, by omega, HB.out.trans (hb4.mono HB.out.size)⟩
end Go.Proofs.Ytbendmhcimadpaa
