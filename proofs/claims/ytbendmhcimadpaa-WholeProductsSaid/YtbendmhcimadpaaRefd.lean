/-
  The document's answers of layer 1: what Div, Shl, Shr and Root do, said of numbers.
-/
import Derived.Test.YtbendmhcimadpaaRefc
namespace Go.Proofs.Ytbendmhcimadpaa
open Go.RowKit
set_option linter.unusedVariables false

theorem rAddE {w : World} {A1 A2 : Option Addr} {n m c1 c2 a b r : Nat} (h1 : Rd w A1 n c1 a) (h2 : Rd w A2 m c2 b) (hn : n ≤ 1073741824) (hm : m ≤ 1073741824) (hr : a + b = r) :
    Calls Try.prog 37 #[.slice A1 n c1, .slice A2 m c2] w (P1 w (n + m + 1) r) := hr ▸ rAdd h1 h2 hn hm

theorem div_uniq {x d q r : Nat} (h : x = d * q + r) (hr : r < d) : x / d = q ∧ x % d = r := by
  subst h
  rw [Nat.mul_add_div (by omega), Nat.mul_add_mod, Nat.div_eq_of_lt hr, Nat.mod_eq_of_lt hr]
  exact ⟨rfl, rfl⟩

/-- One step of a division bit by bit. -/
theorem div_bit {A d b : Nat} (hd : 0 < d) (hb : b ≤ 1) :
    (d ≤ 2 * (A % d) + b → (2 * A + b) / d = 2 * (A / d) + 1 ∧ (2 * A + b) % d = 2 * (A % d) + b - d) ∧ (2 * (A % d) + b < d → (2 * A + b) / d = 2 * (A / d) ∧ (2 * A + b) % d = 2 * (A % d) + b) := by
  have h1 := div_split A d
  have h2 := Nat.mod_lt A hd
  constructor
  · intro h
    refine div_uniq ?_ (by omega)
    have : d * (2 * (A / d) + 1) = 2 * (A / d * d) + d := by grind
    omega
  · intro h
    refine div_uniq ?_ h
    have : d * (2 * (A / d)) = 2 * (A / d * d) := by grind
    omega

theorem quo_bit {Q i : Nat} : Q * 2 ^ (i + 1) / 2 ^ i % 2 = 0 := by
  rw [Nat.pow_succ, ← Nat.mul_assoc, Nat.mul_right_comm, Nat.mul_div_cancel _ (Nat.two_pow_pos i)]
  omega

set_option maxHeartbeats 400000 in
theorem rDiv0 {w : World} {A1 A2 : Option Addr} {n m c1 c2 a : Nat} (h1 : Rd w A1 n c1 a) (h2 : Rd w A2 m c2 0) :
    Calls Try.prog 46 #[.slice A1 n c1, .slice A2 m c2] w fun e w' => e = .returned (.tuple #[.slice none 0 0, .slice none 0 0, .bool false]) ∧ Below w.heap.size w w' := by
  have HT := Lib.hid (rTrim h2)
  clear h1 h2
  go_enter Try.func46, Try.ntmps46
  go_wp2_with fail
  refine HT.out.mono ?_
  rintro e w3 ⟨A3, p, c3, rfl, s3, k3, B3⟩
  obtain rfl : p = 0 := by rw [← s3.len, limbs_zero]; rfl
  clear HT
  go_wp2
  go_ret3
  exact ⟨rfl, B3⟩

set_option maxHeartbeats 4000000 in
theorem rDiv {w : World} {A1 A2 : Option Addr} {n m c1 c2 a d : Nat} (h1 : Rd w A1 n c1 a) (h2 : Rd w A2 m c2 d) (hn : n ≤ 268435456) (hm : m ≤ 268435456) (hd : d ≠ 0) :
    Calls Try.prog 46 #[.slice A1 n c1, .slice A2 m c2] w (P3 w n (a / d) (a % d)) := by
  have hd0 : 0 < d := Nat.pos_of_ne_zero hd
  have hLb := h1.blen_le
  have hLa := blen_lt a
  have hl1 := Nat.le_trans (limbs_length_mono (Nat.div_le_self a d)) h1.limbs_le
  have hl2 := Nat.le_trans (limbs_length_mono (Nat.mod_le a d)) h1.limbs_le
  have HT := Lib.hid (rTrim h2)
  go_enter Try.func46, Try.ntmps46
  go_wp2_with fail
  refine HT.out.mono ?_
  rintro e w3 ⟨Ad, p, cd, rfl, sd, kd, B3⟩
  have sa := h1.below B3
  have hp : p ≠ 0 := fun e => hd (limbs_length_zero.1 (by rw [sd.len, e]))
  have hp0 : ((p : Int) == 0) = false := by simpa using hp
  have HB3 := Lib.hid B3
  clear HT B3 h1 h2 hp
  go_wp2_with fail
  refine (rLen sa rfl).mono ?_
  rintro e w4 ⟨rfl, B4⟩
  replace sa := sa.below B4
  replace sd := sd.below B4
  have HB4 := Lib.hid (HB3.out.trans (B4.mono HB3.out.size))
  clear B4 HB3
  have HD0 : Hid (a / 2 ^ blen a = 0) := Nat.div_eq_of_lt hLa
  have hdm : d < 4294967296 ^ m := Nat.lt_of_lt_of_le sd.rd.bound (Nat.pow_le_pow_right (by decide) kd)
  have HDM := Lib.hid hdm
  clear hLa hdm
  revert hLb HD0
  generalize blen a = L
  intro hLb HD0
  go_wp2
  go_loopw [8, 9, 10] (fun vq vr i wr => ∃ k : Nat, k ≤ L ∧ i = .int .i64 ((L : Int) - 1 - k) ∧ ∃ Aq lq cq Ar lr cr, vq = .slice Aq lq cq ∧ vr = .slice Ar lr cr ∧ Rd wr Aq lq cq (a / 2 ^ (L - k) / d * 2 ^ (L - k)) ∧ Nm wr Ar lr cr (a / 2 ^ (L - k) % d) ∧ lq ≤ n ∧
      Rd wr A1 n c1 a ∧ Nm wr Ad p cd d ∧ Below w.heap.size w wr) (fun _ _ i _ => (intOf i + 1).toNat)
  case atStart => exact ⟨0, Nat.zero_le _, by go_num, none, 0, 0, none, 0, 0, rfl, rfl, by rw [Nat.sub_zero, HD0.out, Nat.zero_div, Nat.zero_mul]; exact Nm.zero.rd, by rw [Nat.sub_zero, HD0.out, Nat.zero_mod]; exact Nm.zero, by omega, sa, sd, HB4.out⟩
  case round =>
    clear sa sd HB4
    obtain ⟨k, hk, rfl, Aq, lq, cq, Ar, lr, cr, rfl, rfl, sq, sr, hlq, sa, sd, hbl⟩ := hrel
    have HB := Lib.hid hbl
    clear hbl
    by_cases hlt : k < L
    · have hi0 : 0 ≤ (L : Int) - 1 - k := by omega
      obtain ⟨i, hi⟩ : ∃ i, L - 1 - k = i := ⟨_, rfl⟩
      have hij : L - k = i + 1 := by omega
      have ei : (L : Int) - 1 - k = (i : Int) := by omega
      have hin : i / 32 + 1 ≤ n := by omega
      have hib : i ≤ 34359738368 := by omega
      rw [hij] at sq sr
      have hnext : L - (k + 1) = i := by omega
      have hlr : lr ≤ m := by
        rw [← sr.len]
        exact limbs_length_le (Nat.lt_trans (Nat.mod_lt _ hd0) HDM.out)
      have hbt := bit_on a d i
      obtain ⟨bt, hbte⟩ : ∃ bt, a / 2 ^ i % 2 = bt := ⟨_, rfl⟩
      have hb1 : bt ≤ 1 := by omega
      rw [hbte] at hbt
      have hstep := div_bit (A := a / 2 ^ (i + 1)) (b := bt) hd0 hb1
      rw [← hbt] at hstep
      obtain ⟨Q, hQ⟩ : ∃ Q, a / 2 ^ (i + 1) / d = Q := ⟨_, rfl⟩
      obtain ⟨r, hr⟩ : ∃ r, a / 2 ^ (i + 1) % d = r := ⟨_, rfl⟩
      rw [hQ, hr] at hstep
      rw [hQ] at sq
      rw [hr] at sr
      have hrd : r < d := by rw [← hr]; exact Nat.mod_lt _ hd0
      have HQ2 := Lib.hid (quo_bit (Q := Q) (i := i))
      have hpp : Q * 2 ^ (i + 1) = 2 * Q * 2 ^ i := by rw [Nat.pow_succ]; grind
      have E1 : Hid (r + r = 2 * r) := by show _ = _; omega
      have HIS : Hid (d ≤ 2 * r + bt → Q * 2 ^ (i + 1) + 2 ^ i = a / 2 ^ (L - (k + 1)) / d * 2 ^ (L - (k + 1)) ∧ 2 * r + bt - d = a / 2 ^ (L - (k + 1)) % d) := fun h => by
        obtain ⟨x1, x2⟩ := hstep.1 h
        rw [hnext, x1, x2, hpp]
        exact ⟨by grind, rfl⟩
      have HNO : Hid (2 * r + bt < d → Q * 2 ^ (i + 1) = a / 2 ^ (L - (k + 1)) / d * 2 ^ (L - (k + 1)) ∧ 2 * r + bt = a / 2 ^ (L - (k + 1)) % d) := fun h => by
        obtain ⟨x1, x2⟩ := hstep.2 h
        rw [hnext, x1, x2, hpp]
        exact ⟨rfl, rfl⟩
      have HBT := Lib.hid hbte
      clear hbt hi hij hnext hstep  hpp hQ hr hbte
      by_cases hbz : bt = 0
      · subst hbz
        have ET : Hid (decide (a / 2 ^ i % 2 = 1) = false) := by show _ = _; rw [HBT.out]; rfl
        by_cases hle : d ≤ 2 * r
        · obtain ⟨x, hx⟩ : ∃ x, 2 * r - d = x := ⟨_, rfl⟩
          have E3 := Lib.hid hx
          have HQN := Lib.hid (HIS.out hle).1
          have HRN : Hid (x = a / 2 ^ (L - (k + 1)) % d) := by show _ = _; rw [← hx]; exact (HIS.out hle).2
          clear hx HIS HNO HBT
          go_wp2_with (first
            | (go_at_call 37; ((with_reducible refine (rAddE sr.rd sr.rd (by omega) (by omega) E1.out).mono ?_); rintro e w2 ⟨A2, n2, c2, rfl, s2, k2, B⟩; replace sa := sa.below B; replace sd := sd.below B; replace sq := sq.below B; replace HB := Lib.hid (HB.out.trans (B.mono HB.out.size)); clear B))
            | (go_at_call 63; ((with_reducible refine (rBit sa i (by omega) ET.out).mono ?_); rintro e w3 ⟨rfl, B⟩; replace sa := sa.below B; replace sd := sd.below B; replace sq := sq.below B; replace s2 := s2.below B; replace HB := Lib.hid (HB.out.trans (B.mono HB.out.size)); clear B))
            | (go_at_call 38; ((with_reducible refine (rSub s2.rd sd.rd hle E3.out).mono ?_); rintro e w5 ⟨A5, n5, c5, rfl, s5, k5, B⟩; replace sa := sa.below B; replace sd := sd.below B; replace sq := sq.below B; replace HB := Lib.hid (HB.out.trans (B.mono HB.out.size)); clear B))
            | (go_at_call 64; ((with_reducible refine (rSet sq i (by omega) (by omega) HQ2.out).mono ?_); rintro e w6 ⟨A6, n6, c6, rfl, s6, k6, B⟩; replace sa := sa.below B; replace sd := sd.below B; replace s5 := s5.below B; replace HB := Lib.hid (HB.out.trans (B.mono HB.out.size)); clear B)))
          go_roundw
          case rel => exact ⟨k + 1, by omega, by congr 1; omega, _, _, _, _, _, _, rfl, rfl, (by rw [HQN.out] at s6; exact s6), (by rw [HRN.out] at s5; exact s5), by omega, sa, sd, HB.out⟩
          case measure => simp [intOf]; omega
        · have hlt2 : 2 * r < d := by omega
          have HQN := Lib.hid (HNO.out hlt2).1
          have HRN : Hid (2 * r = a / 2 ^ (L - (k + 1)) % d) := (HNO.out hlt2).2
          clear HIS HNO HBT hle
          go_wp2_with (first
            | (go_at_call 37; ((with_reducible refine (rAddE sr.rd sr.rd (by omega) (by omega) E1.out).mono ?_); rintro e w2 ⟨A2, n2, c2, rfl, s2, k2, B⟩; replace sa := sa.below B; replace sd := sd.below B; replace sq := sq.below B; replace HB := Lib.hid (HB.out.trans (B.mono HB.out.size)); clear B))
            | (go_at_call 63; ((with_reducible refine (rBit sa i (by omega) ET.out).mono ?_); rintro e w3 ⟨rfl, B⟩; replace sa := sa.below B; replace sd := sd.below B; replace sq := sq.below B; replace s2 := s2.below B; replace HB := Lib.hid (HB.out.trans (B.mono HB.out.size)); clear B))
            | (go_at_call 38; ((with_reducible refine (rSub_lt s2.rd sd.rd hlt2).mono ?_); rintro e w5 ⟨rfl, B⟩; replace sa := sa.below B; replace sd := sd.below B; replace sq := sq.below B; replace s2 := s2.below B; replace HB := Lib.hid (HB.out.trans (B.mono HB.out.size)); clear B)))
          go_roundw
          case rel => exact ⟨k + 1, by omega, by congr 1; omega, _, _, _, _, _, _, rfl, rfl, (by rw [HQN.out] at sq; exact sq), (by rw [HRN.out] at s2; exact s2), by omega, sa, sd, HB.out⟩
          case measure => simp [intOf]; omega
      · obtain rfl : bt = 1 := by omega
        have ET : Hid (decide (a / 2 ^ i % 2 = 1) = true) := by show _ = _; rw [HBT.out]; rfl
        have E2 : Hid (2 * r + 1 = 2 * r + 1) := rfl
        by_cases hle : d ≤ 2 * r + 1
        · obtain ⟨x, hx⟩ : ∃ x, 2 * r + 1 - d = x := ⟨_, rfl⟩
          have E3 := Lib.hid hx
          have HQN := Lib.hid (HIS.out hle).1
          have HRN : Hid (x = a / 2 ^ (L - (k + 1)) % d) := by show _ = _; rw [← hx]; exact (HIS.out hle).2
          clear hx HIS HNO HBT
          go_wp2_with (first
            | (go_at_call 37; ((with_reducible refine (rAddE sr.rd sr.rd (by omega) (by omega) E1.out).mono ?_); rintro e w2 ⟨A2, n2, c2, rfl, s2, k2, B⟩; replace sa := sa.below B; replace sd := sd.below B; replace sq := sq.below B; replace HB := Lib.hid (HB.out.trans (B.mono HB.out.size)); clear B))
            | (go_at_call 63; ((with_reducible refine (rBit sa i (by omega) ET.out).mono ?_); rintro e w3 ⟨rfl, B⟩; replace sa := sa.below B; replace sd := sd.below B; replace sq := sq.below B; replace s2 := s2.below B; replace HB := Lib.hid (HB.out.trans (B.mono HB.out.size)); clear B))
            | (go_at_call 37; ((with_reducible refine (rAddE (s2.below (alloc_below w3 (.cells #[.int .u32 1] 54))).rd (one_rd w3) (by omega) (by omega) rfl).mono ?_); rintro e w4 ⟨A4, n4, c4, rfl, s4, k4, B⟩; replace sa := sa.below (alloc_below w3 (.cells #[.int .u32 1] 54)); replace sd := sd.below (alloc_below w3 (.cells #[.int .u32 1] 54)); replace sq := sq.below (alloc_below w3 (.cells #[.int .u32 1] 54)); replace HB := Lib.hid (HB.out.alloc HB.out.size (.cells #[.int .u32 1] 54)); replace sa := sa.below B; replace sd := sd.below B; replace sq := sq.below B; replace HB := Lib.hid (HB.out.trans (B.mono HB.out.size)); clear B))
            | (go_at_call 38; ((with_reducible refine (rSub s4.rd sd.rd hle E3.out).mono ?_); rintro e w5 ⟨A5, n5, c5, rfl, s5, k5, B⟩; replace sa := sa.below B; replace sd := sd.below B; replace sq := sq.below B; replace HB := Lib.hid (HB.out.trans (B.mono HB.out.size)); clear B))
            | (go_at_call 64; ((with_reducible refine (rSet sq i (by omega) (by omega) HQ2.out).mono ?_); rintro e w6 ⟨A6, n6, c6, rfl, s6, k6, B⟩; replace sa := sa.below B; replace sd := sd.below B; replace s5 := s5.below B; replace HB := Lib.hid (HB.out.trans (B.mono HB.out.size)); clear B)))
          go_roundw
          case rel => exact ⟨k + 1, by omega, by congr 1; omega, _, _, _, _, _, _, rfl, rfl, (by rw [HQN.out] at s6; exact s6), (by rw [HRN.out] at s5; exact s5), by omega, sa, sd, HB.out⟩
          case measure => simp [intOf]; omega
        · have hlt2 : 2 * r + 1 < d := by omega
          have HQN := Lib.hid (HNO.out hlt2).1
          have HRN := Lib.hid (HNO.out hlt2).2
          clear HIS HNO HBT hle
          go_wp2_with (first
            | (go_at_call 37; ((with_reducible refine (rAddE sr.rd sr.rd (by omega) (by omega) E1.out).mono ?_); rintro e w2 ⟨A2, n2, c2, rfl, s2, k2, B⟩; replace sa := sa.below B; replace sd := sd.below B; replace sq := sq.below B; replace HB := Lib.hid (HB.out.trans (B.mono HB.out.size)); clear B))
            | (go_at_call 63; ((with_reducible refine (rBit sa i (by omega) ET.out).mono ?_); rintro e w3 ⟨rfl, B⟩; replace sa := sa.below B; replace sd := sd.below B; replace sq := sq.below B; replace s2 := s2.below B; replace HB := Lib.hid (HB.out.trans (B.mono HB.out.size)); clear B))
            | (go_at_call 37; ((with_reducible refine (rAddE (s2.below (alloc_below w3 (.cells #[.int .u32 1] 54))).rd (one_rd w3) (by omega) (by omega) rfl).mono ?_); rintro e w4 ⟨A4, n4, c4, rfl, s4, k4, B⟩; replace sa := sa.below (alloc_below w3 (.cells #[.int .u32 1] 54)); replace sd := sd.below (alloc_below w3 (.cells #[.int .u32 1] 54)); replace sq := sq.below (alloc_below w3 (.cells #[.int .u32 1] 54)); replace HB := Lib.hid (HB.out.alloc HB.out.size (.cells #[.int .u32 1] 54)); replace sa := sa.below B; replace sd := sd.below B; replace sq := sq.below B; replace HB := Lib.hid (HB.out.trans (B.mono HB.out.size)); clear B))
            | (go_at_call 38; ((with_reducible refine (rSub_lt s4.rd sd.rd hlt2).mono ?_); rintro e w5 ⟨rfl, B⟩; replace sa := sa.below B; replace sd := sd.below B; replace sq := sq.below B; replace s4 := s4.below B; replace HB := Lib.hid (HB.out.trans (B.mono HB.out.size)); clear B)))
          go_roundw
          case rel => exact ⟨k + 1, by omega, by congr 1; omega, _, _, _, _, _, _, rfl, rfl, (by rw [HQN.out] at sq; exact sq), (by rw [HRN.out] at s4; exact s4), by omega, sa, sd, HB.out⟩
          case measure => simp [intOf]; omega
    · obtain rfl : k = L := by omega
      rw [Nat.sub_self, Nat.pow_zero, Nat.div_one, Nat.mul_one] at sq
      rw [Nat.sub_self, Nat.pow_zero, Nat.div_one] at sr
      go_wp2_with (first
        | (go_at_call 51; ((with_reducible refine (rTrim sq).mono ?_); rintro e w6 ⟨A6, n6, c6, rfl, s6, k6, B⟩; replace sr := sr.below B; replace HB := Lib.hid (HB.out.trans (B.mono HB.out.size)); clear B))
        | (go_at_call 51; ((with_reducible refine (rTrim sr.rd).mono ?_); rintro e w7 ⟨A7, n7, c7, rfl, s7, k7, B⟩; replace s6 := s6.below B; replace HB := Lib.hid (HB.out.trans (B.mono HB.out.size)); clear B)))
      go_ret3
      have e6 := s6.len
      have e7 := s7.len
      exact ⟨A6, n6, c6, A7, n7, c7, rfl, s6, s7, by omega, by omega, HB.out⟩
end Go.Proofs.Ytbendmhcimadpaa
