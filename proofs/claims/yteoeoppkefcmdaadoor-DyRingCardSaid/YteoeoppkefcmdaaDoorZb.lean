/-
  Contracts and words that the statements' proofs rest on, several texts in one: Refd, Refr, Da, Db, Qb, Wg, Qc, Dc, Wh, Qd, Refh, Dd, Ea, Eb, Df, Ec, De, Ed, Vm, Root, Shl, Valr, Js, Ee, Wb, Wf, Lw, Ef, Vn.
-/
import Derived.Deep.RegionWith
import Derived.Deep.RegionHeld3
import Derived.IntWalk
import Derived.StillTailTactics
import Derived.Deep.DeepCutAuto
import Derived.Test.YteoeoppkefcmdaaDoorZa
/-
  The document's answers of layer 1: what Div, Shl, Shr and Root do, said of numbers.
-/
namespace Go.Proofs.YteoeoppkefcmdaaDoor
open Go.RowKit
set_option linter.unusedVariables false

theorem rAddE {w : World} {A1 A2 : Option Addr} {n m c1 c2 a b r : Nat} (h1 : Rd w A1 n c1 a) (h2 : Rd w A2 m c2 b) (hn : n ≤ 1073741824) (hm : m ≤ 1073741824) (hr : a + b = r) :
    Calls Tryd.prog 84 #[.slice A1 n c1, .slice A2 m c2] w (P1 w (n + m + 1) r) := hr ▸ rAdd h1 h2 hn hm

theorem div_uniq {x d q r : Nat} (h : x = d * q + r) (hr : r < d) : x / d = q ∧ x % d = r := by
  subst h
  rw [Nat.mul_add_div (by omega), Nat.mul_add_mod, Nat.div_eq_of_lt hr, Nat.mod_eq_of_lt hr]
  exact ⟨rfl, rfl⟩

/-- One step of a division bit by bit. -/
theorem div_bit {A d b : Nat} (hd : 0 < d) (hb : b ≤ 1) :
    (d ≤ 2 * (A % d) + b → (2 * A + b) / d = 2 * (A / d) + 1 ∧ (2 * A + b) % d = 2 * (A % d) + b - d) ∧ (2 * (A % d) + b < d → (2 * A + b) / d = 2 * (A / d) ∧ (2 * A + b) % d = 2 * (A % d) + b) := by
  have h1 := div_split A d
  have h2 := Nat.mod_lt A hd
  constructor
  · intro h
    refine div_uniq ?_ (by omega)
    have : d * (2 * (A / d) + 1) = 2 * (A / d * d) + d := by grind
    omega
  · intro h
    refine div_uniq ?_ h
    have : d * (2 * (A / d)) = 2 * (A / d * d) := by grind
    omega

theorem quo_bit {Q i : Nat} : Q * 2 ^ (i + 1) / 2 ^ i % 2 = 0 := by
  rw [Nat.pow_succ, ← Nat.mul_assoc, Nat.mul_right_comm, Nat.mul_div_cancel _ (Nat.two_pow_pos i)]
  omega

set_option maxHeartbeats 400000 in
theorem rDiv0 {w : World} {A1 A2 : Option Addr} {n m c1 c2 a : Nat} (h1 : Rd w A1 n c1 a) (h2 : Rd w A2 m c2 0) :
    Calls Tryd.prog 70 #[.slice A1 n c1, .slice A2 m c2] w fun e w' => e = .returned (.tuple #[.slice none 0 0, .slice none 0 0, .bool false]) ∧ Below w.heap.size w w' := by
  have HT := Lib.hid (rTrim h2)
  clear h1 h2
  go_enter Tryd.func70, Tryd.ntmps70
  go_wp2_with fail
  refine HT.out.mono ?_
  rintro e w3 ⟨A3, p, c3, rfl, s3, k3, B3⟩
  obtain rfl : p = 0 := by rw [← s3.len, limbs_zero]; rfl
  clear HT
  go_wp2
  go_ret3
  exact ⟨rfl, B3⟩

set_option maxHeartbeats 4000000 in
theorem rDiv {w : World} {A1 A2 : Option Addr} {n m c1 c2 a d : Nat} (h1 : Rd w A1 n c1 a) (h2 : Rd w A2 m c2 d) (hn : n ≤ 268435456) (hm : m ≤ 268435456) (hd : d ≠ 0) :
    Calls Tryd.prog 70 #[.slice A1 n c1, .slice A2 m c2] w (P3 w n (a / d) (a % d)) := by
  have hd0 : 0 < d := Nat.pos_of_ne_zero hd
  have hLb := h1.blen_le
  have hLa := blen_lt a
  have hl1 := Nat.le_trans (limbs_length_mono (Nat.div_le_self a d)) h1.limbs_le
  have hl2 := Nat.le_trans (limbs_length_mono (Nat.mod_le a d)) h1.limbs_le
  have HT := Lib.hid (rTrim h2)
  go_enter Tryd.func70, Tryd.ntmps70
  go_wp2_with fail
  refine HT.out.mono ?_
  rintro e w3 ⟨Ad, p, cd, rfl, sd, kd, B3⟩
  have sa := h1.below B3
  have hp : p ≠ 0 := fun e => hd (limbs_length_zero.1 (by rw [sd.len, e]))
  have hp0 : ((p : Int) == 0) = false := by simpa using hp
  have HB3 := Lib.hid B3
  clear HT B3 h1 h2 hp
  go_wp2_with fail
  refine (rLen sa rfl).mono ?_
  rintro e w4 ⟨rfl, B4⟩
  replace sa := sa.below B4
  replace sd := sd.below B4
  have HB4 := Lib.hid (HB3.out.trans (B4.mono HB3.out.size))
  clear B4 HB3
  have HD0 : Hid (a / 2 ^ blen a = 0) := Nat.div_eq_of_lt hLa
  have hdm : d < 4294967296 ^ m := Nat.lt_of_lt_of_le sd.rd.bound (Nat.pow_le_pow_right (by decide) kd)
  have HDM := Lib.hid hdm
  clear hLa hdm
  revert hLb HD0
  generalize blen a = L
  intro hLb HD0
  go_wp2
  go_loopw [8, 9, 10] (fun vq vr i wr => ∃ k : Nat, k ≤ L ∧ i = .int .i64 ((L : Int) - 1 - k) ∧ ∃ Aq lq cq Ar lr cr, vq = .slice Aq lq cq ∧ vr = .slice Ar lr cr ∧ Rd wr Aq lq cq (a / 2 ^ (L - k) / d * 2 ^ (L - k)) ∧ Nm wr Ar lr cr (a / 2 ^ (L - k) % d) ∧ lq ≤ n ∧
      Rd wr A1 n c1 a ∧ Nm wr Ad p cd d ∧ Below w.heap.size w wr) (fun _ _ i _ => (intOf i + 1).toNat)
  case atStart => exact ⟨0, Nat.zero_le _, by go_num, none, 0, 0, none, 0, 0, rfl, rfl, by rw [Nat.sub_zero, HD0.out, Nat.zero_div, Nat.zero_mul]; exact Nm.zero.rd, by rw [Nat.sub_zero, HD0.out, Nat.zero_mod]; exact Nm.zero, by omega, sa, sd, HB4.out⟩
  case round =>
    clear sa sd HB4
    obtain ⟨k, hk, rfl, Aq, lq, cq, Ar, lr, cr, rfl, rfl, sq, sr, hlq, sa, sd, hbl⟩ := hrel
    have HB := Lib.hid hbl
    clear hbl
    by_cases hlt : k < L
    · have hi0 : 0 ≤ (L : Int) - 1 - k := by omega
      obtain ⟨i, hi⟩ : ∃ i, L - 1 - k = i := ⟨_, rfl⟩
      have hij : L - k = i + 1 := by omega
      have ei : (L : Int) - 1 - k = (i : Int) := by omega
      have hin : i / 32 + 1 ≤ n := by omega
      have hib : i ≤ 34359738368 := by omega
      rw [hij] at sq sr
      have hnext : L - (k + 1) = i := by omega
      have hlr : lr ≤ m := by
        rw [← sr.len]
        exact limbs_length_le (Nat.lt_trans (Nat.mod_lt _ hd0) HDM.out)
      have hbt := bit_on a d i
      obtain ⟨bt, hbte⟩ : ∃ bt, a / 2 ^ i % 2 = bt := ⟨_, rfl⟩
      have hb1 : bt ≤ 1 := by omega
      rw [hbte] at hbt
      have hstep := div_bit (A := a / 2 ^ (i + 1)) (b := bt) hd0 hb1
      rw [← hbt] at hstep
      obtain ⟨Q, hQ⟩ : ∃ Q, a / 2 ^ (i + 1) / d = Q := ⟨_, rfl⟩
      obtain ⟨r, hr⟩ : ∃ r, a / 2 ^ (i + 1) % d = r := ⟨_, rfl⟩
      rw [hQ, hr] at hstep
      rw [hQ] at sq
      rw [hr] at sr
      have hrd : r < d := by rw [← hr]; exact Nat.mod_lt _ hd0
      have HQ2 := Lib.hid (quo_bit (Q := Q) (i := i))
      have hpp : Q * 2 ^ (i + 1) = 2 * Q * 2 ^ i := by rw [Nat.pow_succ]; grind
      have E1 : Hid (r + r = 2 * r) := by show _ = _; omega
      have HIS : Hid (d ≤ 2 * r + bt → Q * 2 ^ (i + 1) + 2 ^ i = a / 2 ^ (L - (k + 1)) / d * 2 ^ (L - (k + 1)) ∧ 2 * r + bt - d = a / 2 ^ (L - (k + 1)) % d) := fun h => by
        obtain ⟨x1, x2⟩ := hstep.1 h
        rw [hnext, x1, x2, hpp]
        exact ⟨by grind, rfl⟩
      have HNO : Hid (2 * r + bt < d → Q * 2 ^ (i + 1) = a / 2 ^ (L - (k + 1)) / d * 2 ^ (L - (k + 1)) ∧ 2 * r + bt = a / 2 ^ (L - (k + 1)) % d) := fun h => by
        obtain ⟨x1, x2⟩ := hstep.2 h
        rw [hnext, x1, x2, hpp]
        exact ⟨rfl, rfl⟩
      have HBT := Lib.hid hbte
      clear hbt hi hij hnext hstep  hpp hQ hr hbte
      by_cases hbz : bt = 0
      · subst hbz
        have ET : Hid (decide (a / 2 ^ i % 2 = 1) = false) := by show _ = _; rw [HBT.out]; rfl
        by_cases hle : d ≤ 2 * r
        · obtain ⟨x, hx⟩ : ∃ x, 2 * r - d = x := ⟨_, rfl⟩
          have E3 := Lib.hid hx
          have HQN := Lib.hid (HIS.out hle).1
          have HRN : Hid (x = a / 2 ^ (L - (k + 1)) % d) := by show _ = _; rw [← hx]; exact (HIS.out hle).2
          clear hx HIS HNO HBT
          go_wp2_with (first
            | (go_at_call 84; ((with_reducible refine (rAddE sr.rd sr.rd (by omega) (by omega) E1.out).mono ?_); rintro e w2 ⟨A2, n2, c2, rfl, s2, k2, B⟩; replace sa := sa.below B; replace sd := sd.below B; replace sq := sq.below B; replace HB := Lib.hid (HB.out.trans (B.mono HB.out.size)); clear B))
            | (go_at_call 85; ((with_reducible refine (rBit sa i (by omega) ET.out).mono ?_); rintro e w3 ⟨rfl, B⟩; replace sa := sa.below B; replace sd := sd.below B; replace sq := sq.below B; replace s2 := s2.below B; replace HB := Lib.hid (HB.out.trans (B.mono HB.out.size)); clear B))
            | (go_at_call 86; ((with_reducible refine (rSub s2.rd sd.rd hle E3.out).mono ?_); rintro e w5 ⟨A5, n5, c5, rfl, s5, k5, B⟩; replace sa := sa.below B; replace sd := sd.below B; replace sq := sq.below B; replace HB := Lib.hid (HB.out.trans (B.mono HB.out.size)); clear B))
            | (go_at_call 87; ((with_reducible refine (rSet sq i (by omega) (by omega) HQ2.out).mono ?_); rintro e w6 ⟨A6, n6, c6, rfl, s6, k6, B⟩; replace sa := sa.below B; replace sd := sd.below B; replace s5 := s5.below B; replace HB := Lib.hid (HB.out.trans (B.mono HB.out.size)); clear B)))
          go_roundw
          case rel => exact ⟨k + 1, by omega, by congr 1; omega, _, _, _, _, _, _, rfl, rfl, (by rw [HQN.out] at s6; exact s6), (by rw [HRN.out] at s5; exact s5), by omega, sa, sd, HB.out⟩
          case measure => simp [intOf]; omega
        · have hlt2 : 2 * r < d := by omega
          have HQN := Lib.hid (HNO.out hlt2).1
          have HRN : Hid (2 * r = a / 2 ^ (L - (k + 1)) % d) := (HNO.out hlt2).2
          clear HIS HNO HBT hle
          go_wp2_with (first
            | (go_at_call 84; ((with_reducible refine (rAddE sr.rd sr.rd (by omega) (by omega) E1.out).mono ?_); rintro e w2 ⟨A2, n2, c2, rfl, s2, k2, B⟩; replace sa := sa.below B; replace sd := sd.below B; replace sq := sq.below B; replace HB := Lib.hid (HB.out.trans (B.mono HB.out.size)); clear B))
            | (go_at_call 85; ((with_reducible refine (rBit sa i (by omega) ET.out).mono ?_); rintro e w3 ⟨rfl, B⟩; replace sa := sa.below B; replace sd := sd.below B; replace sq := sq.below B; replace s2 := s2.below B; replace HB := Lib.hid (HB.out.trans (B.mono HB.out.size)); clear B))
            | (go_at_call 86; ((with_reducible refine (rSub_lt s2.rd sd.rd hlt2).mono ?_); rintro e w5 ⟨rfl, B⟩; replace sa := sa.below B; replace sd := sd.below B; replace sq := sq.below B; replace s2 := s2.below B; replace HB := Lib.hid (HB.out.trans (B.mono HB.out.size)); clear B)))
          go_roundw
          case rel => exact ⟨k + 1, by omega, by congr 1; omega, _, _, _, _, _, _, rfl, rfl, (by rw [HQN.out] at sq; exact sq), (by rw [HRN.out] at s2; exact s2), by omega, sa, sd, HB.out⟩
          case measure => simp [intOf]; omega
      · obtain rfl : bt = 1 := by omega
        have ET : Hid (decide (a / 2 ^ i % 2 = 1) = true) := by show _ = _; rw [HBT.out]; rfl
        have E2 : Hid (2 * r + 1 = 2 * r + 1) := rfl
        by_cases hle : d ≤ 2 * r + 1
        · obtain ⟨x, hx⟩ : ∃ x, 2 * r + 1 - d = x := ⟨_, rfl⟩
          have E3 := Lib.hid hx
          have HQN := Lib.hid (HIS.out hle).1
          have HRN : Hid (x = a / 2 ^ (L - (k + 1)) % d) := by show _ = _; rw [← hx]; exact (HIS.out hle).2
          clear hx HIS HNO HBT
          go_wp2_with (first
            | (go_at_call 84; ((with_reducible refine (rAddE sr.rd sr.rd (by omega) (by omega) E1.out).mono ?_); rintro e w2 ⟨A2, n2, c2, rfl, s2, k2, B⟩; replace sa := sa.below B; replace sd := sd.below B; replace sq := sq.below B; replace HB := Lib.hid (HB.out.trans (B.mono HB.out.size)); clear B))
            | (go_at_call 85; ((with_reducible refine (rBit sa i (by omega) ET.out).mono ?_); rintro e w3 ⟨rfl, B⟩; replace sa := sa.below B; replace sd := sd.below B; replace sq := sq.below B; replace s2 := s2.below B; replace HB := Lib.hid (HB.out.trans (B.mono HB.out.size)); clear B))
            | (go_at_call 84; ((with_reducible refine (rAddE (s2.below (alloc_below w3 (.cells #[.int .u32 1] 51))).rd (one_rd w3) (by omega) (by omega) rfl).mono ?_); rintro e w4 ⟨A4, n4, c4, rfl, s4, k4, B⟩; replace sa := sa.below (alloc_below w3 (.cells #[.int .u32 1] 51)); replace sd := sd.below (alloc_below w3 (.cells #[.int .u32 1] 51)); replace sq := sq.below (alloc_below w3 (.cells #[.int .u32 1] 51)); replace HB := Lib.hid (HB.out.alloc HB.out.size (.cells #[.int .u32 1] 51)); replace sa := sa.below B; replace sd := sd.below B; replace sq := sq.below B; replace HB := Lib.hid (HB.out.trans (B.mono HB.out.size)); clear B))
            | (go_at_call 86; ((with_reducible refine (rSub s4.rd sd.rd hle E3.out).mono ?_); rintro e w5 ⟨A5, n5, c5, rfl, s5, k5, B⟩; replace sa := sa.below B; replace sd := sd.below B; replace sq := sq.below B; replace HB := Lib.hid (HB.out.trans (B.mono HB.out.size)); clear B))
            | (go_at_call 87; ((with_reducible refine (rSet sq i (by omega) (by omega) HQ2.out).mono ?_); rintro e w6 ⟨A6, n6, c6, rfl, s6, k6, B⟩; replace sa := sa.below B; replace sd := sd.below B; replace s5 := s5.below B; replace HB := Lib.hid (HB.out.trans (B.mono HB.out.size)); clear B)))
          go_roundw
          case rel => exact ⟨k + 1, by omega, by congr 1; omega, _, _, _, _, _, _, rfl, rfl, (by rw [HQN.out] at s6; exact s6), (by rw [HRN.out] at s5; exact s5), by omega, sa, sd, HB.out⟩
          case measure => simp [intOf]; omega
        · have hlt2 : 2 * r + 1 < d := by omega
          have HQN := Lib.hid (HNO.out hlt2).1
          have HRN := Lib.hid (HNO.out hlt2).2
          clear HIS HNO HBT hle
          go_wp2_with (first
            | (go_at_call 84; ((with_reducible refine (rAddE sr.rd sr.rd (by omega) (by omega) E1.out).mono ?_); rintro e w2 ⟨A2, n2, c2, rfl, s2, k2, B⟩; replace sa := sa.below B; replace sd := sd.below B; replace sq := sq.below B; replace HB := Lib.hid (HB.out.trans (B.mono HB.out.size)); clear B))
            | (go_at_call 85; ((with_reducible refine (rBit sa i (by omega) ET.out).mono ?_); rintro e w3 ⟨rfl, B⟩; replace sa := sa.below B; replace sd := sd.below B; replace sq := sq.below B; replace s2 := s2.below B; replace HB := Lib.hid (HB.out.trans (B.mono HB.out.size)); clear B))
            | (go_at_call 84; ((with_reducible refine (rAddE (s2.below (alloc_below w3 (.cells #[.int .u32 1] 51))).rd (one_rd w3) (by omega) (by omega) rfl).mono ?_); rintro e w4 ⟨A4, n4, c4, rfl, s4, k4, B⟩; replace sa := sa.below (alloc_below w3 (.cells #[.int .u32 1] 51)); replace sd := sd.below (alloc_below w3 (.cells #[.int .u32 1] 51)); replace sq := sq.below (alloc_below w3 (.cells #[.int .u32 1] 51)); replace HB := Lib.hid (HB.out.alloc HB.out.size (.cells #[.int .u32 1] 51)); replace sa := sa.below B; replace sd := sd.below B; replace sq := sq.below B; replace HB := Lib.hid (HB.out.trans (B.mono HB.out.size)); clear B))
            | (go_at_call 86; ((with_reducible refine (rSub_lt s4.rd sd.rd hlt2).mono ?_); rintro e w5 ⟨rfl, B⟩; replace sa := sa.below B; replace sd := sd.below B; replace sq := sq.below B; replace s4 := s4.below B; replace HB := Lib.hid (HB.out.trans (B.mono HB.out.size)); clear B)))
          go_roundw
          case rel => exact ⟨k + 1, by omega, by congr 1; omega, _, _, _, _, _, _, rfl, rfl, (by rw [HQN.out] at sq; exact sq), (by rw [HRN.out] at s4; exact s4), by omega, sa, sd, HB.out⟩
          case measure => simp [intOf]; omega
    · obtain rfl : k = L := by omega
      rw [Nat.sub_self, Nat.pow_zero, Nat.div_one, Nat.mul_one] at sq
      rw [Nat.sub_self, Nat.pow_zero, Nat.div_one] at sr
      go_wp2_with (first
        | (go_at_call 69; ((with_reducible refine (rTrim sq).mono ?_); rintro e w6 ⟨A6, n6, c6, rfl, s6, k6, B⟩; replace sr := sr.below B; replace HB := Lib.hid (HB.out.trans (B.mono HB.out.size)); clear B))
        | (go_at_call 69; ((with_reducible refine (rTrim sr.rd).mono ?_); rintro e w7 ⟨A7, n7, c7, rfl, s7, k7, B⟩; replace s6 := s6.below B; replace HB := Lib.hid (HB.out.trans (B.mono HB.out.size)); clear B)))
      go_ret3
      have e6 := s6.len
      have e7 := s7.len
      exact ⟨A6, n6, c6, A7, n7, c7, rfl, s6, s7, by omega, by omega, HB.out⟩
end Go.Proofs.YteoeoppkefcmdaaDoor

/-
  The document's answers of layer 1: what Shr does, said of numbers.
-/
namespace Go.Proofs.YteoeoppkefcmdaaDoor
open Go.RowKit
set_option linter.unusedVariables false

theorem lit_pow2 (W : World) (s o : Nat) (ho : 2 ^ s = o) (hs : s < 32) : Rd (W.alloc (.cells #[.int .u32 (o : Int)] 51)) (some ⟨W.heap.size, 0, none⟩) 1 1 (2 ^ s) := by
  have hb : o < 4294967296 := by rw [← ho]; exact Nat.pow_lt_pow_right (n := 32) (by decide) hs
  exact ⟨_, _, lit1 W o hb, by rw [ho]; simp [val]⟩

theorem sl_drop {w : World} {b o n c : Nat} {xs : List Nat} (h : Sl w b (some ⟨b, o, none⟩) n c xs) {q : Nat} (hq : q < n) : Sl w b (some ⟨b, o + q, none⟩) (n - q) (c - q) (xs.drop q) := by
  obtain ⟨o', e, hc⟩ := h.at (by omega)
  injection e with e
  injection e with _ e
  subst e
  exact ⟨by rw [List.length_drop, h.len], by have := h.cap; omega, by have := h.big; omega, h.lim.drop q, fun _ => ⟨o + q, rfl, fun k hk => by rw [Nat.add_assoc, hc (q + k) (by omega), getD_drop]⟩⟩

theorem rShr_low {w : World} {A1 : Option Addr} {n c1 a : Nat} (z : Int) (h1 : Rd w A1 n c1 a) (hz : z < 1) : Calls Tryd.prog 44 #[.slice A1 n c1, .int .i64 z] w (P1 w n a) := by
  have HT := Lib.hid (rTrim h1)
  clear h1
  go_enter Tryd.func44, Tryd.ntmps44
  go_wp2_with (go_at_call 69; ((with_reducible refine HT.out.mono ?_); rintro e w6 ⟨A6, n6, c6, rfl, s6, k6, B⟩))
  go_ret
  exact ⟨A6, n6, c6, rfl, s6, k6, B⟩
theorem rShr_all {w : World} {A1 : Option Addr} {n c1 : Nat} (z : Int) (hz : 1 ≤ z) (hn : 32 * (n : Int) ≤ z) (hb : n ≤ 268435456) : Calls Tryd.prog 44 #[.slice A1 n c1, .int .i64 z] w fun e w' => e = .returned (.slice none 0 0) ∧ Below w.heap.size w w' := by
  go_enter Tryd.func44, Tryd.ntmps44
  go_wp2
  go_ret
  exact ⟨rfl, Below.refl _ _⟩

set_option maxHeartbeats 1000000 in
theorem rShr_mid {w : World} {A1 : Option Addr} {n c1 a : Nat} (z : Nat) (h1 : Rd w A1 n c1 a) (hn : n ≤ 268435456) (hz1 : 1 ≤ z) (hz : z < 32 * n) : Calls Tryd.prog 44 #[.slice A1 n c1, .int .i64 (z : Int)] w (P1 w n (a / 2 ^ z)) := by
  obtain ⟨b1, xs, h1, rfl⟩ := h1
  have hl := Nat.le_trans (limbs_length_mono (Nat.div_le_self (val xs) (2 ^ z))) (by have := val_limbs_le h1.lim; rw [h1.len] at this; exact this)
  obtain ⟨o1, rfl, _⟩ := h1.at (by omega)
  have hq : (z : Int) / 32 = ((z / 32 : Nat) : Int) := by omega
  have hs : (z : Int) % 32 = ((z % 32 : Nat) : Int) := by omega
  have HP : Hid (2 ^ z = 4294967296 ^ (z / 32) * 2 ^ (z % 32)) := by show _ = _; rw [← pow_split, show 32 * (z / 32) + z % 32 = z by omega]
  have hs32 : z % 32 < 32 := Nat.mod_lt _ (by decide)
  have hqb : z / 32 < n := by omega
  revert hq hs HP hs32 hqb
  generalize z / 32 = q
  generalize z % 32 = s
  intro hq hs HP hs32 hqb
  obtain ⟨o, ho⟩ : ∃ o, 2 ^ s = o := ⟨_, rfl⟩
  have eo : (2 : Int) ^ s = (o : Int) := by rw [← ho]; simp
  have bo : o < 4294967296 := by rw [← ho]; exact Nat.pow_lt_pow_right (n := 32) (by decide) hs32
  have HO := Lib.hid ho
  clear ho
  have hcap := h1.cap
  have hcne : ¬ (c1 = q) := by omega
  have HT := Lib.hid (rTrim ⟨b1, _, sl_drop h1 hqb, val_drop_div h1.lim q⟩)
  clear h1
  go_enter Tryd.func44, Tryd.ntmps44
  go_wp2_with (first
    | (go_at_call 69; ((with_reducible refine HT.out.mono ?_); rintro e w6 ⟨A6, n6, c6, rfl, s6, k6, B⟩; have HB := Lib.hid B; clear B))
    | (go_at_call 70; ((with_reducible refine (rDiv (s6.below (alloc_below w6 (.cells #[.int .u32 (o : Int)] 51))).rd (lit_pow2 w6 s o HO.out hs32) (by omega) (by omega) (Nat.pos_iff_ne_zero.1 (Nat.two_pow_pos s))).mono ?_); rintro e w7 ⟨A7, n7, c7, A8, n8, c8, rfl, s7, s8, k7, k8, B⟩; replace HB := Lib.hid ((HB.out.alloc HB.out.size (.cells #[.int .u32 (o : Int)] 51)).trans (B.mono (HB.out.alloc HB.out.size (.cells #[.int .u32 (o : Int)] 51)).size)); clear B)))
  go_ret
  rw [Nat.div_div_eq_div_mul, ← HP.out] at s7
  exact ⟨A7, n7, c7, rfl, s7, by omega, HB.out⟩

/-- Any number of bits, moved down: the document's answer. -/
theorem rShrP {w : World} {A1 : Option Addr} {n c1 a : Nat} (z : Int) (h1 : Rd w A1 n c1 a) (hn : n ≤ 268435456) : Calls Tryd.prog 44 #[.slice A1 n c1, .int .i64 z] w (P1 w n (a / 2 ^ z.toNat)) := by
  by_cases h0 : z < 1
  · rw [show z.toNat = 0 by omega, Nat.pow_zero, Nat.div_one]
    exact rShr_low z h1 h0
  · by_cases h2 : 32 * (n : Int) ≤ z
    · have e : a / 2 ^ z.toNat = 0 := by
        apply Nat.div_eq_of_lt
        have := h1.bound
        rw [pow32] at this
        exact Nat.lt_of_lt_of_le this (Nat.pow_le_pow_right (by decide) (by omega))
      rw [e]
      refine (rShr_all z (by omega) h2 hn).mono ?_
      rintro e w' ⟨rfl, B⟩
      exact ⟨none, 0, 0, rfl, Nm.zero, Nat.zero_le _, B⟩
    · obtain ⟨k, rfl⟩ := Int.eq_ofNat_of_zero_le (show 0 ≤ z by omega)
      rw [Int.toNat_natCast]
      exact rShr_mid k h1 hn (by omega) (by omega)
end Go.Proofs.YteoeoppkefcmdaaDoor

/-
  Words for numbers times powers of two; and what pelorusref03.even and Make do.
-/
namespace Go.Proofs.YteoeoppkefcmdaaDoor
open Go.RowKit
set_option linter.unusedVariables false

theorem val_int0 {k : IntKind} {a b : Int} (h : a = b) : Value.int k a = .int k b := by rw [h]
/-- The call answers the number N times 2 to the power E. -/
def D1 (w : World) (K : Nat) (N E : Int) (e : Ending) (w' : World) : Prop := ∃ s A n c, e = .returned (.agg #[.bool s, .slice A n c, .int .i64 E]) ∧ Wn w' s A n c N ∧ n ≤ K ∧ Below w.heap.size w w'
/-- Three cells stored into a box: what is read elsewhere stays. -/
theorem Wn.st3 {w : World} {g : Nat} {cs : Array Value} {T : TypeId} {t : Bool} {B : Option Addr} {m d : Nat} {z : Int} (h : Wn w t B m d z) (X : Bo w g cs T) (s : Bool) (A : Option Addr) (n c : Nat) (e : Int) (hn : cs.all no32 = true) :
    Wn (((w.setCell ⟨g, 0, none⟩ (.bool s)).setCell ⟨g, 1, none⟩ (.slice A n c)).setCell ⟨g, 2, none⟩ (.int .i64 e)) t B m d z := by
  have step : ∀ (cs : Array Value) (i : Nat) (v : Value), cs.all no32 = true → no32 v = true → (cs.setIfInBounds i v).all no32 = true := by
    intro cs i v h1 h2
    rw [Array.all_eq_true] at h1 ⊢
    intro j hj
    rw [Array.getElem_setIfInBounds]
    split
    · exact h2
    · exact h1 j (by simpa using hj)
  exact ((h.store X hn 0 _).store (X.set 0 _) (step _ _ _ hn rfl) 1 _).store ((X.set 0 _).set 1 _) (step _ _ _ (step _ _ _ hn rfl) rfl) 2 _
theorem st3 {B : Nat} {a w : World} (h : Below B a w) {b : Nat} (hp : B ≤ b) (u v t : Value) : Below B a (((w.setCell ⟨b, 0, none⟩ u).setCell ⟨b, 1, none⟩ v).setCell ⟨b, 2, none⟩ t) := below_store (below_store (below_store h hp 0 u) hp 1 v) hp 2 t

set_option maxHeartbeats 400000 in
theorem q3Even {w : World} {A : Option Addr} {n c a : Nat} {t : Bool} (h : Nm w A n c a) (ht : decide (a ≠ 0 ∧ a % 2 = 0) = t) : Calls Tryd.prog 43 #[.slice A n c] w fun e w' => e = .returned (.bool t) ∧ w = w' := by
  have hp := h.pos
  have hbig := h.rd.big
  rcases Nat.eq_zero_or_pos n with e | hn
  · subst e
    obtain rfl : a = 0 := by omega
    subst ht
    clear h hp
    go_enter Tryd.func43, Tryd.ntmps43
    go_wp2
    go_ret
    exact ⟨rfl, rfl⟩
  · have ha : a ≠ 0 := by omega
    obtain ⟨b, h⟩ := h
    have hcap := h.cap
    obtain ⟨o, rfl, hcell⟩ := h.at hn
    have hck := hcell 0 hn
    clear hcell
    have hx : (limbs a).getD 0 0 = a % 4294967296 := by rw [limbs_pos ha]; rfl
    rw [hx, Nat.add_zero] at hck
    have HT : Hid ((((a % 4294967296 : Nat) : Int) % 2 == 0) = t) := Lib.hid (by
      rw [← ht, Bool.eq_iff_iff]
      simp [ha]
      omega)
    have hlt : a % 4294967296 < 4294967296 := Nat.mod_lt _ (by decide)
    clear ht hx ha hp h
    revert hck HT hlt
    generalize a % 4294967296 = x
    intro hck HT hlt
    go_enter Tryd.func43, Tryd.ntmps43
    go_wp2
    go_ret
    exact ⟨ret_bool HT.out, rfl⟩

/-- What holds at the head of Make's loop. -/
def MkInv (w w1 : World) (z : Int) (n k : Nat) (wr : World) : Prop :=
  ∃ s A p c, Bx wr w1.heap.size s A p c ∧ Wn wr s A p c (sg (decide (z < 0)) (z.natAbs / 2 ^ k)) ∧ p ≤ n ∧ Bo wr (w.heap.size + 1) #[.bool false, .slice none 0 0, .int .i64 0] 27 ∧ w.heap.size + 1 < w1.heap.size ∧ Below w.heap.size w wr

set_option maxHeartbeats 4000000 in
theorem q3make_in {w : World} {s : Bool} {A : Option Addr} {n c : Nat} {z e : Int} (h : Wr w s A n c z) (hn : n ≤ 100000) (h0 : z ≠ 0) (h1 : -4194304 ≤ e) (h2 : e ≤ 4194304) {N E : Int} (HN : Hid ((mk z e).1 = N)) (HE : Hid ((mk z e).2 = E)) :
    Calls Tryd.prog 12 #[.agg #[.bool s, .slice A n c], .int .i64 e] w (D1 w n N E) := by
  have ha : z.natAbs ≠ 0 := by omega
  have hv : v2 z.natAbs < 3200001 := by
    have e1 := v2_pow_le ha
    have e2 := h.rd.bound
    rw [pow32] at e2
    have e3 := (Nat.pow_lt_pow_iff_right (a := 2) (by decide)).1 (Nat.lt_of_le_of_lt e1 e2)
    omega
  obtain ⟨m, hm⟩ : ∃ m, v2 z.natAbs = m := ⟨_, rfl⟩
  have HM := Lib.hid hm
  have hm1 : m < 3200001 := by omega
  have t1 : decide (e < -4194304) = false := by simp; omega
  have t2 : decide (4194304 < e) = false := by simp; omega
  clear hm hv
  go_enter Tryd.func12, Tryd.ntmps12
  go_wp2_with fail
  refine (qMake s (h.rd.below (bel2 _ _ _))).mono ?_
  rintro ee w1 ⟨s1, A1, n1, c1, rfl, p1, k1, B1⟩
  rw [h.eq] at p1
  have hpos : 0 < n1 := by have := p1.1.pos; omega
  have hq : ((n1 : Int) == 0) = false := by have : (n1 : Int) ≠ 0 := by omega
                                            simpa using this
  have hbig1 := p1.1.rd.big
  have XR : Bo (w1.alloc (.cells #[.bool s1, .slice A1 n1 c1] 24)) (w.heap.size + 1) #[.bool false, .slice none 0 0, .int .i64 0] 27 := ((Bo.newAt _ (by simp) _ _).below B1).below (bel1 _ _)
  have hg : w.heap.size + 1 < w1.heap.size := ((Bo.newAt _ (by simp) #[.bool false, .slice none 0 0, .int .i64 0] 27).below B1).lt
  have HI : Hid (MkInv w w1 z n 0 (w1.alloc (.cells #[.bool s1, .slice A1 n1 c1] 24))) := Lib.hid ⟨s1, A1, n1, c1, Bx.new _ _ _ _ _, by
    have e0 : sg (decide (z < 0)) (z.natAbs / 2 ^ 0) = z := by
      rw [Nat.pow_zero, Nat.div_one]
      by_cases hz : z < 0
      · simp [sg, hz]; omega
      · simp [sg, hz]; omega
    rw [e0]
    exact p1.below (bel1 _ _), k1, XR, hg, bt (bt (bel2 _ _ _) B1) (bel1 _ _)⟩
  clear XR B1
  have x50 := (Bx.new w1 s1 A1 n1 c1).cell1
  go_wp2
  go_loopw [1, 6] (fun ee i wr => ∃ k : Nat, k ≤ m ∧ i = .int .i64 k ∧ ee = .int .i64 (e + k) ∧ MkInv w w1 z n k wr) (fun _ i _ => m + 1 - (intOf i).toNat)
  case atStart => exact ⟨0, Nat.zero_le _, rfl, val_int0 (by omega), HI.out⟩
  case round =>
    clear HI x50 p1
    obtain ⟨k, hk, rfl, rfl, s2, A2, p, c2, X5, hw, hp, XR, _, hB⟩ := hrel
    have HB := Lib.hid hB
    clear hB
    have hNm : Nm wr A2 p c2 (z.natAbs / 2 ^ k) := by have := hw.1; rwa [sg_natAbs] at this
    obtain ⟨v1, v2'⟩ := v2_step ha (i := k) (by rw [HM.out]; exact hk)
    rw [HM.out] at v1
    have x50 := X5.cell0
    have x51 := X5.cell1
    have r0 : wr.cell? ⟨w.heap.size + 1, 0, none⟩ = some (.bool false) := XR.cell 0
    have r1 : wr.cell? ⟨w.heap.size + 1, 1, none⟩ = some (.slice none 0 0) := XR.cell 1
    have r2 : wr.cell? ⟨w.heap.size + 1, 2, none⟩ = some (.int .i64 0) := XR.cell 2
    have q0 := XR.frozen 0
    have q1 := XR.frozen 1
    have q2 := XR.frozen 2
    have hk4 : (k : Int) < 4000000 := by omega
    have hsg : s2 = decide (z < 0) := by
      rw [hw.2, sg_lt]
      have : decide (0 < z.natAbs / 2 ^ k) = true := decide_eq_true (Nat.pos_of_ne_zero v2')
      rw [this, Bool.and_true]
    have HG := Lib.hid hsg
    clear hsg
    by_cases hlt : k < m
    · have HT : Hid (decide (z.natAbs / 2 ^ k ≠ 0 ∧ z.natAbs / 2 ^ k % 2 = 0) = true) := Lib.hid (decide_eq_true ⟨v2', v1.2 hlt⟩)
      have HV := Lib.hid v1
      have HV2 := Lib.hid v2'
      clear v1 v2'
      go_wp2_with fail
      refine (q3Even hNm HT.out).mono ?_
      rintro ee w' ⟨rfl, rfl⟩
      go_wp2
      go_region_with ((go_at_call 44; ((with_reducible refine (rShrP 1 hNm.rd.drew (by omega)).mono ?_); rintro ee w3 ⟨A3, n3, c3, rfl, h3, k3, B3⟩; clear x50 x51 r0 r1 r2 q0 q1 q2; replace X5 := X5.drew.below B3; replace XR := XR.drew.below B3; replace HB := Lib.hid (bt HB.out.drew B3); clear B3; have x50 := X5.cell0; have x51 := X5.cell1; have f50 := X5.frozen 0; have f51 := X5.frozen 1)))
      all_goals
        go_wp2
        go_roundw
        case rel =>
          refine ⟨k + 1, by omega, by go_num, val_int0 (by omega), s2, A3, n3, c3, X5.set _ _ _ _, ?_, by omega, (XR.far (by omega) 0 _).far (by omega) 1 _, hg, st2 HB.out (by omega) _ _⟩
          have e1 : z.natAbs / 2 ^ k / 2 ^ (1 : Int).toNat = z.natAbs / 2 ^ (k + 1) := by rw [Nat.div_div_eq_div_mul, ← Nat.pow_add]; rfl
          rw [e1] at h3
          have hpos2 := (v2_step ha (i := k + 1) (by rw [HM.out]; omega)).2
          refine ⟨by rw [sg_natAbs]; exact h3.st X5 _ _, ?_⟩
          rw [sg_lt, decide_eq_true (Nat.pos_of_ne_zero hpos2), Bool.and_true]
          exact HG.out
        case measure => simp [intOf]; omega
    · obtain rfl : k = m := by omega
      have HT : Hid (decide (z.natAbs / 2 ^ k ≠ 0 ∧ z.natAbs / 2 ^ k % 2 = 0) = false) := Lib.hid (decide_eq_false (fun hh => absurd (v1.1 hh.2) hlt))
      clear v1 v2'
      by_cases hE : 4194304 < e + k
      · have e3 := mk_over (z := z) (e := e) (by rw [HM.out]; exact hE)
        have hN0 : N = 0 := by rw [← HN.out, e3]
        have hE0 : E = 0 := by rw [← HE.out, e3]
        subst hN0
        subst hE0
        clear e3
        go_wp2_with fail
        refine (q3Even hNm HT.out).mono ?_
        rintro ee w' ⟨rfl, rfl⟩
        go_wp2
        exact bodyPost_ret (v := .agg #[.bool false, .slice none 0 0, .int .i64 0]) (by simp [results, Tryd.results12, go_sem, r0, r1, r2]) rfl
          ⟨false, none, 0, 0, rfl, Wn.zero.st3 XR _ _ _ _ _ (by simp [no32]), Nat.zero_le _, st3 HB.out (by omega) _ _ _⟩
      · obtain ⟨e1, e2, e3, e4, e5⟩ := mk_in (z := z) (e := e) h0 h1 (by rw [HM.out]; omega)
        have HNE : Hid (sg (decide (z < 0)) (z.natAbs / 2 ^ k) = N) := Lib.hid (by
          rw [← HN.out]
          rw [HM.out] at e2
          rw [← e2]
          by_cases hz : z < 0
          · have := e3.2 hz
            simp [sg, hz]; omega
          · have : ¬ (mk z e).1 < 0 := fun h => hz (e3.1 h)
            simp [sg, hz]; omega)
        have hEE : E = e + k := by rw [← HE.out, e1, HM.out]
        subst hEE
        have hE2 : e + (k : Int) ≤ 4194304 := by omega
        have t3 : decide (4194304 < e + (k : Int)) = false := decide_eq_false hE
        clear e1 e2 e3 e4 e5 hE h0
        go_wp2_with fail
        refine (q3Even hNm HT.out).mono ?_
        rintro ee w' ⟨rfl, rfl⟩
        go_wp2
        exact bodyPost_ret (v := .agg #[.bool s2, .slice A2 p c2, .int .i64 (e + k)]) (by simp [results, Tryd.results12, go_sem, r0, r1, r2]) rfl
          ⟨s2, A2, p, c2, rfl, HNE.out ▸ hw.st3 XR _ _ _ _ _ (by simp [no32]), hp, st3 HB.out (by omega) _ _ _⟩
end Go.Proofs.YteoeoppkefcmdaaDoor

/-
  What pelorusref03.Make does, for every exponent; Alike, Sign, Neg and Move.
-/
namespace Go.Proofs.YteoeoppkefcmdaaDoor
open Go.RowKit
set_option linter.unusedVariables false

set_option maxHeartbeats 1000000 in
theorem q3make_out {w : World} {s : Bool} {A : Option Addr} {n c : Nat} {z e : Int} (h : Wr w s A n c z) (hc : z = 0 ∨ e < -4194304 ∨ 4194304 < e) :
    Calls Tryd.prog 12 #[.agg #[.bool s, .slice A n c], .int .i64 e] w (D1 w n 0 0) := by
  by_cases h0 : z = 0
  · subst h0
    clear hc
    go_enter Tryd.func12, Tryd.ntmps12
    go_wp2_with fail
    refine (qMake s (h.rd.below (bel2 _ _ _))).mono ?_
    rintro ee w1 ⟨s1, A1, n1, c1, rfl, p1, k1, B1⟩
    rw [h.eq] at p1
    obtain rfl : n1 = 0 := by have := p1.1.pos; omega
    have XR : Bo (w1.alloc (.cells #[.bool s1, .slice A1 0 c1] 24)) (w.heap.size + 1) #[.bool false, .slice none 0 0, .int .i64 0] 27 := ((Bo.newAt _ (by simp) _ _).below B1).below (bel1 _ _)
    have HB := Lib.hid (bt (bt (bel2 _ _ _) B1) (bel1 w1 (.cells #[.bool s1, .slice A1 0 c1] 24)))
    have x51 := (Bx.new w1 s1 A1 0 c1).cell1
    have r0 : (w1.alloc (.cells #[.bool s1, .slice A1 0 c1] 24)).cell? ⟨w.heap.size + 1, 0, none⟩ = some (.bool false) := XR.cell 0
    have r1 : (w1.alloc (.cells #[.bool s1, .slice A1 0 c1] 24)).cell? ⟨w.heap.size + 1, 1, none⟩ = some (.slice none 0 0) := XR.cell 1
    have r2 : (w1.alloc (.cells #[.bool s1, .slice A1 0 c1] 24)).cell? ⟨w.heap.size + 1, 2, none⟩ = some (.int .i64 0) := XR.cell 2
    have q0 := XR.frozen 0
    have q1 := XR.frozen 1
    have q2 := XR.frozen 2
    clear B1
    go_wp2
    exact bodyPost_ret (v := .agg #[.bool false, .slice none 0 0, .int .i64 0]) (by simp [results, Tryd.results12, go_sem, r0, r1, r2]) rfl
      ⟨false, none, 0, 0, rfl, Wn.zero.st3 XR _ _ _ _ _ (by simp [no32]), Nat.zero_le _, st3 HB.out (by omega) _ _ _⟩
  · have hc2 : e < -4194304 ∨ (¬ e < -4194304 ∧ 4194304 < e) := by omega
    clear hc
    rcases hc2 with ht | ⟨ht, ht2⟩
    all_goals
      go_enter Tryd.func12, Tryd.ntmps12
      go_wp2_with fail
      refine (qMake s (h.rd.below (bel2 _ _ _))).mono ?_
      rintro ee w1 ⟨s1, A1, n1, c1, rfl, p1, k1, B1⟩
      rw [h.eq] at p1
      have hpos : 0 < n1 := by have := p1.1.pos; omega
      have hq : ((n1 : Int) == 0) = false := by have : (n1 : Int) ≠ 0 := by omega
                                                simpa using this
      have hbig1 := p1.1.rd.big
      have XR : Bo (w1.alloc (.cells #[.bool s1, .slice A1 n1 c1] 24)) (w.heap.size + 1) #[.bool false, .slice none 0 0, .int .i64 0] 27 := ((Bo.newAt _ (by simp) _ _).below B1).below (bel1 _ _)
      have HB := Lib.hid (bt (bt (bel2 _ _ _) B1) (bel1 w1 (.cells #[.bool s1, .slice A1 n1 c1] 24)))
      have x51 := (Bx.new w1 s1 A1 n1 c1).cell1
      have r0 : (w1.alloc (.cells #[.bool s1, .slice A1 n1 c1] 24)).cell? ⟨w.heap.size + 1, 0, none⟩ = some (.bool false) := XR.cell 0
      have r1 : (w1.alloc (.cells #[.bool s1, .slice A1 n1 c1] 24)).cell? ⟨w.heap.size + 1, 1, none⟩ = some (.slice none 0 0) := XR.cell 1
      have r2 : (w1.alloc (.cells #[.bool s1, .slice A1 n1 c1] 24)).cell? ⟨w.heap.size + 1, 2, none⟩ = some (.int .i64 0) := XR.cell 2
      have q0 := XR.frozen 0
      have q1 := XR.frozen 1
      have q2 := XR.frozen 2
      clear B1 h0
      go_wp2
      exact bodyPost_ret (v := .agg #[.bool false, .slice none 0 0, .int .i64 0]) (by simp [results, Tryd.results12, go_sem, r0, r1, r2]) rfl
        ⟨false, none, 0, 0, rfl, Wn.zero.st3 XR _ _ _ _ _ (by simp [no32]), Nat.zero_le _, st3 HB.out (by omega) _ _ _⟩

theorem q3Make {w : World} {s : Bool} {A : Option Addr} {n c : Nat} {z e N E : Int} (h : Wr w s A n c z) (hn : n ≤ 100000) (hN : (mk z e).1 = N) (hE : (mk z e).2 = E) :
    Calls Tryd.prog 12 #[.agg #[.bool s, .slice A n c], .int .i64 e] w (D1 w n N E) := by
  by_cases hc : z = 0 ∨ e < -4194304 ∨ 4194304 < e
  · have hm : mk z e = (0, 0) := by
      rcases hc with rfl | hc | hc
      · exact mk_zero e
      · exact mk_low hc
      · exact mk_high hc
    rw [hm] at hN hE
    subst hN
    subst hE
    exact q3make_out h hc
  · exact q3make_in h hn (by omega) (by omega) (by omega) (Lib.hid hN) (Lib.hid hE)

/-- Block g is one number times a power of two. -/
abbrev Bd (w : World) (g : Nat) (s : Bool) (A : Option Addr) (n c : Nat) (e : Int) : Prop := Bo w g #[.bool s, .slice A n c, .int .i64 e] 27

set_option maxHeartbeats 400000 in
theorem q3Alike {w : World} {A B : Option Addr} {n c m d : Nat} {s t : Bool} {z e : Int} (h : Wn w s A n c z) (k : Wn w t B m d z) : Calls Tryd.prog 11 #[.agg #[.bool s, .slice A n c, .int .i64 e], .agg #[.bool t, .slice B m d, .int .i64 e]] w (PB w true) := by
  have he : (e == e) = true := by simp
  go_enter Tryd.func11, Tryd.ntmps11
  go_wp2_with (first
    | (go_at_call 28; ((with_reducible refine (qAlike (h.below (bel2 _ _ _)) (k.below (bel2 _ _ _))).mono ?_); rintro ee w2 ⟨rfl, B2⟩; obtain ⟨hc, hf⟩ := bcell B2)))
  go_ret
  exact ⟨rfl, bt (bel2 _ _ _) B2⟩

set_option maxHeartbeats 400000 in
theorem q3Sign {w : World} {A : Option Addr} {n c : Nat} {s : Bool} {z e r : Int} (h : Wr w s A n c z) (hn : n ≤ 100000) (hr : cmpI (mk z e).1 0 = r) : Calls Tryd.prog 18 #[.agg #[.bool s, .slice A n c, .int .i64 e]] w (PI w r) := by
  have HR := Lib.hid hr
  clear hr
  go_enter Tryd.func18, Tryd.ntmps18
  go_wp2_with fail
  refine (q3Make (h.below (bel1 _ _)) hn rfl rfl).mono ?_
  rintro ee w1 ⟨s1, A1, n1, c1, rfl, p1, k1, B1⟩
  go_wp2_with fail
  refine (qSign (p1.wr.below (bel1 _ _)) HR.out).mono ?_
  rintro ee w2 ⟨rfl, B2⟩
  go_wp2
  go_ret
  exact ⟨rfl, bt (bel1 _ _) (bt B1 (bt (bel1 _ _) B2))⟩
end Go.Proofs.YteoeoppkefcmdaaDoor

/-
  What pelorusref02.Add, Sub and Cmp do, for numbers of at most 2^30 limbs.
-/
namespace Go.Proofs.YteoeoppkefcmdaaDoor
open Go.RowKit
set_option linter.unusedVariables false

/-- The three boxes that a function of two whole numbers begins with. -/
theorem box3 (w : World) (s t : Bool) (A B : Option Addr) (n c m d : Nat) {W : World} (hW : W = ((w.alloc (.cells #[.bool s, .slice A n c] 24)).alloc (.cells #[.bool t, .slice B m d] 24)).alloc (.cells #[.bool false, .slice none 0 0] 24)) :
    Bx W w.heap.size s A n c ∧ Bx W (w.heap.size + 1) t B m d ∧ Bx W (w.heap.size + 1 + 1) false none 0 0 ∧ Below w.heap.size w W := by
  subst hW
  exact ⟨((Bx.new w s A n c).below (bel1 _ _)).below (bel1 _ _), (Bx.newAt _ (by simp) t B m d).below (bel1 _ _), Bx.newAt _ (by simp) false none 0 0, bel3 _ _ _ _⟩

set_option maxHeartbeats 2000000 in
theorem qAdd {w : World} {A B : Option Addr} {n c m d : Nat} {s t : Bool} {x y r : Int} (h : Wr w s A n c x) (k : Wr w t B m d y) (hn : n ≤ 1073741824) (hm : m ≤ 1073741824) (hr : x + y = r) :
    Calls Tryd.prog 71 #[.agg #[.bool s, .slice A n c], .agg #[.bool t, .slice B m d]] w (W1 w (n + m + 1) r) := by
  obtain ⟨a, h, e1⟩ := h
  obtain ⟨b, k, e2⟩ := k
  subst e1; subst e2
  by_cases hs : s = t
  · subst hs
    have HR : Hid (sg s (a + b) = r) := Lib.hid (by rw [← hr]; cases s <;> simp [sg] <;> omega)
    have hq : (s == s) = true := by simp
    clear hr
    go_enter Tryd.func71, Tryd.ntmps71
    go_wp2
    obtain ⟨X1, X2, X3, B0⟩ := box3 w s s A B n c m d rfl
    replace h := h.below B0
    replace k := k.below B0
    have HB := Lib.hid B0
    clear B0
    have x10 := X1.cell0
    have x11 := X1.cell1
    have x21 := X2.cell1
    go_region_held3 (fun w' => w'.cell? ⟨w.heap.size, 0, none⟩ = some (.bool s) ∧ w'.cell? ⟨w.heap.size, 1, none⟩ = some (.slice A n c) ∧ w'.cell? ⟨w.heap.size + 1, 1, none⟩ = some (.slice B m d))
      (first | with_reducible exact ⟨x10, x11, x21⟩ | with_reducible exact ⟨X1.cell0, X1.cell1, X2.cell1⟩ | with_reducible exact ⟨X1.drew.cell0, X1.drew.cell1, X2.drew.cell1⟩ | with_reducible exact ⟨(X1.far (Nat.ne_of_lt (Nat.lt_succ_of_lt (Nat.lt_succ_self _))) _ _).cell0, (X1.far (Nat.ne_of_lt (Nat.lt_succ_of_lt (Nat.lt_succ_self _))) _ _).cell1, (X2.far (Nat.ne_of_lt (Nat.lt_succ_self _)) _ _).cell1⟩)
      (first
        | (go_at_call 84; ((with_reducible refine (rAdd h.drew k.drew hn hm).mono ?_); rintro e w1 ⟨A1, n1, c1, rfl, h1, k1, B1⟩; clear x10 x11 x21; replace X1 := X1.drew.below B1; replace X2 := X2.drew.below B1; replace X3 := X3.drew.below B1; replace HB := Lib.hid (bt HB.out.drew B1); clear B1))
        | (go_at_call 42; ((with_reducible refine (qMake _ h1.rd).mono ?_); rintro e w2 ⟨s2, A2, n2, c2, rfl, h2, k2, B2⟩; replace X1 := X1.below B2; replace X2 := X2.below B2; replace X3 := X3.below B2; replace HB := Lib.hid (bt HB.out B2); clear B2; have y30 := X3.cell0; have y31 := X3.cell1; have f30 := X3.frozen 0; have f31 := X3.frozen 1)))
    go_wp2
    exact bodyPost_ret (v := .agg #[.bool s2, .slice A2 n2 c2]) (by simp [results, Tryd.results71, go_sem, X3.cell0, X3.cell1]) rfl ⟨s2, A2, n2, c2, rfl, HR.out ▸ h2.st X3 _ _, by omega, st2 HB.out (by omega) _ _⟩
  · have hq : (s == t) = false := by simpa using hs
    have hs' : t = !s := by cases s <;> cases t <;> simp_all
    by_cases hab : b ≤ a
    · have HR : Hid (sg s (a - b) = r) := Lib.hid (by rw [← hr, hs']; cases s <;> simp [sg] <;> omega)
      have HS := Lib.hid hs
      clear hr hs' hs
      go_enter Tryd.func71, Tryd.ntmps71
      go_wp2_with (first
        | (go_at_call 86; ((with_reducible refine (rSub (h.below (bel3 _ _ _ _)) (k.below (bel3 _ _ _ _)) hab rfl).mono ?_); rintro e w1 ⟨A1, n1, c1, rfl, h1, k1, B1⟩; obtain ⟨hc, hf⟩ := bcell B1))
        | (go_at_call 42; ((with_reducible refine (qMake _ h1.rd).mono ?_); rintro e w2 ⟨s2, A2, n2, c2, rfl, h2, k2, B2⟩; clear hc hf; obtain ⟨hc, hf⟩ := bcell (bt B1 B2))))
      have X : Bx w2 (w.heap.size + 1 + 1) false none 0 0 := (Bx.newAt _ (by simp) false none 0 0).below (bt B1 B2)
      exact bodyPost_ret (v := .agg #[.bool s2, .slice A2 n2 c2]) (by simp [results, Tryd.results71, go_sem, X.cell0, X.cell1]) rfl ⟨s2, A2, n2, c2, rfl, HR.out ▸ h2.st X _ _, by omega, st2 (bt (bel3 _ _ _ _) (bt B1 B2)) (by omega) _ _⟩
    · have HR : Hid (sg t (b - a) = r) := Lib.hid (by rw [← hr, hs']; cases s <;> simp [sg] <;> omega)
      have HS := Lib.hid hs
      have hlt : a < b := by omega
      have hle : a ≤ b := by omega
      clear hr hs' hs hab
      go_enter Tryd.func71, Tryd.ntmps71
      go_wp2_with (first
        | (go_at_call 86; ((with_reducible refine (rSub_lt (h.below (bel3 _ _ _ _)) (k.below (bel3 _ _ _ _)) hlt).mono ?_); rintro e w0 ⟨rfl, B0⟩; obtain ⟨hc, hf⟩ := bcell B0))
        | (go_at_call 86; ((with_reducible refine (rSub (k.below (bt (bel3 _ _ _ _) B0)) (h.below (bt (bel3 _ _ _ _) B0)) hle rfl).mono ?_); rintro e w1 ⟨A1, n1, c1, rfl, h1, k1, B1⟩; clear hc hf; obtain ⟨hc, hf⟩ := bcell (bt B0 B1)))
        | (go_at_call 42; ((with_reducible refine (qMake _ h1.rd).mono ?_); rintro e w2 ⟨s2, A2, n2, c2, rfl, h2, k2, B2⟩; clear hc hf; obtain ⟨hc, hf⟩ := bcell (bt B0 (bt B1 B2)))))
      have X : Bx w2 (w.heap.size + 1 + 1) false none 0 0 := (Bx.newAt _ (by simp) false none 0 0).below (bt B0 (bt B1 B2))
      exact bodyPost_ret (v := .agg #[.bool s2, .slice A2 n2 c2]) (by simp [results, Tryd.results71, go_sem, X.cell0, X.cell1]) rfl ⟨s2, A2, n2, c2, rfl, HR.out ▸ h2.st X _ _, by omega, st2 (bt (bel3 _ _ _ _) (bt B0 (bt B1 B2))) (by omega) _ _⟩

theorem cmpI_sub {x y : Int} : cmpI (x - y) 0 = cmpI x y := by unfold cmpI; split <;> (try split) <;> (try split) <;> (try split) <;> omega
end Go.Proofs.YteoeoppkefcmdaaDoor

/-
  What whole.Mul does: the product of all numbers of a slice, whose limbs together are not too many.
-/
namespace Go.Proofs.YteoeoppkefcmdaaDoor
open Go.RowKit
set_option linter.unusedVariables false

/-- The product of all. -/
def prd (l : List Int) : Int := l.foldl (· * ·) 1
theorem prd_take {l : List Int} {k : Nat} (h : k < l.length) : prd (l.take (k + 1)) = prd (l.take k) * l.getD k 0 := by
  unfold prd
  rw [List.take_succ_eq_append_getElem h, List.foldl_append]
  simp [List.getD_eq_getElem?_getD, h]
theorem sg_mul (s t : Bool) (a b : Nat) : sg (s != t) (a * b) = sg s a * sg t b := by
  cases s <;> cases t <;> simp [sg, Int.neg_mul, Int.mul_neg]

/-- A slice of whole numbers reads as the integers zs; none has more than K limbs. -/
def Wl (w : World) (A : Option Addr) (n c K : Nat) (zs : List Int) : Prop :=
  zs.length = n ∧ n ≤ c ∧ n ≤ 1099511627776 ∧ (0 < n → ∃ b o, A = some ⟨b, o, none⟩ ∧ ∀ k, k < n → ∃ s B m d, w.cell? ⟨b, o + k * 2, none⟩ = some (.bool s) ∧ w.cell? ⟨b, o + k * 2 + 1, none⟩ = some (.slice B m d) ∧ Wr w s B m d (zs.getD k 0) ∧ m ≤ K)
theorem Wl.below {w w' : World} {A : Option Addr} {n c K : Nat} {zs : List Int} (h : Wl w A n c K zs) (hb : Below w.heap.size w w') : Wl w' A n c K zs := by
  obtain ⟨h1, h2, h3, h4⟩ := h
  refine ⟨h1, h2, h3, fun hn => ?_⟩
  obtain ⟨b, o, e, hc⟩ := h4 hn
  refine ⟨b, o, e, fun k hk => ?_⟩
  obtain ⟨s, B, m, d, c0, c1, hw, hm⟩ := hc k hk
  exact ⟨s, B, m, d, (hb.cell (p := ⟨b, _, none⟩) (block_lt_of_cell c0)).trans c0, (hb.cell (p := ⟨b, _, none⟩) (block_lt_of_cell c1)).trans c1, hw.below hb, hm⟩

def WMulInv (w0 : World) (K : Nat) (zs : List Int) (k : Nat) (s : Bool) (A : Option Addr) (n c : Nat) (wr : World) : Prop := Below w0.heap.size w0 wr ∧ ∃ a, Nm wr A n c a ∧ sg s a = prd (zs.take k) ∧ n ≤ 1 + k * K
theorem one_nm (W : World) : Nm (W.alloc (.cells #[.int .u32 1] 51)) (some ⟨W.heap.size, 0, none⟩) 1 1 1 := ⟨_, by rw [show limbs 1 = [1] by rw [limbs_pos (by decide)]; simp [limbs_zero]]; exact one_limb W⟩

set_option maxHeartbeats 1000000 in
theorem wMul {w : World} {A : Option Addr} {n c K : Nat} {zs : List Int} {r : Int} (h : Wl w A n c K zs) (hK : 1 + n * K ≤ 1073741824) (hr : prd zs = r) : Calls Tryd.prog 51 #[.slice A n c] w (W1 w (1 + n * K) r) := by
  have hcap := h.2.1
  have hbig := h.2.2.1
  go_enter Tryd.func51, Tryd.ntmps51
  go_wp2
  go_loopw [3, 4, 10] (fun u m i wr => ∃ (k : Nat) (s : Bool) (B : Option Addr) (p d : Nat), k ≤ n ∧ i = .int .i64 k ∧ u = .bool s ∧ m = .slice B p d ∧ WMulInv ((w.alloc (.cells #[.bool false, .slice none 0 0] 24)).alloc (.cells #[.int .u32 1] 51)) K zs k s B p d wr) (fun _ _ i _ => n - (intOf i).toNat)
  case atStart => exact ⟨0, false, _, 1, 1, Nat.zero_le _, rfl, rfl, rfl, Below.refl _ _, 1, by first | exact one_nm _ | (have := one_nm (w.alloc (.cells #[.bool false, .slice none 0 0] 24)); simpa using this), rfl, by omega⟩
  case round =>
    obtain ⟨k, s, B, p, d, hk, rfl, rfl, rfl, hI⟩ := hrel
    have HI := Lib.hid hI
    clear hI
    by_cases hlt : k < n
    · obtain ⟨hB, a, ha, hs, hp⟩ := HI.out
      have hl := h.below (bt (bel2 _ _ _) hB)
      obtain ⟨b, o, rfl, hcell⟩ := hl.2.2.2 (by omega)
      obtain ⟨t, D, q, e, c0, c1, hw, hq⟩ := hcell k hlt
      clear hcell hl
      have HS := Lib.hid hs
      clear hs
      have hbl := block_lt_of_cell c0
      have hne : b ≠ wr.heap.size := by have : b < wr.heap.size := hbl
                                        omega
      have hnk : n * K = (n - k - 1) * K + (k * K + K) := by
        rw [← Nat.succ_mul, ← Nat.add_mul]; congr 1; omega
      have hp2 : p ≤ 1073741824 := by omega
      have hq2 : q ≤ 1073741824 := by omega
      have HNK := Lib.hid hnk
      clear hnk
      go_wp2_with (first
        | (go_at_call 72; ((with_reducible refine (vMul (ha.rd.below (bel1 _ _)) (hw.rd.below (bel1 _ _)) hp2 hq2).mono ?_); rintro e w3 ⟨A3, n3, c3, rfl, h3, k3, B3⟩)))
      go_roundw
      case rel =>
        refine ⟨k + 1, (s != t), A3, n3, c3, by omega, by go_num, rfl, rfl, bt hB (bt (bel1 _ _) B3), _, h3, ?_, by rw [Nat.succ_mul]; omega⟩
        rw [prd_take (by rw [h.1]; exact hlt), sg_mul, HS.out, hw.eq]
      case measure => simp [intOf]; omega
    · obtain rfl : k = n := by omega
      obtain ⟨hB, a, ha, hs, hp⟩ := HI.out
      have HS : Hid (sg s a = r) := Lib.hid (by rw [hs, ← hr, List.take_of_length_le (by rw [h.1]; omega)])
      clear hs hr
      go_wp2_with (first
        | (go_at_call 73; ((with_reducible refine (wSigned s ha).mono ?_); rintro e w2 ⟨s2, A2, n2, c2, rfl, h2, k2, B2⟩; obtain ⟨hc, hf⟩ := bcell (bt hB B2))))
      have X : Bx w2 w.heap.size false none 0 0 := (((Bx.new w false none 0 0).below (bel1 _ _)).below hB).below B2
      exact bodyPost_ret (v := .agg #[.bool s2, .slice A2 n2 c2]) (by simp [results, Tryd.results51, go_sem, X.cell0, X.cell1]) rfl ⟨s2, A2, n2, c2, rfl, HS.out ▸ h2.st X _ _, by omega, st2 (bt (bel2 _ _ _) (bt hB B2)) (Nat.le_refl _) _ _⟩
end Go.Proofs.YteoeoppkefcmdaaDoor

/-
  What pelorusref02.Two and Mul do.
-/
namespace Go.Proofs.YteoeoppkefcmdaaDoor
open Go.RowKit
set_option linter.unusedVariables false

set_option maxHeartbeats 2000000 in
theorem qTwo {w : World} {A B : Option Addr} {n c m d : Nat} {s t : Bool} {x y r : Int} (h : Wr w s A n c x) (k : Wr w t B m d y) (hn : n ≤ 268435456) (hm : m ≤ 268435456) (hr : x * y = r) :
    Calls Tryd.prog 52 #[.agg #[.bool s, .slice A n c], .agg #[.bool t, .slice B m d]] w (W1 w (n + m) r) := by
  obtain ⟨a, h, e1⟩ := h
  obtain ⟨b, k, e2⟩ := k
  have HR : Hid (sg (s != t) (a * b) = r) := Lib.hid (by rw [← hr, ← e1, ← e2]; exact sg_mul s t a b)
  clear hr e1 e2
  go_enter Tryd.func52, Tryd.ntmps52
  go_wp2
  obtain ⟨X1, X2, X3, B0⟩ := box3 w s t A B n c m d rfl
  replace h := h.below B0
  replace k := k.below B0
  have HB := Lib.hid B0
  clear B0
  have x10 := X1.cell0
  have x11 := X1.cell1
  have x20 := X2.cell0
  have x21 := X2.cell1
  go_region_held3 (fun w' => w'.cell? ⟨w.heap.size, 0, none⟩ = some (.bool s) ∧ w'.cell? ⟨w.heap.size, 1, none⟩ = some (.slice A n c) ∧ w'.cell? ⟨w.heap.size + 1, 0, none⟩ = some (.bool t) ∧ w'.cell? ⟨w.heap.size + 1, 1, none⟩ = some (.slice B m d))
    (first | with_reducible exact ⟨x10, x11, x20, x21⟩ | with_reducible exact ⟨X1.cell0, X1.cell1, X2.cell0, X2.cell1⟩ | with_reducible exact ⟨X1.drew.cell0, X1.drew.cell1, X2.drew.cell0, X2.drew.cell1⟩ | with_reducible exact ⟨(X1.far (Nat.ne_of_lt (Nat.lt_succ_of_lt (Nat.lt_succ_self _))) _ _).cell0, (X1.far (Nat.ne_of_lt (Nat.lt_succ_of_lt (Nat.lt_succ_self _))) _ _).cell1, (X2.far (Nat.ne_of_lt (Nat.lt_succ_self _)) _ _).cell0, (X2.far (Nat.ne_of_lt (Nat.lt_succ_self _)) _ _).cell1⟩)
    (first
      | (go_at_call 74; ((with_reducible refine (rMul h.drew k.drew hn hm rfl).mono ?_); rintro e w1 ⟨A1, n1, c1, rfl, h1, k1, B1⟩; clear x10 x11 x20 x21; replace X1 := X1.drew.below B1; replace X2 := X2.drew.below B1; replace X3 := X3.drew.below B1; replace HB := Lib.hid (bt HB.out.drew B1); clear B1))
      | (go_at_call 42; ((with_reducible refine (qMake (!(s == t)) h1.rd).mono ?_); rintro e w2 ⟨s2, A2, n2, c2, rfl, h2, k2, B2⟩; replace X1 := X1.below B2; replace X2 := X2.below B2; replace X3 := X3.below B2; replace HB := Lib.hid (bt HB.out B2); clear B2; have y30 := X3.cell0; have y31 := X3.cell1; have f30 := X3.frozen 0; have f31 := X3.frozen 1)))
  go_wp2
  exact bodyPost_ret (v := .agg #[.bool s2, .slice A2 n2 c2]) (by simp [results, Tryd.results52, go_sem, X3.cell0, X3.cell1]) rfl ⟨s2, A2, n2, c2, rfl, HR.out ▸ h2.st X3 _ _, by omega, st2 HB.out (by omega) _ _⟩

def QMulInv (w w0 : World) (K : Nat) (zs : List Int) (k : Nat) (wr : World) : Prop :=
  ∃ s A n c, Bx wr w.heap.size false none 0 0 ∧ Bx wr w0.heap.size s A n c ∧ Wn wr s A n c (prd (zs.take k)) ∧ n ≤ 2 + k * K ∧ w.heap.size < w0.heap.size ∧ Below w.heap.size w wr
end Go.Proofs.YteoeoppkefcmdaaDoor

/-
  What pelorusref03.Neg, Move, Mul do.
-/
namespace Go.Proofs.YteoeoppkefcmdaaDoor
open Go.RowKit
set_option linter.unusedVariables false

section
variable {w : World} {g : Nat} {a b c : Value} {T : TypeId}
theorem Bo.c0 (h : Bo w g #[a, b, c] T) : w.cell? ⟨g, 0, none⟩ = some a := h.cell 0
theorem Bo.c1 (h : Bo w g #[a, b, c] T) : w.cell? ⟨g, 1, none⟩ = some b := h.cell 1
theorem Bo.c2 (h : Bo w g #[a, b, c] T) : w.cell? ⟨g, 2, none⟩ = some c := h.cell 2
theorem Bo.far3 {cs : Array Value} (h : Bo w g cs T) {k : Nat} (hk : g ≠ k) (u v t : Value) : Bo (((w.setCell ⟨k, 0, none⟩ u).setCell ⟨k, 1, none⟩ v).setCell ⟨k, 2, none⟩ t) g cs T := ((h.far hk 0 u).far hk 1 v).far hk 2 t
end
/-- The two boxes that a function of one number begins with: it, and what is answered. -/
theorem dbox2 (w : World) (s : Bool) (A : Option Addr) (n c : Nat) (e : Int) {W : World} (hW : W = (w.alloc (.cells #[.bool s, .slice A n c, .int .i64 e] 27)).alloc (.cells #[.bool false, .slice none 0 0, .int .i64 0] 27)) :
    Bd W w.heap.size s A n c e ∧ Bd W (w.heap.size + 1) false none 0 0 0 ∧ Below w.heap.size w W := by
  subst hW
  exact ⟨(Bo.new w _ _).below (bel1 _ _), Bo.newAt _ (by simp) _ _, bel2 _ _ _⟩
theorem dbox3 (w : World) (s t : Bool) (A B : Option Addr) (n c m d : Nat) (e f : Int) {W : World} (hW : W = ((w.alloc (.cells #[.bool s, .slice A n c, .int .i64 e] 27)).alloc (.cells #[.bool t, .slice B m d, .int .i64 f] 27)).alloc (.cells #[.bool false, .slice none 0 0, .int .i64 0] 27)) :
    Bd W w.heap.size s A n c e ∧ Bd W (w.heap.size + 1) t B m d f ∧ Bd W (w.heap.size + 1 + 1) false none 0 0 0 ∧ Below w.heap.size w W := by
  subst hW
  exact ⟨((Bo.new w _ _).below (bel1 _ _)).below (bel1 _ _), (Bo.newAt _ (by simp) _ _).below (bel1 _ _), Bo.newAt _ (by simp) _ _, bel3 _ _ _ _⟩

set_option maxHeartbeats 2000000 in
theorem q3Neg {w : World} {A : Option Addr} {n c : Nat} {s : Bool} {z e N E : Int} (h : Wr w s A n c z) (hn : n ≤ 100000) (hN : (mk (-z) e).1 = N) (hE : (mk (-z) e).2 = E) : Calls Tryd.prog 27 #[.agg #[.bool s, .slice A n c, .int .i64 e]] w (D1 w n N E) := by
  have HN := Lib.hid hN
  have HE := Lib.hid hE
  clear hN hE
  go_enter Tryd.func27, Tryd.ntmps27
  go_wp2
  obtain ⟨X1, XR, B0⟩ := dbox2 w s A n c e rfl
  replace h := h.below B0
  have HB := Lib.hid B0
  clear B0
  go_region_held3 (fun w' => w'.cell? ⟨w.heap.size, 0, none⟩ = some (.bool s) ∧ w'.cell? ⟨w.heap.size, 1, none⟩ = some (.slice A n c) ∧ w'.cell? ⟨w.heap.size, 2, none⟩ = some (.int .i64 e)) (first | with_reducible exact ⟨X1.c0, X1.c1, X1.c2⟩ | with_reducible exact ⟨X1.drew.c0, X1.drew.c1, X1.drew.c2⟩ | with_reducible exact ⟨(X1.far3 (Nat.ne_of_lt (Nat.lt_succ_self _)) _ _ _).c0, (X1.far3 (Nat.ne_of_lt (Nat.lt_succ_self _)) _ _ _).c1, (X1.far3 (Nat.ne_of_lt (Nat.lt_succ_self _)) _ _ _).c2⟩)
    (first
      | (go_at_call 54; ((with_reducible refine (qNeg h.drew rfl).mono ?_); rintro ee w1 ⟨s1, A1, n1, c1, rfl, h1, k1, B1⟩; replace X1 := X1.drew.below B1; replace XR := XR.drew.below B1; replace HB := Lib.hid (bt HB.out.drew B1); clear B1))
      | (go_at_call 12; ((with_reducible refine (q3Make h1.wr (by omega) HN.out HE.out).mono ?_); rintro ee w2 ⟨s2, A2, n2, c2, rfl, h2, k2, B2⟩; replace X1 := X1.below B2; replace XR := XR.below B2; replace HB := Lib.hid (bt HB.out B2); clear B2; have r0 := XR.c0; have r1 := XR.c1; have r2 := XR.c2; have q0 := XR.frozen 0; have q1 := XR.frozen 1; have q2 := XR.frozen 2)))
  go_wp2
  exact bodyPost_ret (v := .agg #[.bool s2, .slice A2 n2 c2, .int .i64 E]) (by simp [results, Tryd.results27, go_sem, r0, r1, r2]) rfl ⟨s2, A2, n2, c2, rfl, h2.st3 XR _ _ _ _ _ (by simp [no32]), by omega, st3 HB.out (by omega) _ _ _⟩

theorem mk_bd (z e : Int) : -4194304 ≤ (mk z e).2 ∧ (mk z e).2 ≤ 4194304 := by
  unfold mk
  split
  · simp
  · rename_i h
    simp only
    omega
/-- A number moved by a power of two. -/
def mv (z e k : Int) : Int × Int := if 16777216 < k ∨ k < -16777216 then (0, 0) else mk (mk z e).1 ((mk z e).2 + k)

set_option maxHeartbeats 2000000 in
theorem q3Move {w : World} {A : Option Addr} {n c : Nat} {s : Bool} {z e k N E : Int} (h : Wr w s A n c z) (hn : n ≤ 100000) (hN : (mv z e k).1 = N) (hE : (mv z e k).2 = E) : Calls Tryd.prog 14 #[.agg #[.bool s, .slice A n c, .int .i64 e], .int .i64 k] w (D1 w n N E) := by
  have hb := mk_bd z e
  by_cases hc : 16777216 < k ∨ k < -16777216
  · have hm : mv z e k = (0, 0) := by unfold mv; rw [if_pos hc]
    rw [hm] at hN hE
    subst hN
    subst hE
    clear hm
    have hc2 : 16777216 < k ∨ (¬ 16777216 < k ∧ k < -16777216) := by omega
    clear hc
    rcases hc2 with t1 | ⟨t1, t2⟩
    all_goals
      go_enter Tryd.func14, Tryd.ntmps14
      go_wp2_with fail
      obtain ⟨X1, XR, B0⟩ := dbox2 w s A n c e rfl
      refine (q3Make (h.below B0) hn rfl rfl).mono ?_
      rintro ee w1 ⟨s1, A1, n1, c1, rfl, p1, k1, B1⟩
      replace XR := (XR.below B1).below (bel1 _ (.cells #[.bool s1, .slice A1 n1 c1, .int .i64 (mk z e).2] 27))
      have HB := Lib.hid (bt B0 (bt B1 (bel1 _ (.cells #[.bool s1, .slice A1 n1 c1, .int .i64 (mk z e).2] 27))))
      have r0 := XR.c0
      have r1 := XR.c1
      have r2 := XR.c2
      have q0 := XR.frozen 0
      have q1 := XR.frozen 1
      have q2 := XR.frozen 2
      clear B1 B0 X1
      go_wp2
      exact bodyPost_ret (v := .agg #[.bool false, .slice none 0 0, .int .i64 0]) (by simp [results, Tryd.results14, go_sem, r0, r1, r2]) rfl ⟨false, none, 0, 0, rfl, Wn.zero.st3 XR _ _ _ _ _ (by simp [no32]), Nat.zero_le _, st3 HB.out (by omega) _ _ _⟩
  · have hm : mv z e k = mk (mk z e).1 ((mk z e).2 + k) := by unfold mv; rw [if_neg hc]
    rw [hm] at hN hE
    have t1 : ¬ 16777216 < k := by omega
    have t2 : ¬ k < -16777216 := by omega
    clear hm hc
    revert hb hN hE
    generalize hN1 : (mk z e).1 = N1
    generalize hE1 : (mk z e).2 = E1
    intro hN hE hb
    have HN1 := Lib.hid hN1
    have HE1 := Lib.hid hE1
    have HN := Lib.hid hN
    have HE := Lib.hid hE
    clear hN1 hE1 hN hE
    obtain ⟨hb1, hb2⟩ := hb
    go_enter Tryd.func14, Tryd.ntmps14
    go_wp2_with fail
    obtain ⟨X1, XR, B0⟩ := dbox2 w s A n c e rfl
    refine (q3Make (h.below B0) hn HN1.out HE1.out).mono ?_
    rintro ee w1 ⟨s1, A1, n1, c1, rfl, p1, k1, B1⟩
    replace XR := (XR.below B1).below (bel1 _ (.cells #[.bool s1, .slice A1 n1 c1, .int .i64 E1] 27))
    have X5 := Bo.new w1 #[.bool s1, .slice A1 n1 c1, .int .i64 E1] 27
    have HB := Lib.hid (bt B0 (bt B1 (bel1 _ (.cells #[.bool s1, .slice A1 n1 c1, .int .i64 E1] 27))))
    replace p1 := p1.below (bel1 _ (.cells #[.bool s1, .slice A1 n1 c1, .int .i64 E1] 27))
    have x50 := X5.c0
    have x51 := X5.c1
    have x52 := X5.c2
    clear B1 B0 X1
    go_wp2_with fail
    refine (q3Make p1.wr (by omega) HN.out HE.out).mono ?_
    rintro ee w2 ⟨s2, A2, n2, c2, rfl, p2, k2, B2⟩
    clear x50 x51 x52
    replace XR := XR.below B2
    replace HB := Lib.hid (bt HB.out B2)
    have r0 := XR.c0
    have r1 := XR.c1
    have r2 := XR.c2
    have q0 := XR.frozen 0
    have q1 := XR.frozen 1
    have q2 := XR.frozen 2
    clear B2
    go_wp2
    exact bodyPost_ret (v := .agg #[.bool s2, .slice A2 n2 c2, .int .i64 E]) (by simp [results, Tryd.results14, go_sem, r0, r1, r2]) rfl ⟨s2, A2, n2, c2, rfl, p2.st3 XR _ _ _ _ _ (by simp [no32]), by omega, st3 HB.out (by omega) _ _ _⟩

set_option maxHeartbeats 4000000 in
theorem q3Mul {w : World} {A B : Option Addr} {n c m d : Nat} {s t : Bool} {z e y f N E : Int} (h : Wr w s A n c z) (k : Wr w t B m d y) (hn : n ≤ 50000) (hm : m ≤ 50000)
    (hN : (mk ((mk z e).1 * (mk y f).1) ((mk z e).2 + (mk y f).2)).1 = N) (hE : (mk ((mk z e).1 * (mk y f).1) ((mk z e).2 + (mk y f).2)).2 = E) :
    Calls Tryd.prog 25 #[.agg #[.bool s, .slice A n c, .int .i64 e], .agg #[.bool t, .slice B m d, .int .i64 f]] w (D1 w (n + m) N E) := by
  have hb := mk_bd z e
  have hd := mk_bd y f
  revert hb hd hN hE
  generalize hN1 : (mk z e).1 = N1
  generalize hE1 : (mk z e).2 = E1
  generalize hN2 : (mk y f).1 = N2
  generalize hE2 : (mk y f).2 = E2
  intro hN hE hb hd
  have HN1 := Lib.hid hN1
  have HE1 := Lib.hid hE1
  have HN2 := Lib.hid hN2
  have HE2 := Lib.hid hE2
  have HN := Lib.hid hN
  have HE := Lib.hid hE
  clear hN1 hE1 hN2 hE2 hN hE
  obtain ⟨hb1, hb2⟩ := hb
  obtain ⟨hd1, hd2⟩ := hd
  have hw : IntKind.i64.wrap (E1 + E2) = E1 + E2 := IntWalk.i64_in _ (by omega)
  have HW := Lib.hid hw
  clear hw
  go_enter Tryd.func25, Tryd.ntmps25
  go_wp2_with fail
  obtain ⟨X1, X2, XR, B0⟩ := dbox3 w s t A B n c m d e f rfl
  refine (q3Make (h.below B0) (by omega) HN1.out HE1.out).mono ?_
  rintro ee w1 ⟨s1, A1, n1, c1, rfl, p1, k1, B1⟩
  have g5 : w.heap.size + 1 + 1 < w1.heap.size := (XR.below B1).lt
  have X5 := Bo.new w1 #[.bool s1, .slice A1 n1 c1, .int .i64 E1] 27
  replace p1 := p1.below (bel1 _ (.cells #[.bool s1, .slice A1 n1 c1, .int .i64 E1] 27))
  replace B1 := bt B1 (bel1 _ (.cells #[.bool s1, .slice A1 n1 c1, .int .i64 E1] 27))
  replace XR := XR.below B1
  replace X2 := X2.below B1
  replace k := k.below (bt B0 B1)
  have HB := Lib.hid (bt B0 B1)
  have x20 := X2.c0
  have x21 := X2.c1
  have x22 := X2.c2
  clear B1 B0 X1
  go_wp2_with fail
  refine (q3Make k (by omega) HN2.out HE2.out).mono ?_
  rintro ee w2 ⟨s2, A2, n2, c2, rfl, p2, k2, B2⟩
  clear x20 x21 x22
  have g6 : w1.heap.size < w2.heap.size := (X5.below B2).lt
  have X6 := Bo.new w2 #[.bool s2, .slice A2 n2 c2, .int .i64 E2] 27
  replace p2 := p2.below (bel1 _ (.cells #[.bool s2, .slice A2 n2 c2, .int .i64 E2] 27))
  replace B2 := bt B2 (bel1 _ (.cells #[.bool s2, .slice A2 n2 c2, .int .i64 E2] 27))
  replace XR := XR.below B2
  replace X5 := X5.below B2
  replace p1 := p1.below B2
  replace HB := Lib.hid (bt HB.out B2)
  have d5 : w1.heap.size ≠ w.heap.size + 1 + 1 := by omega
  have d6 : w2.heap.size ≠ w.heap.size + 1 + 1 := by omega
  clear B2 X2
  have hw := HW.out
  go_wp2
  go_region_held3 (fun w' => w'.cell? ⟨w1.heap.size, 0, none⟩ = some (.bool s1) ∧ w'.cell? ⟨w1.heap.size, 1, none⟩ = some (.slice A1 n1 c1) ∧ w'.cell? ⟨w1.heap.size, 2, none⟩ = some (.int .i64 E1) ∧ w'.cell? ⟨w2.heap.size, 0, none⟩ = some (.bool s2) ∧ w'.cell? ⟨w2.heap.size, 1, none⟩ = some (.slice A2 n2 c2) ∧ w'.cell? ⟨w2.heap.size, 2, none⟩ = some (.int .i64 E2)) (first | with_reducible exact ⟨X5.c0, X5.c1, X5.c2, X6.c0, X6.c1, X6.c2⟩ | with_reducible exact ⟨X5.drew.c0, X5.drew.c1, X5.drew.c2, X6.drew.c0, X6.drew.c1, X6.drew.c2⟩ | with_reducible exact ⟨(X5.far3 d5 _ _ _).c0, (X5.far3 d5 _ _ _).c1, (X5.far3 d5 _ _ _).c2, (X6.far3 d6 _ _ _).c0, (X6.far3 d6 _ _ _).c1, (X6.far3 d6 _ _ _).c2⟩)
    (first
      | (go_at_call 52; ((with_reducible refine (qTwo p1.wr.drew p2.wr.drew (by clear hw; omega) (by clear hw; omega) rfl).mono ?_); rintro ee w3 ⟨s3, A3, n3, c3, rfl, p3, k3, B3⟩; replace X5 := X5.drew.below B3; replace X6 := X6.drew.below B3; replace XR := XR.drew.below B3; replace HB := Lib.hid (bt HB.out.drew B3); clear B3))
      | (go_at_call 12; ((with_reducible refine (q3Make p3.wr (by clear hw; omega) HN.out HE.out).mono ?_); rintro ee w4 ⟨s4, A4, n4, c4, rfl, p4, k4, B4⟩; replace X5 := X5.below B4; replace X6 := X6.below B4; replace XR := XR.below B4; replace HB := Lib.hid (bt HB.out B4); clear B4; have r0 := XR.c0; have r1 := XR.c1; have r2 := XR.c2; have q0 := XR.frozen 0; have q1 := XR.frozen 1; have q2 := XR.frozen 2)))
  clear hw
  go_wp2
  exact bodyPost_ret (v := .agg #[.bool s4, .slice A4 n4 c4, .int .i64 E]) (by simp [results, Tryd.results25, go_sem, r0, r1, r2]) rfl ⟨s4, A4, n4, c4, rfl, p4.st3 XR _ _ _ _ _ (by simp [no32]), by omega, st3 HB.out (by omega) _ _ _⟩
end Go.Proofs.YteoeoppkefcmdaaDoor

/-
  What whole.Div does, for numbers of at most 2^30 limbs.
-/
namespace Go.Proofs.YteoeoppkefcmdaaDoor
open Go.RowKit
set_option linter.unusedVariables false

theorem div_un {x y q r : Int} (hy : y ≠ 0) (h : r + y * q = x) (hp : 0 < y → 0 ≤ r ∧ r < y) (hn : y < 0 → y < r ∧ r ≤ 0) : q = x.fdiv y ∧ r = x.fmod y := by
  rcases Int.lt_or_gt_of_ne hy with h0 | h0
  · have := (Int.fdiv_fmod_unique' (q := q) (r := r) h0).2 ⟨h, hn h0⟩
    exact ⟨this.1.symm, this.2.symm⟩
  · have := (Int.fdiv_fmod_unique (q := q) (r := r) h0).2 ⟨h, hp h0⟩
    exact ⟨this.1.symm, this.2.symm⟩
theorem div_parts {a b : Nat} (hb : b ≠ 0) : (b : Int) * ((a / b : Nat) : Int) + ((a % b : Nat) : Int) = a ∧ a % b < b := by
  refine ⟨?_, Nat.mod_lt _ (by omega)⟩
  have := Nat.div_add_mod a b
  exact_mod_cast this
theorem div_same (s : Bool) {a b : Nat} (hb : b ≠ 0) : sg false (a / b) = (sg s a).fdiv (sg s b) ∧ sg s (a % b) = (sg s a).fmod (sg s b) := by
  obtain ⟨e, hl⟩ := div_parts (a := a) hb
  revert e hl
  generalize a / b = D
  generalize a % b = M
  intro e hl
  apply div_un <;> cases s <;> simp [sg, Int.neg_mul] <;> omega
theorem div_zero' (s t : Bool) (hst : (s == t) = false) {a b : Nat} (hb : b ≠ 0) (h2 : a % b = 0) : sg true (a / b) = (sg s a).fdiv (sg t b) ∧ sg t 0 = (sg s a).fmod (sg t b) := by
  obtain ⟨e, hl⟩ := div_parts (a := a) hb
  rw [h2] at e hl
  revert e hl
  generalize a / b = D
  intro e hl
  apply div_un <;> revert hst <;> cases s <;> cases t <;> simp [sg, Int.neg_mul, Int.mul_neg] <;> omega
theorem div_left (s t : Bool) (hst : (s == t) = false) {a b : Nat} (hb : b ≠ 0) (h2 : a % b ≠ 0) : sg true (a / b + 1) = (sg s a).fdiv (sg t b) ∧ sg t (b - a % b) = (sg s a).fmod (sg t b) := by
  obtain ⟨e, hl⟩ := div_parts (a := a) hb
  revert e hl h2
  generalize a / b = D
  generalize a % b = M
  intro e h2 hl
  have e1 : (b : Int) * ((D : Int) + 1) = b * D + b := by rw [Int.mul_add, Int.mul_one]
  have e2 : ((b - M : Nat) : Int) = b - M := by omega
  apply div_un <;> revert hst <;> cases s <;> cases t <;> simp [sg, e2, Int.neg_mul, Int.mul_neg, Int.mul_add] <;> omega

/-- A quotient and what is left, and true. -/
def W3 (w : World) (K : Nat) (q r : Int) (e : Ending) (w' : World) : Prop := ∃ s1 A1 n1 c1 s2 A2 n2 c2, e = .returned (.tuple #[.agg #[.bool s1, .slice A1 n1 c1], .agg #[.bool s2, .slice A2 n2 c2], .bool true]) ∧ Wn w' s1 A1 n1 c1 q ∧ Wn w' s2 A2 n2 c2 r ∧ n1 ≤ K ∧ n2 ≤ K ∧ Below w.heap.size w w'

end Go.Proofs.YteoeoppkefcmdaaDoor

/-
  What pelorusref02.Div does, for numbers of at most 2^28 limbs.
-/
namespace Go.Proofs.YteoeoppkefcmdaaDoor
open Go.RowKit
set_option linter.unusedVariables false

/-- The five boxes that Div begins with. -/
theorem box5 (w : World) (s t : Bool) (A B : Option Addr) (n c m d : Nat) {W : World} (hW : W = ((((w.alloc (.cells #[.bool s, .slice A n c] 24)).alloc (.cells #[.bool t, .slice B m d] 24)).alloc (.cells #[.bool false, .slice none 0 0] 24)).alloc (.cells #[.bool false, .slice none 0 0] 24)).alloc (.cells #[.bool false, .slice none 0 0] 24)) :
    Bx W w.heap.size s A n c ∧ Bx W (w.heap.size + 1) t B m d ∧ Bx W (w.heap.size + 1 + 1) false none 0 0 ∧ Bx W (w.heap.size + 1 + 1 + 1) false none 0 0 ∧ Bx W (w.heap.size + 1 + 1 + 1 + 1) false none 0 0 ∧ Below w.heap.size w W := by
  subst hW
  obtain ⟨h1, h2, h3, h4⟩ := box3 w s t A B n c m d rfl
  exact ⟨(h1.below (bel1 _ _)).below (bel1 _ _), (h2.below (bel1 _ _)).below (bel1 _ _), (h3.below (bel1 _ _)).below (bel1 _ _), (Bx.newAt _ (by simp) false none 0 0).below (bel1 _ _), Bx.newAt _ (by simp) false none 0 0, bt h4 (bel2 _ _ _)⟩

set_option maxHeartbeats 4000000 in
theorem qDiv_A {w : World} {A B : Option Addr} {n c m d a b : Nat} (s t : Bool) (h : Rd w A n c a) (k : Rd w B m d b) (hn : n ≤ 268435456) (hm : m ≤ 268435456) (h0 : b ≠ 0) {σ τ : Int}
    (HS : Hid (cmpI (sg t b) 0 = σ)) (HT : Hid (cmpI (sg s (a % b)) 0 = τ)) (hσ : (σ == 0) = false) (hb1 : -1 ≤ σ) (hb2 : σ ≤ 1) (hne : (τ == -σ) = false) :
    Calls Tryd.prog 60 #[.agg #[.bool s, .slice A n c], .agg #[.bool t, .slice B m d]] w (W3 w (n + m + 4) (sg (!(s == t)) (a / b)) (sg s (a % b))) := by
  go_enter Tryd.func60, Tryd.ntmps60
  go_wp2_with fail
  obtain ⟨X1, X2, X3, X4, X5, B0⟩ := box5 w s t A B n c m d rfl
  replace h := h.below B0
  replace k := k.below B0
  have HB := Lib.hid B0
  clear B0
  refine (qSign (k.wr t) HS.out).mono ?_
  rintro e w1 ⟨rfl, B1⟩
  replace h := h.below B1
  replace k := k.below B1
  replace X1 := X1.below B1
  replace X2 := X2.below B1
  replace X3 := X3.below B1
  replace X4 := X4.below B1
  replace X5 := X5.below B1
  replace HB := Lib.hid (bt HB.out B1)
  clear B1
  clear X5
  have x10 := X1.cell0
  have x11 := X1.cell1
  have x20 := X2.cell0
  have x21 := X2.cell1
  go_wp2_with fail
  refine (rDiv h k hn hm h0).mono ?_
  rintro e w2 ⟨A1, n1, c1, A2, n2, c2, rfl, h1, h2, k1, k2, B2⟩
  clear x10 x11 x20 x21
  replace k := k.below B2
  replace X1 := X1.below B2
  replace X2 := X2.below B2
  replace X3 := X3.below B2
  replace X4 := X4.below B2
  replace HB := Lib.hid (bt HB.out B2)
  clear B2 h
  have x10 := X1.cell0
  have x20 := X2.cell0
  go_wp2_with fail
  refine (qMake (!(s == t)) h1.rd).mono ?_
  rintro e w3 ⟨s3, A3, n3, c3, rfl, h3, k3, B3⟩
  clear x10 x20
  have g6 : w.heap.size + 1 + 1 + 1 < w3.heap.size := (X4.below B3).lt
  replace B3 := bt B3 (bel1 _ (.cells #[.bool s3, .slice A3 n3 c3] 24))
  replace k := k.below B3
  replace h2 := h2.below B3
  replace X1 := X1.below B3
  replace X2 := X2.below B3
  replace X3 := X3.below B3
  replace X4 := X4.below B3
  replace HB := Lib.hid (bt HB.out B3)
  replace h3 := h3.below (bel1 _ (.cells #[.bool s3, .slice A3 n3 c3] 24))
  have X6 := Bx.new w3 s3 A3 n3 c3
  clear B3 h1
  have x10 := X1.cell0
  go_wp2_with fail
  refine (qMake s h2.rd).mono ?_
  rintro e w4 ⟨s4, A4, n4, c4, rfl, h4, k4, B4⟩
  clear x10
  have g7 : w3.heap.size < w4.heap.size := (X6.below B4).lt
  replace B4 := bt B4 (bel1 _ (.cells #[.bool s4, .slice A4 n4 c4] 24))
  replace k := k.below B4
  replace h3 := h3.below B4
  replace X1 := X1.below B4
  replace X2 := X2.below B4
  replace X3 := X3.below B4
  replace X4 := X4.below B4
  replace X6 := X6.below B4
  replace HB := Lib.hid (bt HB.out B4)
  replace h4 := h4.below (bel1 _ (.cells #[.bool s4, .slice A4 n4 c4] 24))
  have X7 := Bx.new w4 s4 A4 n4 c4
  clear B4 h2
  have x70 := X7.cell0
  have x71 := X7.cell1
  go_wp2_with fail
  refine (qSign h4.wr HT.out).mono ?_
  rintro e w5 ⟨rfl, B5⟩
  clear x70 x71
  replace k := k.below B5
  replace h3 := h3.below B5
  replace h4 := h4.below B5
  replace X2 := X2.below B5
  replace X3 := X3.below B5
  replace X4 := X4.below B5
  replace X6 := X6.below B5
  replace X7 := X7.below B5
  replace HB := Lib.hid (bt HB.out B5)
  clear B5 X1
  clear X2
  have x30 := X3.cell0
  have x31 := X3.cell1
  have f30 := X3.frozen 0
  have f31 := X3.frozen 1
  have x40 := X4.cell0
  have x41 := X4.cell1
  have f40 := X4.frozen 0
  have f41 := X4.frozen 1
  have x60 := X6.cell0
  have x61 := X6.cell1
  have f60 := X6.frozen 0
  have f61 := X6.frozen 1
  have x70 := X7.cell0
  have x71 := X7.cell1
  have f70 := X7.frozen 0
  have f71 := X7.frozen 1
  have d63 : w3.heap.size ≠ w.heap.size + 1 + 1 := by omega
  have d64 : w3.heap.size ≠ w.heap.size + 1 + 1 + 1 := by omega
  have d73 : w4.heap.size ≠ w.heap.size + 1 + 1 := by omega
  have d74 : w4.heap.size ≠ w.heap.size + 1 + 1 + 1 := by omega
  go_wp2
  go_region_held3 (fun w' => w'.cell? ⟨w3.heap.size, 0, none⟩ = some (.bool s3) ∧ w'.cell? ⟨w3.heap.size, 1, none⟩ = some (.slice A3 n3 c3) ∧ w'.cell? ⟨w4.heap.size, 0, none⟩ = some (.bool s4) ∧ w'.cell? ⟨w4.heap.size, 1, none⟩ = some (.slice A4 n4 c4)) (first | with_reducible exact ⟨X6.cell0, X6.cell1, X7.cell0, X7.cell1⟩ | with_reducible exact ⟨X6.drew.cell0, X6.drew.cell1, X7.drew.cell0, X7.drew.cell1⟩ | with_reducible exact ⟨(X6.far d63 _ _).cell0, (X6.far d63 _ _).cell1, (X7.far d73 _ _).cell0, (X7.far d73 _ _).cell1⟩ | with_reducible exact ⟨(X6.far d63 _ _).drew.cell0, (X6.far d63 _ _).drew.cell1, (X7.far d73 _ _).drew.cell0, (X7.far d73 _ _).drew.cell1⟩ | with_reducible exact ⟨((X6.far d63 _ _).far d64 _ _).cell0, ((X6.far d63 _ _).far d64 _ _).cell1, ((X7.far d73 _ _).far d74 _ _).cell0, ((X7.far d73 _ _).far d74 _ _).cell1⟩ | with_reducible exact ⟨((X6.far d63 _ _).far d64 _ _).drew.cell0, ((X6.far d63 _ _).far d64 _ _).drew.cell1, ((X7.far d73 _ _).far d74 _ _).drew.cell0, ((X7.far d73 _ _).far d74 _ _).drew.cell1⟩) (fail)
  go_wp2
  exact bodyPost_ret (v := .tuple #[.agg #[.bool s3, .slice A3 n3 c3], .agg #[.bool s4, .slice A4 n4 c4], .bool true]) (by simp [results, Tryd.results60, go_sem, X3.cell0, X3.cell1, X4.cell0, X4.cell1]) rfl
    ⟨s3, A3, n3, c3, s4, A4, n4, c4, rfl, ((h3.st X3 _ _).st (X4.far (by omega) _ _) _ _).drew, ((h4.st X3 _ _).st (X4.far (by omega) _ _) _ _).drew, by omega, by omega, (st2 (st2 HB.out (by omega) _ _) (by omega) _ _).drew⟩

set_option maxHeartbeats 4000000 in
theorem qDiv_B {w : World} {A B : Option Addr} {n c m d a b : Nat} (s t : Bool) (h : Rd w A n c a) (k : Rd w B m d b) (hn : n ≤ 268435456) (hm : m ≤ 268435456) (h0 : b ≠ 0) {σ τ : Int}
    (HS : Hid (cmpI (sg t b) 0 = σ)) (HT : Hid (cmpI (sg s (a % b)) 0 = τ)) (hσ : (σ == 0) = false) (hb1 : -1 ≤ σ) (hb2 : σ ≤ 1) (hne : (τ == -σ) = true) :
    Calls Tryd.prog 60 #[.agg #[.bool s, .slice A n c], .agg #[.bool t, .slice B m d]] w (W3 w (n + m + 4) (sg (!(s == t)) (a / b) + -1) (sg s (a % b) + sg t b)) := by
  go_enter Tryd.func60, Tryd.ntmps60
  go_wp2_with fail
  obtain ⟨X1, X2, X3, X4, X5, B0⟩ := box5 w s t A B n c m d rfl
  replace h := h.below B0
  replace k := k.below B0
  have HB := Lib.hid B0
  clear B0
  refine (qSign (k.wr t) HS.out).mono ?_
  rintro e w1 ⟨rfl, B1⟩
  replace h := h.below B1
  replace k := k.below B1
  replace X1 := X1.below B1
  replace X2 := X2.below B1
  replace X3 := X3.below B1
  replace X4 := X4.below B1
  replace X5 := X5.below B1
  replace HB := Lib.hid (bt HB.out B1)
  clear B1
  clear X5
  have x10 := X1.cell0
  have x11 := X1.cell1
  have x20 := X2.cell0
  have x21 := X2.cell1
  go_wp2_with fail
  refine (rDiv h k hn hm h0).mono ?_
  rintro e w2 ⟨A1, n1, c1, A2, n2, c2, rfl, h1, h2, k1, k2, B2⟩
  clear x10 x11 x20 x21
  replace k := k.below B2
  replace X1 := X1.below B2
  replace X2 := X2.below B2
  replace X3 := X3.below B2
  replace X4 := X4.below B2
  replace HB := Lib.hid (bt HB.out B2)
  clear B2 h
  have x10 := X1.cell0
  have x20 := X2.cell0
  go_wp2_with fail
  refine (qMake (!(s == t)) h1.rd).mono ?_
  rintro e w3 ⟨s3, A3, n3, c3, rfl, h3, k3, B3⟩
  clear x10 x20
  have g6 : w.heap.size + 1 + 1 + 1 < w3.heap.size := (X4.below B3).lt
  replace B3 := bt B3 (bel1 _ (.cells #[.bool s3, .slice A3 n3 c3] 24))
  replace k := k.below B3
  replace h2 := h2.below B3
  replace X1 := X1.below B3
  replace X2 := X2.below B3
  replace X3 := X3.below B3
  replace X4 := X4.below B3
  replace HB := Lib.hid (bt HB.out B3)
  replace h3 := h3.below (bel1 _ (.cells #[.bool s3, .slice A3 n3 c3] 24))
  have X6 := Bx.new w3 s3 A3 n3 c3
  clear B3 h1
  have x10 := X1.cell0
  go_wp2_with fail
  refine (qMake s h2.rd).mono ?_
  rintro e w4 ⟨s4, A4, n4, c4, rfl, h4, k4, B4⟩
  clear x10
  have g7 : w3.heap.size < w4.heap.size := (X6.below B4).lt
  replace B4 := bt B4 (bel1 _ (.cells #[.bool s4, .slice A4 n4 c4] 24))
  replace k := k.below B4
  replace h3 := h3.below B4
  replace X1 := X1.below B4
  replace X2 := X2.below B4
  replace X3 := X3.below B4
  replace X4 := X4.below B4
  replace X6 := X6.below B4
  replace HB := Lib.hid (bt HB.out B4)
  replace h4 := h4.below (bel1 _ (.cells #[.bool s4, .slice A4 n4 c4] 24))
  have X7 := Bx.new w4 s4 A4 n4 c4
  clear B4 h2
  have x70 := X7.cell0
  have x71 := X7.cell1
  go_wp2_with fail
  refine (qSign h4.wr HT.out).mono ?_
  rintro e w5 ⟨rfl, B5⟩
  clear x70 x71
  replace k := k.below B5
  replace h3 := h3.below B5
  replace h4 := h4.below B5
  replace X2 := X2.below B5
  replace X3 := X3.below B5
  replace X4 := X4.below B5
  replace X6 := X6.below B5
  replace X7 := X7.below B5
  replace HB := Lib.hid (bt HB.out B5)
  clear B5 X1
  have x60 := X6.cell0
  have x61 := X6.cell1
  have f60 := X6.frozen 0
  have f61 := X6.frozen 1
  go_wp2
  go_region_with (first
    | (go_at_call 78; ((with_reducible refine (qFrom (-1) _ (by omega) (by omega)).mono ?_); rintro e w6 ⟨s6, A6, n6, c6, rfl, h6, k6, B6⟩; clear x60 x61 f60 f61; replace k := k.drew.below B6; replace h3 := h3.drew.below B6; replace h4 := h4.drew.below B6; replace X2 := X2.drew.below B6; replace X3 := X3.drew.below B6; replace X4 := X4.drew.below B6; replace X6 := X6.drew.below B6; replace X7 := X7.drew.below B6; replace HB := Lib.hid (bt HB.out.drew B6); have x60 := X6.cell0; have x61 := X6.cell1; have f60 := X6.frozen 0; have f61 := X6.frozen 1))
    | (go_at_call 71; ((with_reducible refine (qAdd h3.wr h6.wr (by omega) (by omega) rfl).mono ?_); rintro e w7 ⟨s8, A8, n8, c8, rfl, h8, k8, B7⟩; clear x60 x61 f60 f61; replace k := k.below B7; replace h4 := h4.below B7; replace X2 := X2.below B7; replace X3 := X3.below B7; replace X4 := X4.below B7; replace X6 := X6.below B7; replace X7 := X7.below B7; replace HB := Lib.hid (bt HB.out B7); have x60 := X6.cell0; have x61 := X6.cell1; have f60 := X6.frozen 0; have f61 := X6.frozen 1)))
  all_goals
    have X8 : Bx ((w7.setCell ⟨w3.heap.size, 0, none⟩ (.bool s8)).setCell ⟨w3.heap.size, 1, none⟩ (.slice A8 n8 c8)) w3.heap.size s8 A8 n8 c8 := X6.set _ _ _ _
    have e1 : w.heap.size + 1 ≠ w3.heap.size := by omega
    have e2 : w.heap.size + 1 + 1 ≠ w3.heap.size := by omega
    have e3 : w.heap.size + 1 + 1 + 1 ≠ w3.heap.size := by omega
    have e4 : w4.heap.size ≠ w3.heap.size := by omega
    replace X2 := X2.far e1 (.bool s8) (.slice A8 n8 c8)
    replace X3 := X3.far e2 (.bool s8) (.slice A8 n8 c8)
    replace X4 := X4.far e3 (.bool s8) (.slice A8 n8 c8)
    replace X7 := X7.far e4 (.bool s8) (.slice A8 n8 c8)
    replace h8 := h8.st X6 (.bool s8) (.slice A8 n8 c8)
    replace h4 := h4.st X6 (.bool s8) (.slice A8 n8 c8)
    replace k := k.st X6 (.bool s8) (.slice A8 n8 c8)
    replace HB := Lib.hid (st2 (o1 := 0) (o2 := 1) HB.out (show w.heap.size ≤ w3.heap.size by omega) (.bool s8) (.slice A8 n8 c8))
    clear x60 x61 f60 f61 X6 h3 h6
    revert X2 X3 X4 X7 X8 h8 h4 k HB
    generalize (w7.setCell ⟨w3.heap.size, 0, none⟩ (.bool s8)).setCell ⟨w3.heap.size, 1, none⟩ (.slice A8 n8 c8) = w8
    intro X6 X2 X3 X4 X7 h3 h4 k HB
    have x20 := X2.cell0
    have x21 := X2.cell1
    have f20 := X2.frozen 0
    have f21 := X2.frozen 1
    have x70 := X7.cell0
    have x71 := X7.cell1
    have f70 := X7.frozen 0
    have f71 := X7.frozen 1
    go_wp2_with (first
      | (go_at_call 71; ((with_reducible refine (qAdd h4.wr (k.wr t) (by omega) (by omega) rfl).mono ?_); rintro e w9 ⟨s9, A9, n9, c9, rfl, h9, k9, B9⟩; clear x20 x21 f20 f21 x70 x71 f70 f71; replace h3 := h3.below B9; replace X3 := X3.below B9; replace X4 := X4.below B9; replace X6 := X6.below B9; replace X7 := X7.below B9; replace HB := Lib.hid (bt HB.out B9); have x70 := X7.cell0; have x71 := X7.cell1; have f70 := X7.frozen 0; have f71 := X7.frozen 1; clear B9)))
    clear x70 x71 f70 f71 h4 k X2
    have X8 : Bx ((w9.setCell ⟨w4.heap.size, 0, none⟩ (.bool s9)).setCell ⟨w4.heap.size, 1, none⟩ (.slice A9 n9 c9)) w4.heap.size s9 A9 n9 c9 := X7.set _ _ _ _
    have e5 : w.heap.size + 1 + 1 ≠ w4.heap.size := by omega
    have e6 : w.heap.size + 1 + 1 + 1 ≠ w4.heap.size := by omega
    have e7 : w3.heap.size ≠ w4.heap.size := by omega
    replace X3 := X3.far e5 (.bool s9) (.slice A9 n9 c9)
    replace X4 := X4.far e6 (.bool s9) (.slice A9 n9 c9)
    replace X6 := X6.far e7 (.bool s9) (.slice A9 n9 c9)
    replace h3 := h3.st X7 (.bool s9) (.slice A9 n9 c9)
    replace h9 := h9.st X7 (.bool s9) (.slice A9 n9 c9)
    replace HB := Lib.hid (st2 (o1 := 0) (o2 := 1) HB.out (show w.heap.size ≤ w4.heap.size by omega) (.bool s9) (.slice A9 n9 c9))
    clear X7
    revert X8 X3 X4 X6 h3 h9 HB
    generalize (w9.setCell ⟨w4.heap.size, 0, none⟩ (.bool s9)).setCell ⟨w4.heap.size, 1, none⟩ (.slice A9 n9 c9) = w10
    intro X7 X3 X4 X6 h3 h4 HB
    have x30 := X3.cell0
    have x31 := X3.cell1
    have f30 := X3.frozen 0
    have f31 := X3.frozen 1
    have x40 := X4.cell0
    have x41 := X4.cell1
    have f40 := X4.frozen 0
    have f41 := X4.frozen 1
    have x60 := X6.cell0
    have x61 := X6.cell1
    have f60 := X6.frozen 0
    have f61 := X6.frozen 1
    have x70 := X7.cell0
    have x71 := X7.cell1
    have f70 := X7.frozen 0
    have f71 := X7.frozen 1
    have d63 : w3.heap.size ≠ w.heap.size + 1 + 1 := by omega
    have d64 : w3.heap.size ≠ w.heap.size + 1 + 1 + 1 := by omega
    have d73 : w4.heap.size ≠ w.heap.size + 1 + 1 := by omega
    have d74 : w4.heap.size ≠ w.heap.size + 1 + 1 + 1 := by omega
    go_region_held3 (fun w' => w'.cell? ⟨w3.heap.size, 0, none⟩ = some (.bool s8) ∧ w'.cell? ⟨w3.heap.size, 1, none⟩ = some (.slice A8 n8 c8) ∧ w'.cell? ⟨w4.heap.size, 0, none⟩ = some (.bool s9) ∧ w'.cell? ⟨w4.heap.size, 1, none⟩ = some (.slice A9 n9 c9)) (first | with_reducible exact ⟨X6.cell0, X6.cell1, X7.cell0, X7.cell1⟩ | with_reducible exact ⟨X6.drew.cell0, X6.drew.cell1, X7.drew.cell0, X7.drew.cell1⟩ | with_reducible exact ⟨(X6.far d63 _ _).cell0, (X6.far d63 _ _).cell1, (X7.far d73 _ _).cell0, (X7.far d73 _ _).cell1⟩ | with_reducible exact ⟨(X6.far d63 _ _).drew.cell0, (X6.far d63 _ _).drew.cell1, (X7.far d73 _ _).drew.cell0, (X7.far d73 _ _).drew.cell1⟩ | with_reducible exact ⟨((X6.far d63 _ _).far d64 _ _).cell0, ((X6.far d63 _ _).far d64 _ _).cell1, ((X7.far d73 _ _).far d74 _ _).cell0, ((X7.far d73 _ _).far d74 _ _).cell1⟩ | with_reducible exact ⟨((X6.far d63 _ _).far d64 _ _).drew.cell0, ((X6.far d63 _ _).far d64 _ _).drew.cell1, ((X7.far d73 _ _).far d74 _ _).drew.cell0, ((X7.far d73 _ _).far d74 _ _).drew.cell1⟩) (fail)
    go_wp2
    exact bodyPost_ret (v := .tuple #[.agg #[.bool s8, .slice A8 n8 c8], .agg #[.bool s9, .slice A9 n9 c9], .bool true]) (by simp [results, Tryd.results60, go_sem, X3.cell0, X3.cell1, X4.cell0, X4.cell1]) rfl
      ⟨s8, A8, n8, c8, s9, A9, n9, c9, rfl, ((h3.st X3 _ _).st (X4.far (by omega) _ _) _ _).drew, ((h4.st X3 _ _).st (X4.far (by omega) _ _) _ _).drew, by omega, by omega, (st2 (st2 HB.out (by omega) _ _) (by omega) _ _).drew⟩

theorem qDiv {w : World} {A B : Option Addr} {n c m d : Nat} {s t : Bool} {x y q r : Int} (h : Wr w s A n c x) (k : Wr w t B m d y) (hn : n ≤ 268435456) (hm : m ≤ 268435456) (h0 : y ≠ 0) (hq : x.fdiv y = q) (hr : x.fmod y = r) :
    Calls Tryd.prog 60 #[.agg #[.bool s, .slice A n c], .agg #[.bool t, .slice B m d]] w (W3 w (n + m + 4) q r) := by
  obtain ⟨a, h, rfl⟩ := h
  obtain ⟨b, k, rfl⟩ := k
  have hb : b ≠ 0 := by rintro rfl; exact h0 (sg_zero _)
  have bσ := cmpI_bd (sg t b) 0
  have hσ : (cmpI (sg t b) 0 == 0) = false := by
    have : cmpI (sg t b) 0 ≠ 0 := fun e => h0 (cmpI_zero.1 e)
    simpa using this
  subst hq; subst hr
  by_cases hs : s = t
  · subst hs
    rw [← (div_same s hb).1, ← (div_same s hb).2]
    have := qDiv_A s s h k hn hm hb (Lib.hid rfl) (Lib.hid rfl) hσ bσ.1 bσ.2 (by
      rcases sg_cases s b with ⟨e, _⟩ | ⟨_, rfl, e⟩ | ⟨_, rfl, e⟩
      · exact absurd e hb
      · rw [e]; rcases sg_cases true (a % b) with ⟨_, e'⟩ | ⟨_, _, e'⟩ | ⟨_, e2, _⟩
        · rw [e']; rfl
        · rw [e']; rfl
        · cases e2
      · rw [e]; rcases sg_cases false (a % b) with ⟨_, e'⟩ | ⟨_, e2, _⟩ | ⟨_, _, e'⟩
        · rw [e']; rfl
        · cases e2
        · rw [e']; rfl)
    simpa using this
  · have hst : (s == t) = false := by simpa using hs
    by_cases h2 : a % b = 0
    · rw [← (div_zero' s t hst hb h2).1, ← (div_zero' s t hst hb h2).2]
      have := qDiv_A s t h k hn hm hb (Lib.hid rfl) (Lib.hid rfl) hσ bσ.1 bσ.2 (by
        rw [h2, sg_zero, cmpI_eq rfl]
        have : cmpI (sg t b) 0 ≠ 0 := fun e => h0 (cmpI_zero.1 e)
        simp; omega)
      rw [hst, h2, sg_zero] at this
      rw [sg_zero]
      exact this
    · rw [← (div_left s t hst hb h2).1, ← (div_left s t hst hb h2).2]
      have := qDiv_B s t h k hn hm hb (Lib.hid rfl) (Lib.hid rfl) hσ bσ.1 bσ.2 (by
        rcases sg_cases t b with ⟨e, _⟩ | ⟨_, rfl, e⟩ | ⟨_, rfl, e⟩
        · exact absurd e hb
        · obtain rfl : s = false := by cases s <;> simp_all
          rcases sg_cases false (a % b) with ⟨e2, _⟩ | ⟨_, e2, _⟩ | ⟨_, _, e'⟩
          · exact absurd e2 h2
          · cases e2
          · rw [e, e']; rfl
        · obtain rfl : s = true := by cases s <;> simp_all
          rcases sg_cases true (a % b) with ⟨e2, _⟩ | ⟨_, _, e'⟩ | ⟨_, e2, _⟩
          · exact absurd e2 h2
          · rw [e, e']; rfl
          · cases e2)
      rw [hst] at this
      have e1 : sg (!false) (a / b) + -1 = sg true (a / b + 1) := by simp [sg]; omega
      have e2 : sg s (a % b) + sg t b = sg t (b - a % b) := by
        have := Nat.mod_lt a (Nat.pos_of_ne_zero hb)
        revert hst
        cases s <;> cases t <;> simp [sg] <;> omega
      rw [e1, e2] at this
      exact this

set_option maxHeartbeats 2000000 in
theorem qDiv0 {w : World} {A B : Option Addr} {n c m d : Nat} {s t : Bool} {x : Int} (h : Wr w s A n c x) (k : Wr w t B m d 0) :
    Calls Tryd.prog 60 #[.agg #[.bool s, .slice A n c], .agg #[.bool t, .slice B m d]] w fun e w' => e = .returned (.tuple #[.agg #[.bool false, .slice none 0 0], .agg #[.bool false, .slice none 0 0], .bool false]) ∧ Below w.heap.size w w' := by
  go_enter Tryd.func60, Tryd.ntmps60
  go_wp2_with fail
  obtain ⟨X1, X2, X3, X4, X5, B0⟩ := box5 w s t A B n c m d rfl
  replace k := k.below B0
  have HB := Lib.hid B0
  clear B0
  refine (qSign k (cmpI_eq rfl)).mono ?_
  rintro e w1 ⟨rfl, B1⟩
  replace X3 := X3.below B1
  replace X4 := X4.below B1
  replace X5 := X5.below B1
  replace HB := Lib.hid (bt HB.out B1)
  clear B1 X1 X2 h k
  have x30 := X3.cell0
  have x31 := X3.cell1
  have f30 := X3.frozen 0
  have f31 := X3.frozen 1
  have x40 := X4.cell0
  have x41 := X4.cell1
  have f40 := X4.frozen 0
  have f41 := X4.frozen 1
  have x50 := X5.cell0
  have x51 := X5.cell1
  have f50 := X5.frozen 0
  have f51 := X5.frozen 1
  have d63 : w.heap.size + 1 + 1 + 1 + 1 ≠ w.heap.size + 1 + 1 := by omega
  have d64 : w.heap.size + 1 + 1 + 1 + 1 ≠ w.heap.size + 1 + 1 + 1 := by omega
  go_wp2
  go_region_held3 (fun w' => w'.cell? ⟨w.heap.size + 1 + 1 + 1 + 1, 0, none⟩ = some (.bool false) ∧ w'.cell? ⟨w.heap.size + 1 + 1 + 1 + 1, 1, none⟩ = some (.slice none 0 0)) (first | with_reducible exact ⟨X5.cell0, X5.cell1⟩ | with_reducible exact ⟨X5.drew.cell0, X5.drew.cell1⟩ | with_reducible exact ⟨(X5.far d63 _ _).cell0, (X5.far d63 _ _).cell1⟩ | with_reducible exact ⟨(X5.far d63 _ _).drew.cell0, (X5.far d63 _ _).drew.cell1⟩ | with_reducible exact ⟨((X5.far d63 _ _).far d64 _ _).cell0, ((X5.far d63 _ _).far d64 _ _).cell1⟩ | with_reducible exact ⟨((X5.far d63 _ _).far d64 _ _).drew.cell0, ((X5.far d63 _ _).far d64 _ _).drew.cell1⟩) (fail)
  go_wp2
  exact bodyPost_ret (v := .tuple #[.agg #[.bool false, .slice none 0 0], .agg #[.bool false, .slice none 0 0], .bool false]) (by simp [results, Tryd.results60, go_sem, X3.cell0, X3.cell1, X4.cell0, X4.cell1]) rfl
    ⟨rfl, (st2 (st2 HB.out (by omega) _ _) (by omega) _ _).drew⟩
end Go.Proofs.YteoeoppkefcmdaaDoor

/-
  The document's answers of layer 1: what Shl does, said of numbers.
-/
namespace Go.Proofs.YteoeoppkefcmdaaDoor
open Go.RowKit
set_option linter.unusedVariables false

theorem Own.ar {w : World} {g base : Nat} {l : List Nat} (h : Own w g l) (hl : Lim l) (hb : base ≤ g) (hn : l.length ≤ 1099511627776) : Ar w base (some ⟨g, 0, none⟩) l.length l.length l :=
  ⟨⟨by simp, Or.inr ⟨g, l.length, arr l, rfl, hb, h, Nat.le_refl _, by unfold maxLen; omega, by simp [arr], by show (l.map u32).take (l.length * 1) = _; rw [Nat.mul_one, List.take_of_length_le (by simp)]⟩⟩, hl⟩

theorem rShl_low {w : World} {A1 : Option Addr} {n c1 a : Nat} (z : Int) (h1 : Rd w A1 n c1 a) (hz : z < 1) : Calls Tryd.prog 59 #[.slice A1 n c1, .int .i64 z] w (P1 w n a) := by
  have HT := Lib.hid (rTrim h1)
  clear h1
  go_enter Tryd.func59, Tryd.ntmps59
  go_wp2_with (go_at_call 69; ((with_reducible refine HT.out.mono ?_); rintro e w6 ⟨A6, n6, c6, rfl, s6, k6, B⟩))
  go_ret
  exact ⟨A6, n6, c6, rfl, s6, k6, B⟩
theorem rShl_big {w : World} {A1 : Option Addr} {n c1 : Nat} (z : Int) (hz : 16777216 < z) : Calls Tryd.prog 59 #[.slice A1 n c1, .int .i64 z] w fun e w' => e = .returned (.slice none 0 0) ∧ Below w.heap.size w w' := by
  go_enter Tryd.func59, Tryd.ntmps59
  go_wp2
  go_ret
  exact ⟨rfl, Below.refl _ _⟩

theorem lit_pow (W : World) (s o : Nat) (ho : 2 ^ s = o) (hs : s < 32) : Rd (W.alloc (.cells #[.int .u32 (o : Int)] 51)) (some ⟨W.heap.size, 0, none⟩) 1 1 (2 ^ s) := by
  have hb : o < 4294967296 := by rw [← ho]; exact Nat.pow_lt_pow_right (n := 32) (by decide) hs
  exact ⟨_, _, lit1 W o hb, by rw [ho]; simp [val]⟩

set_option maxHeartbeats 1000000 in
theorem rShl {w : World} {A1 : Option Addr} {n c1 a : Nat} (z : Nat) (h1 : Rd w A1 n c1 a) (hn : n ≤ 134217728) (hz1 : 1 ≤ z) (hz : z ≤ 16777216) : Calls Tryd.prog 59 #[.slice A1 n c1, .int .i64 (z : Int)] w (P1 w (n + z / 32 + 1) (a * 2 ^ z)) := by
  obtain ⟨b1, xs, h1, rfl⟩ := h1
  have hq : (z : Int) / 32 = ((z / 32 : Nat) : Int) := by omega
  have hs : (z : Int) % 32 = ((z % 32 : Nat) : Int) := by omega
  have HP : Hid (2 ^ z = 4294967296 ^ (z / 32) * 2 ^ (z % 32)) := by show _ = _; rw [← pow_split, show 32 * (z / 32) + z % 32 = z by omega]
  have hs32 : z % 32 < 32 := Nat.mod_lt _ (by decide)
  have hqb : z / 32 ≤ 524288 := by omega
  revert hq hs HP hs32 hqb
  generalize z / 32 = q
  generalize z % 32 = s
  intro hq hs HP hs32 hqb
  obtain ⟨o, ho⟩ : ∃ o, 2 ^ s = o := ⟨_, rfl⟩
  have eo : (2 : Int) ^ s = (o : Int) := by rw [← ho]; simp
  have bo : o < 4294967296 := by rw [← ho]; exact Nat.pow_lt_pow_right (n := 32) (by decide) hs32
  have HO := Lib.hid ho
  clear ho
  have hmk := fun W => run_make32' q (q : Int) rfl (by omega) W
  have ar1 := (Own.new w (List.replicate q 0)).ar (base := w.heap.size) (Lim.replicate q) (Nat.le_refl _) (by simp; omega)
  rw [List.length_replicate] at ar1
  have s1 := h1.below (alloc_below w (.cells (arr (List.replicate q 0)) 51))
  go_enter Tryd.func59, Tryd.ntmps59
  go_wp2_with (with_reducible refine wpList_app rfl (.tmp 16) (.tmp 17) 22 rfl Tryd.underlying22 rfl rfl ar1 s1 (by omega) (alloc_below w _).size ?_; intro A2 c2 w2 ha2 hb2)
  obtain ⟨g2, s2⟩ := ha2.slice (by omega)
  have hbl := (alloc_below w (.cells (arr (List.replicate q 0)) 51)).trans hb2
  have hal := alloc_below w2 (.cells #[.int .u32 (o : Int)] 51)
  have r2 : Rd (w2.alloc (.cells #[.int .u32 (o : Int)] 51)) A2 (q + n) c2 (4294967296 ^ q * val xs) := ⟨g2, _, s2.below hal, by rw [val_append, val_zeros, List.length_replicate, Nat.zero_add]⟩
  have HM := Lib.hid (rMul r2 (lit_pow w2 s o HO.out hs32) (by omega) (by omega) (show 4294967296 ^ q * val xs * 2 ^ s = val xs * 2 ^ z by rw [HP.out]; grind))
  have HB := Lib.hid (hbl.trans (hal.mono hbl.size))
  clear ha2 hb2 s2 hbl hal r2 hmk ar1 s1
  go_wp2_with (go_at_call 74; ((with_reducible refine HM.out.mono ?_); rintro e w6 ⟨A6, n6, c6, rfl, s6, k6, B⟩))
  go_ret
  exact ⟨A6, n6, c6, rfl, s6, by omega, HB.out.trans (B.mono HB.out.size)⟩
end Go.Proofs.YteoeoppkefcmdaaDoor

/-
  What pelorusref03.Floor does.
-/
namespace Go.Proofs.YteoeoppkefcmdaaDoor
open Go.RowKit
set_option linter.unusedVariables false

/-- The greatest whole number that is not above N times 2 to the power E. -/
def flr (N E : Int) : Int := if 0 ≤ E then N * ((2 ^ E.toNat : Nat) : Int) else N.fdiv ((2 ^ (-E).toNat : Nat) : Int)
theorem rShlN {w : World} {A1 : Option Addr} {n c1 a r : Nat} {z : Int} (h1 : Rd w A1 n c1 a) (hn : n ≤ 134217728) (hz0 : 0 ≤ z) (hz : z ≤ 16777216) (hr : a * 2 ^ z.toNat = r) : Calls Tryd.prog 59 #[.slice A1 n c1, .int .i64 z] w (P1 w (n + z.toNat / 32 + 1) r) := by
  subst hr
  obtain ⟨k, rfl⟩ := Int.eq_ofNat_of_zero_le hz0
  rcases Nat.eq_zero_or_pos k with e | e
  · subst e
    refine (rShl_low _ h1 (by omega)).mono ?_
    rintro ee w' ⟨A, m, c, rfl, hm, hk, hb⟩
    exact ⟨A, m, c, rfl, by simpa using hm, by omega, hb⟩
  · have := rShl k h1 hn (by omega) (by omega)
    simpa using this
theorem sg_scale (s : Bool) (N : Int) (p : Nat) (h : sg s N.natAbs = N) : sg s (N.natAbs * p) = N * (p : Int) := by
  have : sg s (N.natAbs * p) = sg s N.natAbs * (p : Int) := by cases s <;> simp [sg, Int.neg_mul]
  rw [this, h]

set_option maxHeartbeats 4000000 in
theorem q3Floor {w : World} {A : Option Addr} {n c : Nat} {s : Bool} {z e r : Int} (h : Wr w s A n c z) (hn : n ≤ 100000) (hr : flr (mk z e).1 (mk z e).2 = r) : Calls Tryd.prog 30 #[.agg #[.bool s, .slice A n c, .int .i64 e]] w (W1 w (n + 131100) r) := by
  have hb := mk_bd z e
  revert hr hb
  generalize hN1 : (mk z e).1 = N1
  generalize hE1 : (mk z e).2 = E1
  intro hr hb
  have HN1 := Lib.hid hN1
  have HE1 := Lib.hid hE1
  clear hN1 hE1
  obtain ⟨hb1, hb2⟩ := hb
  by_cases hE : 0 ≤ E1
  · have HR : Hid (N1 * ((2 ^ E1.toNat : Nat) : Int) = r) := Lib.hid (by rw [← hr]; unfold flr; rw [if_pos hE])
    clear hr
    have hk : E1.toNat / 32 ≤ 131072 := by omega
    go_enter Tryd.func30, Tryd.ntmps30
    go_wp2_with fail
    refine (q3Make (h.below (bel2 _ _ _)) hn HN1.out HE1.out).mono ?_
    rintro ee w1 ⟨s1, A1, n1, c1, rfl, p1, k1, B1⟩
    have XR : Bx w1 (w.heap.size + 1) false none 0 0 := (Bx.newAt _ (by simp) false none 0 0).below B1
    have g5 := XR.lt
    have X5 := Bo.new w1 #[.bool s1, .slice A1 n1 c1, .int .i64 E1] 27
    replace p1 := p1.below (bel1 _ (.cells #[.bool s1, .slice A1 n1 c1, .int .i64 E1] 27))
    replace B1 := bt B1 (bel1 _ (.cells #[.bool s1, .slice A1 n1 c1, .int .i64 E1] 27))
    replace XR := XR.below (bel1 _ (.cells #[.bool s1, .slice A1 n1 c1, .int .i64 E1] 27))
    have HB := Lib.hid (bt (bel2 _ _ _) B1)
    have d5 : w1.heap.size ≠ w.heap.size + 1 := by omega
    have HS := Lib.hid (sg_scale s1 N1 (2 ^ E1.toNat) p1.wr.eq)
    have hrd := p1.wr.rd
    have x50 := X5.c0
    have x51 := X5.c1
    have x52 := X5.c2
    clear B1
    go_wp2
    go_region_held3 (fun w' => w'.cell? ⟨w1.heap.size, 0, none⟩ = some (.bool s1) ∧ w'.cell? ⟨w1.heap.size, 1, none⟩ = some (.slice A1 n1 c1) ∧ w'.cell? ⟨w1.heap.size, 2, none⟩ = some (.int .i64 E1)) (first | with_reducible exact ⟨X5.c0, X5.c1, X5.c2⟩ | with_reducible exact ⟨X5.drew.c0, X5.drew.c1, X5.drew.c2⟩ | with_reducible exact ⟨((X5.far d5 0 _).far d5 1 _).c0, ((X5.far d5 0 _).far d5 1 _).c1, ((X5.far d5 0 _).far d5 1 _).c2⟩)
      (first
        | (go_at_call 59; ((with_reducible refine (rShlN hrd.drew (by omega) hE (by omega) rfl).mono ?_); rintro ee w3 ⟨A3, n3, c3, rfl, p3, k3, B3⟩; clear x50 x51 x52; replace X5 := X5.drew.below B3; replace XR := XR.drew.below B3; replace HB := Lib.hid (bt HB.out.drew B3); clear B3))
        | (go_at_call 42; ((with_reducible refine (qMake _ p3.rd).mono ?_); rintro ee w4 ⟨s4, A4, n4, c4, rfl, p4, k4, B4⟩; replace X5 := X5.below B4; replace XR := XR.below B4; replace HB := Lib.hid (bt HB.out B4); clear B4; have r0 := XR.cell0; have r1 := XR.cell1; have q0 := XR.frozen 0; have q1 := XR.frozen 1)))
    go_wp2
    exact bodyPost_ret (v := .agg #[.bool s4, .slice A4 n4 c4]) (by simp [results, Tryd.results30, go_sem, r0, r1]) rfl ⟨s4, A4, n4, c4, rfl, by
      have e6 := HS.out.trans HR.out
      rw [← e6]
      exact p4.st XR _ _, by omega, st2 HB.out (by omega) _ _⟩
  · have HR : Hid (N1.fdiv ((2 ^ (-E1).toNat : Nat) : Int) = r) := Lib.hid (by rw [← hr]; unfold flr; rw [if_neg hE])
    clear hr
    have hk : (-E1).toNat / 32 ≤ 131072 := by omega
    have hE2 : E1 < 0 := by omega
    have hE3 : 0 ≤ -E1 := by omega
    have hE4 : -E1 ≤ 4194304 := by omega
    have hp : ((2 ^ (-E1).toNat : Nat) : Int) ≠ 0 := by
      have : 0 < 2 ^ (-E1).toNat := Nat.pow_pos (by decide)
      omega
    have HP := Lib.hid hp
    clear hp
    go_enter Tryd.func30, Tryd.ntmps30
    go_wp2_with fail
    refine (q3Make (h.below (bel2 _ _ _)) hn HN1.out HE1.out).mono ?_
    rintro ee w1 ⟨s1, A1, n1, c1, rfl, p1, k1, B1⟩
    have XR : Bx w1 (w.heap.size + 1) false none 0 0 := (Bx.newAt _ (by simp) false none 0 0).below B1
    have g5 := XR.lt
    have X5 := (Bo.new w1 #[.bool s1, .slice A1 n1 c1, .int .i64 E1] 27).below (bel1 _ (.cells #[.int .u32 1] 51))
    replace B1 := bt B1 (bel2 _ (.cells #[.bool s1, .slice A1 n1 c1, .int .i64 E1] 27) (.cells #[.int .u32 1] 51))
    replace p1 := p1.below (bel2 _ (.cells #[.bool s1, .slice A1 n1 c1, .int .i64 E1] 27) (.cells #[.int .u32 1] 51))
    replace XR := XR.below (bel2 _ (.cells #[.bool s1, .slice A1 n1 c1, .int .i64 E1] 27) (.cells #[.int .u32 1] 51))
    have HB := Lib.hid (bt (bel2 _ _ _) B1)
    have x50 := X5.c0
    have x51 := X5.c1
    have x52 := X5.c2
    clear B1
    go_wp2_with fail
    have h1 : Rd ((w1.alloc (.cells #[.bool s1, .slice A1 n1 c1, .int .i64 E1] 27)).alloc (.cells #[.int .u32 1] 51)) (some ⟨w1.heap.size + 1, 0, none⟩) 1 1 1 := by
      have := one_rd (w1.alloc (.cells #[.bool s1, .slice A1 n1 c1, .int .i64 E1] 27))
      simpa using this
    refine (rShlN h1 (by omega) hE3 (by omega) rfl).mono ?_
    rintro ee w2 ⟨A3, n3, c3, rfl, p3, k3, B3⟩
    clear x50 x51 x52 h1
    replace X5 := X5.below B3
    replace XR := XR.below B3
    replace p1 := p1.below B3
    replace HB := Lib.hid (bt HB.out B3)
    clear B3
    go_wp2_with fail
    refine (qMake false p3.rd).mono ?_
    rintro ee w3 ⟨s4, A4, n4, c4, rfl, p4, k4, B4⟩
    have e4 : sg false (1 * 2 ^ (-E1).toNat) = ((2 ^ (-E1).toNat : Nat) : Int) := by rw [Nat.one_mul]; rfl
    rw [e4] at p4
    clear e4
    have X4 := Bx.new w3 s4 A4 n4 c4
    replace p4 := p4.below (bel1 _ (.cells #[.bool s4, .slice A4 n4 c4] 24))
    replace B4 := bt B4 (bel1 _ (.cells #[.bool s4, .slice A4 n4 c4] 24))
    replace X5 := X5.below B4
    replace XR := XR.below B4
    replace p1 := p1.below B4
    replace HB := Lib.hid (bt HB.out B4)
    have x50 := X5.c0
    have x51 := X5.c1
    have x40 := X4.cell0
    have x41 := X4.cell1
    clear B4 p3
    go_wp2_with fail
    refine (qDiv p1.wr p4.wr (by omega) (by omega) HP.out HR.out rfl).mono ?_
    rintro ee w5 ⟨s5, A5, n5, c5, s6, A6, n6, c6, rfl, p5, p6, k5, k6, B5⟩
    clear x50 x51 x40 x41
    have g6 : w.heap.size + 1 < w5.heap.size := (XR.below B5).lt
    replace p5 := p5.below (bel2 _ (.cells #[.bool s5, .slice A5 n5 c5] 24) (.cells #[.bool s6, .slice A6 n6 c6] 24))
    replace B5 := bt B5 (bel2 _ (.cells #[.bool s5, .slice A5 n5 c5] 24) (.cells #[.bool s6, .slice A6 n6 c6] 24))
    replace XR := XR.below B5
    replace HB := Lib.hid (bt HB.out B5)
    have X7 := (Bx.new w5 s5 A5 n5 c5).below (bel1 _ (.cells #[.bool s6, .slice A6 n6 c6] 24))
    have x70 := X7.cell0
    have x71 := X7.cell1
    have r0 := XR.cell0
    have r1 := XR.cell1
    have q0 := XR.frozen 0
    have q1 := XR.frozen 1
    clear B5 p6
    go_wp2
    exact bodyPost_ret (v := .agg #[.bool s5, .slice A5 n5 c5]) (by simp [results, Tryd.results30, go_sem, r0, r1]) rfl ⟨s5, A5, n5, c5, rfl, p5.st XR _ _, by omega, st2 HB.out (by omega) _ _⟩
end Go.Proofs.YteoeoppkefcmdaaDoor

/-
  A table of the library's that a package-level variable holds; and what bits.TrailingZeros32 does.
-/
namespace Go.Proofs.YteoeoppkefcmdaaDoor
open Go.RowKit
set_option linter.unusedVariables false

/-- The table's numbers. -/
def tzs : List Int := [0, 1, 28, 2, 29, 14, 24, 3, 30, 22, 20, 15, 25, 17, 4, 8, 31, 27, 13, 23, 21, 19, 16, 7, 26, 12, 18, 6, 11, 5, 10, 9]
/-- The table lies where it was laid. -/
def Tab (w : World) : Prop := ∀ i, i < 32 → w.cell? ⟨0, i, none⟩ = some (.int .u8 (tzs.getD i 0))
section
variable {w w' : World}
theorem Tab.lt (h : Tab w) : 0 < w.heap.size := World.block_lt_of_cell? w _ (h 0 (by decide))
theorem Tab.keep (h : Tab w) (hk : w'.heap[0]? = w.heap[0]?) : Tab w' := fun i hi => by
  rw [← h i hi]
  simp only [World.cell?, hk]
theorem Tab.below (h : Tab w) (hb : Below w.heap.size w w') : Tab w' := h.keep (hb.block _ h.lt)
theorem Tab.drew (h : Tab w) : Tab w.drew := h
theorem Tab.far (h : Tab w) {k : Nat} (hk : 0 ≠ k) (i : Nat) (v : Value) : Tab (w.setCell ⟨k, i, none⟩ v) := h.keep (Below.heap_setCell w _ _ _ hk)
theorem Tab.store {g : Nat} {cs : Array Value} {T : TypeId} (h : Tab w) {s : Value} (X : Bo w g cs T) (hs : cs[0]? = some s) (hn : ∀ z, s ≠ .int .u8 z) (i : Nat) (v : Value) : Tab (w.setCell ⟨g, i, none⟩ v) := h.far (fun e => by
  have h1 := h 0 (by decide)
  subst e
  rw [X.cell, hs] at h1
  exact hn _ (Option.some.inj h1)) i v
end

theorem land_odd (a b : Nat) : (2 * a + 1) &&& (2 * b + 1) = 2 * (a &&& b) + 1 := by
  apply Nat.eq_of_testBit_eq
  intro i
  cases i with
  | zero => simp [Nat.testBit_zero]
  | succ i =>
    rw [Nat.testBit_and, Nat.testBit_add_one, Nat.testBit_add_one, Nat.testBit_add_one, show (2 * a + 1) / 2 = a by omega, show (2 * b + 1) / 2 = b by omega, show (2 * (a &&& b) + 1) / 2 = a &&& b by omega, Nat.testBit_and]
theorem land_not (q j : Nat) (h : q < 2 ^ j) : q &&& (2 ^ j - (q + 1)) = 0 := by
  apply Nat.eq_of_testBit_eq
  intro i
  rw [Nat.testBit_and, Nat.testBit_two_pow_sub_succ h]
  cases q.testBit i <;> simp
/-- The lowest bit that is set. -/
theorem land_low {x : Nat} (h0 : x ≠ 0) (hx : x < 4294967296) : x &&& (4294967296 - x) = 2 ^ v2 x ∧ v2 x < 32 := by
  obtain ⟨e, ho⟩ := v2_spec x h0
  have hk : v2 x < 32 := by
    have h1 := v2_pow_le h0
    have h2 : 2 ^ v2 x < 2 ^ 32 := by omega
    exact (Nat.pow_lt_pow_iff_right (by decide)).1 h2
  refine ⟨?_, hk⟩
  revert e ho hk
  generalize x / 2 ^ v2 x = m
  generalize v2 x = k
  intro e ho hk
  have hp : (4294967296 : Nat) = 2 ^ (32 - k) * 2 ^ k := by rw [← Nat.pow_add, show 32 - k + k = 32 by omega]
  have hm : m < 2 ^ (32 - k) := by
    have : m * 2 ^ k < 2 ^ (32 - k) * 2 ^ k := by rw [← hp, ← e]; exact hx
    exact Nat.lt_of_mul_lt_mul_right this
  have e2 : 4294967296 - x = (2 ^ (32 - k) - m) * 2 ^ k := by rw [Nat.sub_mul, ← hp, ← e]
  have hand : (m * 2 ^ k) &&& ((2 ^ (32 - k) - m) * 2 ^ k) = (m &&& (2 ^ (32 - k) - m)) * 2 ^ k := by
    rw [← Nat.shiftLeft_eq, ← Nat.shiftLeft_eq, ← Nat.shiftLeft_eq, Nat.shiftLeft_and_distrib]
  rw [e2]
  have e3 : x &&& (2 ^ (32 - k) - m) * 2 ^ k = (m * 2 ^ k) &&& ((2 ^ (32 - k) - m) * 2 ^ k) := by rw [← e]
  rw [e3, hand]
  obtain ⟨j, hj⟩ : ∃ j, 32 - k = j + 1 := ⟨31 - k, by omega⟩
  rw [hj] at hm ⊢
  obtain ⟨q, rfl⟩ : ∃ q, m = 2 * q + 1 := ⟨m / 2, by omega⟩
  have hq : q < 2 ^ j := by rw [Nat.pow_succ] at hm; omega
  rw [show 2 ^ (j + 1) - (2 * q + 1) = 2 * (2 ^ j - (q + 1)) + 1 by rw [Nat.pow_succ]; omega, land_odd, land_not q j hq]
  simp
theorem tz_index : ∀ k : Nat, k < 32 → (((2 ^ k : Nat) : Int) * 125613361 % 4294967296 / 134217728).toNat < 32 ∧ 0 ≤ ((2 ^ k : Nat) : Int) * 125613361 % 4294967296 / 134217728 ∧ tzs.getD (((2 ^ k : Nat) : Int) * 125613361 % 4294967296 / 134217728).toNat 0 = (k : Int) := by decide +kernel

set_option maxHeartbeats 1000000 in
theorem tz32 {w : World} {x : Nat} (hT : Tab w) (h0 : x ≠ 0) (hx : x < 4294967296) : Calls Tryd.prog 68 #[.int .u32 (x : Int)] w fun e w' => e = .returned (.int .i64 (v2 x : Nat)) ∧ w' = w := by
  have hq : ((x : Int) == 0) = false := by have : (x : Int) ≠ 0 := by omega
                                           simpa using this
  obtain ⟨e1, hk⟩ := land_low h0 hx
  have hb : bits BinOp.and IntKind.u32 (x : Int) (-(x : Int) % 4294967296) = ((2 ^ v2 x : Nat) : Int) := by
    have e2 : -(x : Int) % 4294967296 = ((4294967296 - x : Nat) : Int) := by omega
    rw [e2, u32_and_nat _ _ hx (by omega), e1]
  obtain ⟨t1, t2, t3⟩ := tz_index (v2 x) hk
  have hc := hT _ t1
  rw [t3] at hc
  revert hb t1 t2 hc
  generalize ((2 ^ v2 x : Nat) : Int) = p
  intro hb t1 t2 hc
  obtain ⟨i, hi⟩ : ∃ i : Int, p * 125613361 % 4294967296 / 134217728 = i := ⟨_, rfl⟩
  rw [hi] at t1 t2 hc
  obtain ⟨i, rfl⟩ := Int.eq_ofNat_of_zero_le t2
  have hi2 : i < 32 := by simpa using t1
  have hc2 : w.cell? ⟨0, i, none⟩ = some (.int .u8 ((v2 x : Nat) : Int)) := by simpa using hc
  clear hc t1 t2 t3 hT e1
  revert hc2 hk
  generalize v2 x = k
  intro hk hc
  go_enter Tryd.func68, Tryd.ntmps68
  go_wp2
  go_ret
  exact ⟨rfl, rfl⟩
end Go.Proofs.YteoeoppkefcmdaaDoor

/-
  What dy.trailing and dy.within do.
-/
namespace Go.Proofs.YteoeoppkefcmdaaDoor
open Go.RowKit
set_option linter.unusedVariables false

theorem ret_i64 {a b : Int} (h : a = b) : Ending.returned (.int .i64 a) = .returned (.int .i64 b) := by rw [h]
theorem v2_low {x y : Nat} (h0 : x ≠ 0) (hx : x < 4294967296) : v2 (x + 4294967296 * y) = v2 x := by
  obtain ⟨e, ho⟩ := v2_spec x h0
  have hk := (land_low h0 hx).2
  revert e ho hk
  generalize x / 2 ^ v2 x = m
  generalize v2 x = k
  intro e ho hk
  obtain ⟨j, hj⟩ : ∃ j, 32 - k = j + 1 := ⟨31 - k, by omega⟩
  have hp : (4294967296 : Nat) = 2 * 2 ^ j * 2 ^ k := by
    rw [show 2 * 2 ^ j = 2 ^ (j + 1) by rw [Nat.pow_succ, Nat.mul_comm], ← hj, ← Nat.pow_add, show 32 - k + k = 32 by omega]
  refine (v2_uniq (m := m + 2 * (2 ^ j * y)) (k := k) (by omega) ?_).1
  rw [Nat.add_mul, ← e, hp]
  congr 1
  rw [Nat.mul_right_comm, Nat.mul_assoc 2, Nat.mul_assoc 2]
theorem v2_high {y : Nat} (h : y ≠ 0) : v2 (4294967296 * y) = v2 y + 32 := by
  obtain ⟨e, ho⟩ := v2_spec y h
  refine (v2_uniq (m := y / 2 ^ v2 y) (k := v2 y + 32) ho ?_).1
  rw [Nat.pow_add, ← Nat.mul_assoc, ← e, Nat.mul_comm]
/-- The lowest limb that is not nought tells how often a number can be halved. -/
theorem v2_val : ∀ {xs : List Nat}, Lim xs → val xs ≠ 0 → ∃ j, j < xs.length ∧ (∀ i, i < j → xs.getD i 0 = 0) ∧ xs.getD j 0 ≠ 0 ∧ v2 (val xs) = j * 32 + v2 (xs.getD j 0)
  | [], _, h => absurd rfl h
  | x :: xs, hl, h => by
    rw [val_cons] at h ⊢
    by_cases hx : x = 0
    · subst hx
      have h1 : val xs ≠ 0 := by omega
      obtain ⟨j, h2, h3, h4, h5⟩ := v2_val hl.tail h1
      refine ⟨j + 1, by simp; omega, fun i hi => ?_, by simpa using h4, ?_⟩
      · cases i with
        | zero => rfl
        | succ i => simpa using h3 i (by omega)
      · rw [Nat.zero_add, v2_high h1, h5, show (0 :: xs).getD (j + 1) 0 = xs.getD j 0 by simp]
        omega
    · exact ⟨0, by simp, fun i hi => by omega, by simpa using hx, by rw [v2_low hx hl.head]; simp⟩

set_option maxHeartbeats 1000000 in
theorem dTrailing {w : World} {A : Option Addr} {n c a : Nat} {r : Int} (hT : Tab w) (h : Rd w A n c a) (h0 : a ≠ 0) (hr : ((v2 a : Nat) : Int) = r) : Calls Tryd.prog 40 #[.slice A n c] w (PI w r) := by
  obtain ⟨b, xs, hs, rfl⟩ := h
  obtain ⟨j, hj, hz, hn, hv⟩ := v2_val hs.lim h0
  have hlen := hs.len
  have hcap := hs.cap
  have hbig := hs.big
  obtain ⟨o, rfl, hcell⟩ := hs.at (by omega)
  have hxl := hs.lim.getD j
  have hcj := hcell j (by omega)
  obtain ⟨x, hx⟩ : ∃ x, xs.getD j 0 = x := ⟨_, rfl⟩
  rw [hx] at hn hv hcj hxl
  have HR : Hid ((j : Int) * 32 + ((v2 x : Nat) : Int) = r) := Lib.hid (by rw [← hr, hv]; omega)
  have hk := (land_low hn hxl).2
  have hne : ((x : Int) == 0) = false := by have : (x : Int) ≠ 0 := by omega
                                            simpa using this
  have HZ := Lib.hid hz
  clear hz hv hr h0
  go_enter Tryd.func40, Tryd.ntmps40
  go_wp2
  go_loop [3] (fun i => ∃ k : Nat, k ≤ j ∧ i = .int .i64 k) (fun i => j - (intOf i).toNat)
  case atStart => exact ⟨0, Nat.zero_le _, rfl⟩
  case round =>
    obtain ⟨k, hk1, rfl⟩ := hrel
    by_cases hlt : k < j
    · have hck := hcell k (by omega)
      rw [HZ.out k hlt] at hck
      clear hcell hcj
      go_wp2
      go_round
      case rel => exact ⟨k + 1, by omega, by go_num⟩
      case measure => simp [intOf]; omega
    · obtain rfl : k = j := by omega
      clear hcell
      go_wp2_with (first
        | (go_at_call 68; ((with_reducible refine (tz32 hT hn hxl).mono ?_); rintro ee w1 ⟨rfl, rfl⟩)))
      go_ret
      exact ⟨ret_i64 HR.out, Below.refl _ _⟩

def inE (e : Int) : Bool := decide (-4194304 ≤ e) && decide (e ≤ 4194304)
set_option maxHeartbeats 400000 in
theorem dWithin {w : World} {e : Int} {r : Bool} (hr : inE e = r) : Calls Tryd.prog 38 #[.int .i64 e] w (PB w r) := by
  subst hr
  unfold inE
  by_cases h : -4194304 ≤ e
  · have t1 : decide (-4194304 ≤ e) = true := decide_eq_true h
    rw [t1]
    go_enter Tryd.func38, Tryd.ntmps38
    go_wp2
    go_ret
    exact ⟨rfl, Below.refl _ _⟩
  · have t1 : decide (-4194304 ≤ e) = false := decide_eq_false h
    rw [t1]
    go_enter Tryd.func38, Tryd.ntmps38
    go_wp2
    go_ret
    exact ⟨rfl, Below.refl _ _⟩
end Go.Proofs.YteoeoppkefcmdaaDoor

/-
  What pelorusref03.Two does: the sum of two.
-/
namespace Go.Proofs.YteoeoppkefcmdaaDoor
open Go.RowKit
set_option linter.unusedVariables false

theorem Bx.noD {w : World} {g : Nat} {s : Bool} {A : Option Addr} {n c : Nat} {a b d : Value} {T : TypeId} (h : Bx w g s A n c) (k : Bo w g #[a, b, d] T) : False := by
  unfold Bx at h
  unfold Bo at k
  rw [h] at k
  simp at k
theorem Bx.far3 {w : World} {g : Nat} {s : Bool} {A : Option Addr} {n c : Nat} (h : Bx w g s A n c) {k : Nat} (hk : g ≠ k) (u v t : Value) : Bx (((w.setCell ⟨k, 0, none⟩ u).setCell ⟨k, 1, none⟩ v).setCell ⟨k, 2, none⟩ t) g s A n c :=
  h.keep (by rw [Below.heap_setCell _ _ _ _ hk, Below.heap_setCell _ _ _ _ hk, Below.heap_setCell _ _ _ _ hk])

set_option maxHeartbeats 8000000 in
theorem q3two_up {w : World} {A B : Option Addr} {n c m d : Nat} {s t : Bool} {z e y f Na Ea Nb Eb N E : Int} (h : Wr w s A n c z) (k : Wr w t B m d y) (hn : n ≤ 20000) (hm : m ≤ 20000) (hfar : Eb - Ea ≤ 640000)
    (HN1 : Hid ((mk z e).1 = Na)) (HE1 : Hid ((mk z e).2 = Ea)) (HN2 : Hid ((mk y f).1 = Nb)) (HE2 : Hid ((mk y f).2 = Eb)) (h1 : Na ≠ 0) (h2 : Nb ≠ 0) (hle : Ea ≤ Eb) (hb1 : -4194304 ≤ Ea) (hb2 : Eb ≤ 4194304)
    (HN : Hid ((mk (Na + Nb * ((2 ^ (Eb - Ea).toNat : Nat) : Int)) Ea).1 = N)) (HE : Hid ((mk (Na + Nb * ((2 ^ (Eb - Ea).toNat : Nat) : Int)) Ea).2 = E)) :
    Calls Tryd.prog 50 #[.agg #[.bool s, .slice A n c, .int .i64 e], .agg #[.bool t, .slice B m d, .int .i64 f]] w (D1 w (n + m + 20010) N E) := by
  go_enter Tryd.func50, Tryd.ntmps50
  go_wp2_with fail
  obtain ⟨X1, X2, XR, B0⟩ := dbox3 w s t A B n c m d e f rfl
  refine (q3Make (h.below B0) (by omega) HN1.out HE1.out).mono ?_
  rintro ee w1 ⟨sa, Aa, na, ca, rfl, pa, ka, B1⟩
  have g5' : w.heap.size + 1 + 1 < w1.heap.size := (XR.below B1).lt
  have X5 := Bo.new w1 #[.bool sa, .slice Aa na ca, .int .i64 Ea] 27
  replace pa := pa.below (bel1 _ (.cells #[.bool sa, .slice Aa na ca, .int .i64 Ea] 27))
  replace B1 := bt B1 (bel1 _ (.cells #[.bool sa, .slice Aa na ca, .int .i64 Ea] 27))
  replace XR := XR.below B1
  replace X2 := X2.below B1
  replace k := k.below (bt B0 B1)
  have HB := Lib.hid (bt B0 B1)
  have x20 := X2.c0
  have x21 := X2.c1
  have x22 := X2.c2
  clear B1 B0 X1
  go_wp2_with fail
  refine (q3Make k (by omega) HN2.out HE2.out).mono ?_
  rintro ee w2 ⟨sb, Ab, nb, cb, rfl, pb, kb, B2⟩
  clear x20 x21 x22
  have g6' : w1.heap.size < w2.heap.size := (X5.below B2).lt
  have X6 := Bo.new w2 #[.bool sb, .slice Ab nb cb, .int .i64 Eb] 27
  replace pb := pb.below (bel1 _ (.cells #[.bool sb, .slice Ab nb cb, .int .i64 Eb] 27))
  replace B2 := bt B2 (bel1 _ (.cells #[.bool sb, .slice Ab nb cb, .int .i64 Eb] 27))
  replace XR := XR.below B2
  replace X5 := X5.below B2
  replace pa := pa.below B2
  replace HB := Lib.hid (bt HB.out B2)
  have hpa : 0 < na := by have := pa.1.pos; omega
  have hpb : 0 < nb := by have := pb.1.pos; omega
  have qa : ((na : Int) == 0) = false := by have : (na : Int) ≠ 0 := by omega
                                            simpa using this
  have qb : ((nb : Int) == 0) = false := by have : (nb : Int) ≠ 0 := by omega
                                            simpa using this
  have la := pa.1.rd.big
  have lb := pb.1.rd.big
  have tle : decide (Eb < Ea) = false := decide_eq_false (by omega)
  clear B2 X2 h1 h2
  have x50 := X5.c0
  have x51 := X5.c1
  have x52 := X5.c2
  have x60 := X6.c0
  have x61 := X6.c1
  have x62 := X6.c2
  have hrb := pb.wr.rd
  have HC := Lib.hid (sg_scale sb Nb (2 ^ (Eb - Ea).toNat) pb.wr.eq)
  have hw : IntKind.i64.wrap (Eb - Ea) = Eb - Ea := IntWalk.i64_in _ (by omega)
  have hd0 : 0 ≤ Eb - Ea := by clear hw; omega
  have hd1 : Eb - Ea ≤ 16777216 := by clear hw; omega
  have hkk : (Eb - Ea).toNat / 32 ≤ 20000 := by clear hw; omega
  go_upto_region 11 with (fail)
  go_cut [8] (fun v wx => ∃ g s A n c, v = .pointer (some ⟨g, 0, none⟩) ∧ Bx wx g s A n c ∧ Wn wx s A n c (Nb * ((2 ^ (Eb - Ea).toNat : Nat) : Int)) ∧ n ≤ nb + 20001 ∧ Bd wx w1.heap.size sa Aa na ca Ea ∧ Bd wx (w.heap.size + 1 + 1) false none 0 0 0 ∧ Wn wx sa Aa na ca Na ∧ Below w.heap.size w wx)
  case first =>
    go_region_held3 (fun w' => w'.cell? ⟨w1.heap.size, 0, none⟩ = some (.bool sa) ∧ w'.cell? ⟨w1.heap.size, 1, none⟩ = some (.slice Aa na ca) ∧ w'.cell? ⟨w1.heap.size, 2, none⟩ = some (.int .i64 Ea) ∧ w'.cell? ⟨w2.heap.size, 0, none⟩ = some (.bool sb) ∧ w'.cell? ⟨w2.heap.size, 1, none⟩ = some (.slice Ab nb cb) ∧ w'.cell? ⟨w2.heap.size, 2, none⟩ = some (.int .i64 Eb)) (first | with_reducible exact ⟨X5.c0, X5.c1, X5.c2, X6.c0, X6.c1, X6.c2⟩ | with_reducible exact ⟨X5.drew.c0, X5.drew.c1, X5.drew.c2, X6.drew.c0, X6.drew.c1, X6.drew.c2⟩ | with_reducible exact ⟨(X5.below (bel1 _ _)).c0, (X5.below (bel1 _ _)).c1, (X5.below (bel1 _ _)).c2, (X6.below (bel1 _ _)).c0, (X6.below (bel1 _ _)).c1, (X6.below (bel1 _ _)).c2⟩ | with_reducible exact ⟨(X5.below (bel1 _ _)).drew.c0, (X5.below (bel1 _ _)).drew.c1, (X5.below (bel1 _ _)).drew.c2, (X6.below (bel1 _ _)).drew.c0, (X6.below (bel1 _ _)).drew.c1, (X6.below (bel1 _ _)).drew.c2⟩ | with_reducible exact ⟨((X5.far dX5 0 _).far dX5 1 _).c0, ((X5.far dX5 0 _).far dX5 1 _).c1, ((X5.far dX5 0 _).far dX5 1 _).c2, ((X6.far dX6 0 _).far dX6 1 _).c0, ((X6.far dX6 0 _).far dX6 1 _).c1, ((X6.far dX6 0 _).far dX6 1 _).c2⟩ | fail)
      (first
        | (go_at_call 59; ((with_reducible refine (rShlN hrb.drew (by clear hw; omega) hd0 hd1 rfl).mono ?_); rintro ee w3 ⟨A3, n3, c3, rfl, p3, k3, B0⟩; have B := bt ((Below.refl _ _).drew) B0; replace X5 := X5.below B; replace X6 := X6.below B; replace XR := XR.below B; replace pa := pa.below B; replace pb := pb.below B; replace HB := Lib.hid (bt HB.out B); clear B B0; (try (have y0 := Y8.cell0; have y1 := Y8.cell1; have z0 := Y8.frozen 0; have z1 := Y8.frozen 1))))
        | (go_at_call 59; ((with_reducible refine (rShlN (hrb.below (bel1 _ _)).drew (by clear hw; omega) hd0 hd1 rfl).mono ?_); rintro ee w3 ⟨A3, n3, c3, rfl, p3, k3, B0⟩; have Y8 := (Bx.newAt (w2.alloc (.cells #[.bool sb, .slice Ab nb cb, .int .i64 Eb] 27)) (g := w2.heap.size + 1) (by simp) false none 0 0).drew.below B0; have dX5 : w1.heap.size ≠ w2.heap.size + 1 := (by clear hw; omega); have dX6 : w2.heap.size ≠ w2.heap.size + 1 := (by clear hw; omega); have dXR : w.heap.size + 1 + 1 ≠ w2.heap.size + 1 := (by clear hw; omega); have lY8 : w.heap.size ≤ w2.heap.size + 1 := (by clear hw; omega); have B := bt ((bel1 _ _).drew) B0; replace X5 := X5.below B; replace X6 := X6.below B; replace XR := XR.below B; replace pa := pa.below B; replace pb := pb.below B; replace HB := Lib.hid (bt HB.out B); clear B B0; (try (have y0 := Y8.cell0; have y1 := Y8.cell1; have z0 := Y8.frozen 0; have z1 := Y8.frozen 1))))
        | (go_at_call 42; ((with_reducible refine (qMake _ p3.rd).mono ?_); rintro ee w4 ⟨s4, A4, n4, c4, rfl, p4, k4, B0⟩; (try (replace Y8 := Y8.below B0; clear y0 y1 z0 z1)); have B := B0; replace X5 := X5.below B; replace X6 := X6.below B; replace XR := XR.below B; replace pa := pa.below B; replace pb := pb.below B; replace HB := Lib.hid (bt HB.out B); clear B B0; (try (have y0 := Y8.cell0; have y1 := Y8.cell1; have z0 := Y8.frozen 0; have z1 := Y8.frozen 1))))
        | (go_at_call 42; ((with_reducible refine (qMake _ (p3.rd.below (bel1 _ _))).mono ?_); rintro ee w4 ⟨s4, A4, n4, c4, rfl, p4, k4, B0⟩; have Y8 := (Bx.new w3 false none 0 0).below B0; have dX5 := Nat.ne_of_lt X5.lt; have dX6 := Nat.ne_of_lt X6.lt; have dXR := Nat.ne_of_lt XR.lt; have lY8 : w.heap.size ≤ w3.heap.size := (by clear hw; have := XR.lt; omega); have B := bt (bel1 _ _) B0; replace X5 := X5.below B; replace X6 := X6.below B; replace XR := XR.below B; replace pa := pa.below B; replace pb := pb.below B; replace HB := Lib.hid (bt HB.out B); clear B B0; (try (have y0 := Y8.cell0; have y1 := Y8.cell1; have z0 := Y8.frozen 0; have z1 := Y8.frozen 1)))))
    all_goals
      clear hw
      go_wp2_with fail
      go_meet
      rw [HC.out] at p4
      first
        | exact ⟨_, s4, A4, n4, c4, rfl, Bx.new _ _ _ _ _, p4.below (bel1 _ _), by omega, X5.below (bel1 _ _), XR.below (bel1 _ _), pa.below (bel1 _ _), bt HB.out (bel1 _ _)⟩
        | exact ⟨_, s4, A4, n4, c4, rfl, Y8.set _ _ _ _, p4.st Y8 _ _, by omega, (X5.far dX5 0 _).far dX5 1 _, (XR.far dXR 0 _).far dXR 1 _, pa.st Y8 _ _, st2 HB.out lY8 _ _⟩
  case rest =>
    clear X5 X6 XR pa pb HB hrb hw
    obtain ⟨g8, s8, A8, n8, c8, rfl, X8, p8, k8, X5, XR, pa, hB⟩ := hcut
    have HB := Lib.hid hB
    clear hB
    have d5 : w1.heap.size ≠ w.heap.size + 1 + 1 := by omega
    have d8 : g8 ≠ w.heap.size + 1 + 1 := fun e8 => by rw [e8] at X8; exact X8.noD XR
    go_wp2
    go_region_held3 (fun w' => w'.cell? ⟨w1.heap.size, 0, none⟩ = some (.bool sa) ∧ w'.cell? ⟨w1.heap.size, 1, none⟩ = some (.slice Aa na ca) ∧ w'.cell? ⟨w1.heap.size, 2, none⟩ = some (.int .i64 Ea) ∧ w'.cell? ⟨g8, 0, none⟩ = some (.bool s8) ∧ w'.cell? ⟨g8, 1, none⟩ = some (.slice A8 n8 c8)) (first | with_reducible exact ⟨X5.c0, X5.c1, X5.c2, X8.cell0, X8.cell1⟩ | with_reducible exact ⟨X5.drew.c0, X5.drew.c1, X5.drew.c2, X8.drew.cell0, X8.drew.cell1⟩ | with_reducible exact ⟨(X5.far3 d5 _ _ _).c0, (X5.far3 d5 _ _ _).c1, (X5.far3 d5 _ _ _).c2, (X8.far3 d8 _ _ _).cell0, (X8.far3 d8 _ _ _).cell1⟩ | fail)
      (first
        | (go_at_call 71; ((with_reducible refine (qAdd pa.wr.drew p8.wr.drew (by omega) (by omega) rfl).mono ?_); rintro ee w5 ⟨s5, A5, n5, c5, rfl, p5, k5, B5⟩; replace X5 := X5.drew.below B5; replace X8 := X8.drew.below B5; replace XR := XR.drew.below B5; replace HB := Lib.hid (bt HB.out.drew B5); clear B5))
        | (go_at_call 12; ((with_reducible refine (q3Make p5.wr (by omega) HN.out HE.out).mono ?_); rintro ee w6 ⟨s6, A6, n6, c6, rfl, p6, k6, B6⟩; replace X5 := X5.below B6; replace X8 := X8.below B6; replace XR := XR.below B6; replace HB := Lib.hid (bt HB.out B6); clear B6; have r0 := XR.c0; have r1 := XR.c1; have r2 := XR.c2; have q0 := XR.frozen 0; have q1 := XR.frozen 1; have q2 := XR.frozen 2)))
    go_wp2
    exact bodyPost_ret (v := .agg #[.bool s6, .slice A6 n6 c6, .int .i64 E]) (by simp [results, Tryd.results50, go_sem, r0, r1, r2]) rfl ⟨s6, A6, n6, c6, rfl, p6.st3 XR _ _ _ _ _ (by simp [no32]), by omega, st3 HB.out (by omega) _ _ _⟩
end Go.Proofs.YteoeoppkefcmdaaDoor

/-
  What dy.Make does.
-/
namespace Go.Proofs.YteoeoppkefcmdaaDoor
open Go.RowKit
set_option linter.unusedVariables false

/-- A value is a trim whole number; a number times a power of two; a trim number. -/
def VW (w : World) (v : Value) (z : Int) : Prop := ∃ s A n c, v = .agg #[.bool s, .slice A n c] ∧ Wn w s A n c z
def VD (w : World) (v : Value) (N E : Int) : Prop := ∃ s A n c, v = .agg #[.bool s, .slice A n c, .int .i64 E] ∧ Wn w s A n c N
def VN (w : World) (v : Value) (a : Nat) : Prop := ∃ A n c, v = .slice A n c ∧ Nm w A n c a
theorem VW.below {w w' : World} {v : Value} {z : Int} (h : VW w v z) (hb : Below w.heap.size w w') : VW w' v z := by
  obtain ⟨s, A, n, c, rfl, h⟩ := h
  exact ⟨s, A, n, c, rfl, h.below hb⟩
theorem VD.below {w w' : World} {v : Value} {N E : Int} (h : VD w v N E) (hb : Below w.heap.size w w') : VD w' v N E := by
  obtain ⟨s, A, n, c, rfl, h⟩ := h
  exact ⟨s, A, n, c, rfl, h.below hb⟩
theorem VN.below {w w' : World} {v : Value} {a : Nat} (h : VN w v a) (hb : Below w.heap.size w w') : VN w' v a := by
  obtain ⟨A, n, c, rfl, h⟩ := h
  exact ⟨A, n, c, rfl, h.below hb⟩
/-- The numbers' length by their greatness. -/
theorem Wn.len_le {w : World} {s : Bool} {A : Option Addr} {n c k : Nat} {z : Int} (h : Wn w s A n c z) (hz : z.natAbs < 4294967296 ^ k) : n ≤ k := by
  rw [← h.1.len]
  exact limbs_length_le hz

set_option maxHeartbeats 1000000 in
theorem dmake_out {w : World} {s : Bool} {A : Option Addr} {n c : Nat} {z e : Int} (h : Wr w s A n c z) (hc : inE e = false) :
    Calls Tryd.prog 10 #[.agg #[.bool s, .slice A n c], .int .i64 e] w (D1 w n 0 0) := by
  go_enter Tryd.func10, Tryd.ntmps10
  go_wp2_with fail
  have XR : Bo ((w.alloc (.cells #[.bool s, .slice A n c] 24)).alloc (.cells #[.bool false, .slice none 0 0, .int .i64 0] 27)) (w.heap.size + 1) #[.bool false, .slice none 0 0, .int .i64 0] 27 := Bo.newAt _ (by simp) _ _
  have HB := Lib.hid (bel2 w (.cells #[.bool s, .slice A n c] 24) (.cells #[.bool false, .slice none 0 0, .int .i64 0] 27))
  refine (dWithin hc).mono ?_
  rintro ee w1 ⟨rfl, B⟩
  replace XR := XR.below B
  replace HB := Lib.hid (bt HB.out B)
  clear B
  have r0 := XR.c0
  have r1 := XR.c1
  have r2 := XR.c2
  have q0 := XR.frozen 0
  have q1 := XR.frozen 1
  have q2 := XR.frozen 2
  go_wp2
  exact bodyPost_ret (v := .agg #[.bool false, .slice none 0 0, .int .i64 0]) (by simp [results, Tryd.results10, go_sem, r0, r1, r2]) rfl ⟨false, none, 0, 0, rfl, Wn.zero.st3 XR _ _ _ _ _ (by simp [no32]), Nat.zero_le _, st3 HB.out (by omega) _ _ _⟩

set_option maxHeartbeats 1000000 in
theorem dmake_zero {w : World} {s : Bool} {A : Option Addr} {n c : Nat} {e : Int} (h : Wr w s A n c 0) (hc : inE e = true) :
    Calls Tryd.prog 10 #[.agg #[.bool s, .slice A n c], .int .i64 e] w (D1 w n 0 0) := by
  go_enter Tryd.func10, Tryd.ntmps10
  go_wp2_with fail
  have XR : Bo ((w.alloc (.cells #[.bool s, .slice A n c] 24)).alloc (.cells #[.bool false, .slice none 0 0, .int .i64 0] 27)) (w.heap.size + 1) #[.bool false, .slice none 0 0, .int .i64 0] 27 := Bo.newAt _ (by simp) _ _
  have HB := Lib.hid (bel2 w (.cells #[.bool s, .slice A n c] 24) (.cells #[.bool false, .slice none 0 0, .int .i64 0] 27))
  have X2 : Bx ((w.alloc (.cells #[.bool s, .slice A n c] 24)).alloc (.cells #[.bool false, .slice none 0 0, .int .i64 0] 27)) w.heap.size s A n c := (Bx.new w s A n c).below (bel1 _ _)
  refine (dWithin hc).mono ?_
  rintro ee w1 ⟨rfl, B⟩
  replace XR := XR.below B
  replace X2 := X2.below B
  replace HB := Lib.hid (bt HB.out B)
  clear B
  have x0 := X2.cell0
  have x1 := X2.cell1
  go_wp2_with fail
  refine (wSign (r := 0) (h.below HB.out) (cmpI_eq rfl)).mono ?_
  rintro ee w2 ⟨rfl, B⟩
  replace XR := XR.below B
  replace HB := Lib.hid (bt HB.out B)
  clear B
  have r0 := XR.c0
  have r1 := XR.c1
  have r2 := XR.c2
  have q0 := XR.frozen 0
  have q1 := XR.frozen 1
  have q2 := XR.frozen 2
  go_wp2
  exact bodyPost_ret (v := .agg #[.bool false, .slice none 0 0, .int .i64 0]) (by simp [results, Tryd.results10, go_sem, r0, r1, r2]) rfl ⟨false, none, 0, 0, rfl, Wn.zero.st3 XR _ _ _ _ _ (by simp [no32]), Nat.zero_le _, st3 HB.out (by omega) _ _ _⟩

set_option maxHeartbeats 4000000 in
theorem dmake_in {w : World} {s : Bool} {A : Option Addr} {n c : Nat} {z e N E : Int} (hT : Tab w) (h : Wr w s A n c z) (hn : n ≤ 100000) (h0 : z ≠ 0) (hc : inE e = true) (HN : Hid ((mk z e).1 = N)) (HE : Hid ((mk z e).2 = E)) :
    Calls Tryd.prog 10 #[.agg #[.bool s, .slice A n c], .int .i64 e] w (D1 w n N E) := by
  have ha : z.natAbs ≠ 0 := by omega
  have hv : v2 z.natAbs < 3200001 := by
    have e1 := v2_pow_le ha
    have e2 := h.rd.bound
    rw [pow32] at e2
    have e3 := (Nat.pow_lt_pow_iff_right (a := 2) (by decide)).1 (Nat.lt_of_le_of_lt e1 e2)
    omega
  have hin : -4194304 ≤ e ∧ e ≤ 4194304 := by simpa [inE] using hc
  obtain ⟨hi1, hi2⟩ := hin
  have hs1 : (cmpI z 0 == 0) = false := by
    have := (cmpI_zero (x := z) (y := 0))
    have h2 : cmpI z 0 ≠ 0 := fun e => h0 (this.1 e)
    simpa using h2
  obtain ⟨sz, hsz⟩ : ∃ q, cmpI z 0 = q := ⟨_, rfl⟩
  rw [hsz] at hs1
  have hrd := h.rd
  have hsg := h.eq
  obtain ⟨m, hm⟩ : ∃ m, v2 z.natAbs = m := ⟨_, rfl⟩
  have HM := Lib.hid hm
  have hm1 : m < 3200001 := by omega
  have hw : IntKind.i64.wrap (e + m) = e + m := IntWalk.i64_in _ (by omega)
  have HW := Lib.hid hw
  clear hm hv hw
  go_enter Tryd.func10, Tryd.ntmps10
  go_wp2_with fail
  have X2 : Bx ((w.alloc (.cells #[.bool s, .slice A n c] 24)).alloc (.cells #[.bool false, .slice none 0 0, .int .i64 0] 27)) w.heap.size s A n c := (Bx.new w s A n c).below (bel1 _ _)
  have XR : Bo ((w.alloc (.cells #[.bool s, .slice A n c] 24)).alloc (.cells #[.bool false, .slice none 0 0, .int .i64 0] 27)) (w.heap.size + 1) #[.bool false, .slice none 0 0, .int .i64 0] 27 := Bo.newAt _ (by simp) _ _
  have HB := Lib.hid (bel2 w (.cells #[.bool s, .slice A n c] 24) (.cells #[.bool false, .slice none 0 0, .int .i64 0] 27))
  replace hT := hT.below HB.out
  replace hrd := hrd.below HB.out
  refine (dWithin hc).mono ?_
  rintro ee w1 ⟨rfl, B⟩
  replace X2 := X2.below B
  replace XR := XR.below B
  replace hT := hT.below B
  replace hrd := hrd.below B
  replace HB := Lib.hid (bt HB.out B)
  clear B
  have x0 := X2.cell0
  have x1 := X2.cell1
  go_wp2_with fail
  refine (wSign (h.below HB.out) hsz).mono ?_
  rintro ee w2 ⟨rfl, B⟩
  clear x0 x1
  replace X2 := X2.below B
  replace XR := XR.below B
  replace hT := hT.below B
  replace hrd := hrd.below B
  replace HB := Lib.hid (bt HB.out B)
  clear B h
  have x0 := X2.cell0
  have x1 := X2.cell1
  go_wp2_with fail
  refine (dTrailing hT hrd ha (congrArg _ HM.out)).mono ?_
  rintro ee w3 ⟨rfl, B⟩
  clear x0 x1
  replace X2 := X2.below B
  replace XR := XR.below B
  replace hrd := hrd.below B
  replace HB := Lib.hid (bt HB.out B)
  clear B
  have hw := HW.out
  by_cases hE : inE (e + m) = true
  · have hE2 : e + m ≤ 4194304 := by
      have : -4194304 ≤ e + m ∧ e + m ≤ 4194304 := by simpa [inE] using hE
      exact this.2
    go_wp2_with fail
    refine (dWithin hE).mono ?_
    rintro ee w4 ⟨rfl, B⟩
    replace X2 := X2.below B
    replace XR := XR.below B
    replace hrd := hrd.below B
    replace HB := Lib.hid (bt HB.out B)
    clear B
    have HNE : Hid (sg s (z.natAbs / 2 ^ m) = N ∧ s = decide (N < 0)) := Lib.hid (by
      obtain ⟨e1, e2, e3, e4, e5⟩ := mk_in (z := z) (e := e) h0 hi1 (by rw [HM.out]; exact hE2)
      rw [HN.out] at e2 e3 e4
      rw [HM.out] at e2
      have hs : s = decide (z < 0) := by
        rw [← hsg, sg_lt]
        have : decide (0 < z.natAbs) = true := decide_eq_true (by omega)
        rw [this, Bool.and_true]
      refine ⟨?_, by rw [hs, decide_eq_decide]; exact e3.symm⟩
      rw [← e2, hs]
      by_cases hz : z < 0
      · have := e3.2 hz
        simp [sg, hz]; omega
      · have : ¬ N < 0 := fun h => hz (e3.1 h)
        simp [sg, hz]; omega)
    have hEE : E = e + m := by
      rw [← HE.out, (mk_in (z := z) (e := e) h0 hi1 (by rw [HM.out]; exact hE2)).1, HM.out]
    subst hEE
    have d2 : w.heap.size ≠ w.heap.size + 1 := by omega
    have hdiv : z.natAbs / 2 ^ m = (z.natAbs / 2 ^ m) := rfl
    go_wp2
    go_region_held3 (fun w' => w'.cell? ⟨w.heap.size, 0, none⟩ = some (.bool s) ∧ w'.cell? ⟨w.heap.size, 1, none⟩ = some (.slice A n c)) (first | with_reducible exact ⟨X2.cell0, X2.cell1⟩ | with_reducible exact ⟨X2.drew.cell0, X2.drew.cell1⟩ | with_reducible exact ⟨(X2.far3 d2 _ _ _).cell0, (X2.far3 d2 _ _ _).cell1⟩)
      (first
        | (go_at_call 41; ((with_reducible refine (vShrN hrd.drew (by clear hw; omega) rfl).mono ?_); rintro ee w5 ⟨A5, n5, c5, rfl, p5, k5, B5⟩; replace X2 := X2.drew.below B5; replace XR := XR.drew.below B5; replace HB := Lib.hid (bt HB.out.drew B5); clear B5; have r0 := XR.c0; have r1 := XR.c1; have r2 := XR.c2; have q0 := XR.frozen 0; have q1 := XR.frozen 1; have q2 := XR.frozen 2)))
    clear hw
    go_wp2
    have hwn : Wn w5 s A5 n5 c5 N := by
      refine ⟨?_, HNE.out.2⟩
      rw [← HNE.out.1, sg_natAbs]
      exact p5
    exact bodyPost_ret (v := .agg #[.bool s, .slice A5 n5 c5, .int .i64 (e + m)]) (by simp [results, Tryd.results10, go_sem, r0, r1, r2]) rfl ⟨s, A5, n5, c5, rfl, hwn.st3 XR _ _ _ _ _ (by simp [no32]), k5, st3 HB.out (by omega) _ _ _⟩
  · have hE2 : inE (e + m) = false := by simpa using hE
    have e3 := mk_over (z := z) (e := e) (by
      rw [HM.out]
      have : ¬ (-4194304 ≤ e + m ∧ e + m ≤ 4194304) := by simpa [inE] using hE
      omega)
    have hN0 : N = 0 := by rw [← HN.out, e3]
    have hE0 : E = 0 := by rw [← HE.out, e3]
    subst hN0
    subst hE0
    clear e3
    go_wp2_with fail
    refine (dWithin hE2).mono ?_
    rintro ee w4 ⟨rfl, B⟩
    replace XR := XR.below B
    replace HB := Lib.hid (bt HB.out B)
    clear B
    have r0 := XR.c0
    have r1 := XR.c1
    have r2 := XR.c2
    have q0 := XR.frozen 0
    have q1 := XR.frozen 1
    have q2 := XR.frozen 2
    go_wp2
    exact bodyPost_ret (v := .agg #[.bool false, .slice none 0 0, .int .i64 0]) (by simp [results, Tryd.results10, go_sem, r0, r1, r2]) rfl ⟨false, none, 0, 0, rfl, Wn.zero.st3 XR _ _ _ _ _ (by simp [no32]), Nat.zero_le _, st3 HB.out (by omega) _ _ _⟩
theorem dMake {w : World} {s : Bool} {A : Option Addr} {n c : Nat} {z e N E : Int} (hT : Tab w) (h : Wr w s A n c z) (hn : n ≤ 100000) (hN : (mk z e).1 = N) (hE : (mk z e).2 = E) :
    Calls Tryd.prog 10 #[.agg #[.bool s, .slice A n c], .int .i64 e] w (D1 w n N E) := by
  by_cases hc : inE e = true
  · by_cases h0 : z = 0
    · subst h0
      rw [mk_zero] at hN hE
      subst hN
      subst hE
      exact dmake_zero h hc
    · exact dmake_in hT h hn h0 hc (Lib.hid hN) (Lib.hid hE)
  · have hm : mk z e = (0, 0) := by
      have : ¬ (-4194304 ≤ e ∧ e ≤ 4194304) := by simpa [inE] using hc
      by_cases h1 : e < -4194304
      · exact mk_low h1
      · exact mk_high (by omega)
    rw [hm] at hN hE
    subst hN
    subst hE
    exact dmake_out h (by simpa using hc)
end Go.Proofs.YteoeoppkefcmdaaDoor

/-
  What pelorusref03.May does.
-/
namespace Go.Proofs.YteoeoppkefcmdaaDoor
open Go.RowKit
set_option linter.unusedVariables false

/-- May a number be that has the sign s, n limbs that are the number a, and the exponent e? -/
def mayD (s : Bool) (n a : Nat) (e : Int) : Bool := mayB s n a && (if n = 0 then e == 0 else ((((a % 4294967296 : Nat) : Int) % 2 == 1) && (decide (-4194304 ≤ e) && decide (e ≤ 4194304))))

set_option maxHeartbeats 1000000 in
theorem q3May_zero {w : World} {A : Option Addr} {c a : Nat} {s : Bool} {e : Int} (h : Rd w A 0 c a) : Calls Tryd.prog 16 #[.agg #[.bool s, .slice A 0 c, .int .i64 e]] w (PB w (mayB s 0 a && (e == 0))) := by
  obtain ⟨μ, hμ⟩ : ∃ t, mayB s 0 a = t := ⟨_, rfl⟩
  have HM := Lib.hid hμ
  rw [hμ]
  clear hμ
  cases μ
  · go_enter Tryd.func16, Tryd.ntmps16
    go_wp2_with (first
      | (go_at_call 47; ((with_reducible refine (qMay (h.below (bel1 _ _)) HM.out).mono ?_); rintro ee w1 ⟨rfl, B1⟩; obtain ⟨hc, hf⟩ := bcell B1)))
    go_ret
    exact ⟨rfl, bt (bel1 _ _) B1⟩
  · go_enter Tryd.func16, Tryd.ntmps16
    go_wp2_with (first
      | (go_at_call 47; ((with_reducible refine (qMay (h.below (bel1 _ _)) HM.out).mono ?_); rintro ee w1 ⟨rfl, B1⟩; obtain ⟨hc, hf⟩ := bcell B1)))
    go_ret
    exact ⟨rfl, bt (bel1 _ _) B1⟩

set_option maxHeartbeats 1000000 in
theorem q3May_pos {w : World} {A : Option Addr} {n c a : Nat} {s : Bool} {e : Int} (h : Rd w A n c a) (hn : 0 < n) : Calls Tryd.prog 16 #[.agg #[.bool s, .slice A n c, .int .i64 e]] w (PB w (mayB s n a && ((((a % 4294967296 : Nat) : Int) % 2 == 1) && (decide (-4194304 ≤ e) && decide (e ≤ 4194304))))) := by
  obtain ⟨μ, hμ⟩ : ∃ t, mayB s n a = t := ⟨_, rfl⟩
  have HM := Lib.hid hμ
  rw [hμ]
  have hbig := h.big
  have hq : ((n : Int) == 0) = false := by have : (n : Int) ≠ 0 := by omega
                                           simpa using this
  obtain ⟨b, xs, hs, hv⟩ := id h
  have hcap := hs.cap
  have hlt := hs.lt hn
  obtain ⟨o, rfl, hcell⟩ := hs.at hn
  have hck := hcell 0 hn
  have hx : xs.getD 0 0 = a % 4294967296 := by
    have hl := hs.len
    match xs, hl with
    | [], hl => exfalso; simp at hl; omega
    | y :: ys, _ =>
      have := hs.lim.head
      rw [← hv, val_cons]
      simp
      omega
  rw [hx, Nat.add_zero] at hck
  have hm32 : a % 4294967296 < 4294967296 := Nat.mod_lt _ (by decide)
  clear hcell hμ hx hv hs
  revert hck hm32
  generalize a % 4294967296 = y
  intro hck hm32
  have hne : b ≠ w.heap.size := by omega
  have hbl : b < (w.alloc (.cells #[.bool s, .slice (some ⟨b, o, none⟩) n c, .int .i64 e] 27)).heap.size := by simp; omega
  have hodd : (y : Int) % 2 = 0 ∨ (y : Int) % 2 = 1 := by omega
  cases μ
  · go_enter Tryd.func16, Tryd.ntmps16
    go_wp2_with (first
      | (go_at_call 47; ((with_reducible refine (qMay (h.below (bel1 _ _)) HM.out).mono ?_); rintro ee w1 ⟨rfl, B1⟩; obtain ⟨hc, hf⟩ := bcell B1)))
    go_ret
    exact ⟨rfl, bt (bel1 _ _) B1⟩
  · rcases hodd with ho | ho
    · have hoo : ((y : Int) % 2 == 1) = false := by rw [ho]; rfl
      clear ho
      rw [hoo]
      go_enter Tryd.func16, Tryd.ntmps16
      go_wp2_with (first
        | (go_at_call 47; ((with_reducible refine (qMay (h.below (bel1 _ _)) HM.out).mono ?_); rintro ee w1 ⟨rfl, B1⟩; obtain ⟨hc, hf⟩ := bcell B1)))
      go_ret
      exact ⟨rfl, bt (bel1 _ _) B1⟩
    · have hoo : ((y : Int) % 2 == 1) = true := by rw [ho]; rfl
      clear ho
      rw [hoo]
      by_cases he : -4194304 ≤ e
      · have t1 : decide (-4194304 ≤ e) = true := decide_eq_true he
        rw [t1]
        go_enter Tryd.func16, Tryd.ntmps16
        go_wp2_with (first
          | (go_at_call 47; ((with_reducible refine (qMay (h.below (bel1 _ _)) HM.out).mono ?_); rintro ee w1 ⟨rfl, B1⟩; obtain ⟨hc, hf⟩ := bcell B1)))
        go_ret
        exact ⟨rfl, bt (bel1 _ _) B1⟩
      · have t1 : decide (-4194304 ≤ e) = false := decide_eq_false he
        rw [t1]
        go_enter Tryd.func16, Tryd.ntmps16
        go_wp2_with (first
          | (go_at_call 47; ((with_reducible refine (qMay (h.below (bel1 _ _)) HM.out).mono ?_); rintro ee w1 ⟨rfl, B1⟩; obtain ⟨hc, hf⟩ := bcell B1)))
        go_ret
        exact ⟨rfl, bt (bel1 _ _) B1⟩
theorem q3May {w : World} {A : Option Addr} {n c a : Nat} {s : Bool} {e : Int} {r : Bool} (h : Rd w A n c a) (hr : mayD s n a e = r) : Calls Tryd.prog 16 #[.agg #[.bool s, .slice A n c, .int .i64 e]] w (PB w r) := by
  subst hr
  unfold mayD
  rcases Nat.eq_zero_or_pos n with e0 | e0
  · subst e0
    simpa using q3May_zero (e := e) h
  · rw [if_neg (by omega)]
    exact q3May_pos h e0
end Go.Proofs.YteoeoppkefcmdaaDoor

/-
  What dy.May, taken and Sign do.
-/
namespace Go.Proofs.YteoeoppkefcmdaaDoor
open Go.RowKit
set_option linter.unusedVariables false

set_option maxHeartbeats 1000000 in
theorem dMay_zero {w : World} {A : Option Addr} {c a : Nat} {s : Bool} {e : Int} (h : Rd w A 0 c a) : Calls Tryd.prog 15 #[.agg #[.bool s, .slice A 0 c, .int .i64 e]] w (PB w (mayB s 0 a && (e == 0))) := by
  obtain ⟨μ, hμ⟩ : ∃ t, mayB s 0 a = t := ⟨_, rfl⟩
  have HM := Lib.hid hμ
  rw [hμ]
  clear hμ
  cases μ
  · go_enter Tryd.func15, Tryd.ntmps15
    go_wp2_with (first
      | (go_at_call 46; ((with_reducible refine (wMay (h.below (bel1 _ _)) HM.out).mono ?_); rintro ee w1 ⟨rfl, B1⟩; obtain ⟨hc, hf⟩ := bcell B1)))
    go_ret
    exact ⟨rfl, bt (bel1 _ _) B1⟩
  · go_enter Tryd.func15, Tryd.ntmps15
    go_wp2_with (first
      | (go_at_call 46; ((with_reducible refine (wMay (h.below (bel1 _ _)) HM.out).mono ?_); rintro ee w1 ⟨rfl, B1⟩; obtain ⟨hc, hf⟩ := bcell B1)))
    go_ret
    exact ⟨rfl, bt (bel1 _ _) B1⟩

set_option maxHeartbeats 1000000 in
theorem dMay_pos {w : World} {A : Option Addr} {n c a : Nat} {s : Bool} {e : Int} (h : Rd w A n c a) (hn : 0 < n) : Calls Tryd.prog 15 #[.agg #[.bool s, .slice A n c, .int .i64 e]] w (PB w (mayB s n a && ((((a % 4294967296 : Nat) : Int) % 2 == 1) && (decide (-4194304 ≤ e) && decide (e ≤ 4194304))))) := by
  obtain ⟨μ, hμ⟩ : ∃ t, mayB s n a = t := ⟨_, rfl⟩
  have HM := Lib.hid hμ
  rw [hμ]
  have hbig := h.big
  have hq : ((n : Int) == 0) = false := by have : (n : Int) ≠ 0 := by omega
                                           simpa using this
  obtain ⟨b, xs, hs, hv⟩ := id h
  have hcap := hs.cap
  have hlt := hs.lt hn
  obtain ⟨o, rfl, hcell⟩ := hs.at hn
  have hck := hcell 0 hn
  have hx : xs.getD 0 0 = a % 4294967296 := by
    have hl := hs.len
    match xs, hl with
    | [], hl => exfalso; simp at hl; omega
    | y :: ys, _ =>
      have := hs.lim.head
      rw [← hv, val_cons]
      simp
      omega
  rw [hx, Nat.add_zero] at hck
  have hm32 : a % 4294967296 < 4294967296 := Nat.mod_lt _ (by decide)
  clear hcell hμ hx hv hs
  revert hck hm32
  generalize a % 4294967296 = y
  intro hck hm32
  have hne : b ≠ w.heap.size := by omega
  have hbl : b < (w.alloc (.cells #[.bool s, .slice (some ⟨b, o, none⟩) n c, .int .i64 e] 27)).heap.size := by simp; omega
  have hodd : (y : Int) % 2 = 0 ∨ (y : Int) % 2 = 1 := by omega
  have hand : bits BinOp.and IntKind.u32 (y : Int) 1 = (y : Int) % 2 := by
    have := u32_and_nat y 1 hm32 (by decide)
    rw [Nat.and_one_is_mod] at this
    simpa using this
  cases μ
  · go_enter Tryd.func15, Tryd.ntmps15
    go_wp2_with (first
      | (go_at_call 46; ((with_reducible refine (wMay (h.below (bel1 _ _)) HM.out).mono ?_); rintro ee w1 ⟨rfl, B1⟩; obtain ⟨hc, hf⟩ := bcell B1)))
    go_ret
    exact ⟨rfl, bt (bel1 _ _) B1⟩
  · rcases hodd with ho | ho
    · have hoo : ((y : Int) % 2 == 1) = false := by rw [ho]; rfl
      rw [ho] at hand
      clear ho
      rw [hoo]
      clear hoo
      go_enter Tryd.func15, Tryd.ntmps15
      go_wp2_with (first
        | (go_at_call 46; ((with_reducible refine (wMay (h.below (bel1 _ _)) HM.out).mono ?_); rintro ee w1 ⟨rfl, B1⟩; obtain ⟨hc, hf⟩ := bcell B1)))
      go_ret
      exact ⟨rfl, bt (bel1 _ _) B1⟩
    · have hoo : ((y : Int) % 2 == 1) = true := by rw [ho]; rfl
      rw [ho] at hand
      clear ho
      rw [hoo]
      clear hoo
      obtain ⟨i, hi⟩ : ∃ i, inE e = i := ⟨_, rfl⟩
      have hie : (decide (-4194304 ≤ e) && decide (e ≤ 4194304)) = i := hi
      rw [hie]
      clear hie
      go_enter Tryd.func15, Tryd.ntmps15
      go_wp2_with (first
        | (go_at_call 46; ((with_reducible refine (wMay (h.below (bel1 _ _)) HM.out).mono ?_); rintro ee w1 ⟨rfl, B1⟩; obtain ⟨hc, hf⟩ := bcell B1))
        | (go_at_call 38; ((with_reducible refine (dWithin hi).mono ?_); rintro ee w2 ⟨rfl, B2⟩)))
      go_ret
      exact ⟨rfl, bt (bel1 _ _) (bt B1 B2)⟩
theorem dMay {w : World} {A : Option Addr} {n c a : Nat} {s : Bool} {e : Int} {r : Bool} (h : Rd w A n c a) (hr : mayD s n a e = r) : Calls Tryd.prog 15 #[.agg #[.bool s, .slice A n c, .int .i64 e]] w (PB w r) := by
  subst hr
  unfold mayD
  rcases Nat.eq_zero_or_pos n with e0 | e0
  · subst e0
    simpa using dMay_zero (e := e) h
  · rw [if_neg (by omega)]
    exact dMay_pos h e0

/-- A number that may be is what Make makes of its parts. -/
theorem mayD_true {w : World} {s : Bool} {A : Option Addr} {n c : Nat} {z e : Int} (h : Wr w s A n c z) (hm : mayD s n z.natAbs e = true) : Wn w s A n c z ∧ mk z e = (z, e) := by
  have hsg := h.eq
  obtain ⟨b, xs, hs, hv⟩ := h.rd
  unfold mayD mayB at hm
  simp only [Bool.and_eq_true, decide_eq_true_eq, Bool.or_eq_true, Bool.not_eq_true'] at hm
  obtain ⟨⟨hl, hs1⟩, he⟩ := hm
  have hx : xs = limbs z.natAbs := by
    have h1 := limbs_prefix hs.lim
    rw [hv, hl, List.take_of_length_le (by rw [hs.len]; omega)] at h1
    exact h1
  have hN : Nm w A n c z.natAbs := ⟨b, hx ▸ hs⟩
  rcases Nat.eq_zero_or_pos n with e0 | e0
  · have hz : z.natAbs = 0 := by have := hN.pos; omega
    obtain rfl : z = 0 := by omega
    rw [if_pos e0] at he
    obtain rfl : e = 0 := by simpa using he
    have : s = false := by
      rcases hs1 with h1 | h1
      · omega
      · exact h1
    subst this
    exact ⟨⟨hN, rfl⟩, mk_zero 0⟩
  · rw [if_neg (by omega)] at he
    simp only [Bool.and_eq_true, beq_iff_eq, decide_eq_true_eq] at he
    obtain ⟨ho, h1, h2⟩ := he
    have hz : z.natAbs ≠ 0 := by have := hN.pos; omega
    have hodd : z.natAbs % 2 = 1 := by omega
    refine ⟨⟨hN, ?_⟩, ?_⟩
    · have := sg_lt s z.natAbs
      rw [hsg] at this
      rw [this, decide_eq_true (by omega : 0 < z.natAbs), Bool.and_true]
    · have hv2 := v2_odd hodd
      obtain ⟨e1, e2, e3, e4, e5⟩ := mk_in (z := z) (e := e) (by omega) h1 (by rw [hv2]; simpa using h2)
      rw [hv2] at e1 e5
      apply Prod.ext
      · simpa using e5.symm
      · simpa using e1

set_option maxHeartbeats 2000000 in
theorem dTaken {w : World} {s : Bool} {A : Option Addr} {n c : Nat} {z e N E : Int} (hT : Tab w) (h : Wr w s A n c z) (hn : n ≤ 100000) (hN : (mk z e).1 = N) (hE : (mk z e).2 = E) :
    Calls Tryd.prog 45 #[.agg #[.bool s, .slice A n c, .int .i64 e]] w (D1 w n N E) := by
  have HN := Lib.hid hN
  have HE := Lib.hid hE
  clear hN hE
  have hrd := h.rd
  by_cases hm : mayD s n z.natAbs e = true
  · obtain ⟨hw, hmk⟩ := mayD_true h hm
    have e1 := HN.out
    have e2 := HE.out
    rw [hmk] at e1 e2
    simp only at e1 e2
    subst e1
    subst e2
    clear hmk
    go_enter Tryd.func45, Tryd.ntmps45
    go_wp2_with fail
    obtain ⟨X1, XR, B0⟩ := dbox2 w s A n c e rfl
    refine (dMay (hrd.below B0) hm).mono ?_
    rintro ee w1 ⟨rfl, B⟩
    replace X1 := X1.below B
    replace XR := XR.below B
    replace hw := hw.below (bt B0 B)
    have HB := Lib.hid (bt B0 B)
    clear B B0 h hrd
    have x0 := X1.c0
    have x1 := X1.c1
    have x2 := X1.c2
    have r0 := XR.c0
    have r1 := XR.c1
    have r2 := XR.c2
    have q0 := XR.frozen 0
    have q1 := XR.frozen 1
    have q2 := XR.frozen 2
    go_wp2
    exact bodyPost_ret (v := .agg #[.bool s, .slice A n c, .int .i64 e]) (by simp [results, Tryd.results45, go_sem, r0, r1, r2]) rfl ⟨s, A, n, c, rfl, hw.st3 XR _ _ _ _ _ (by simp [no32]), Nat.le_refl _, st3 HB.out (by omega) _ _ _⟩
  · go_enter Tryd.func45, Tryd.ntmps45
    go_wp2_with fail
    obtain ⟨X1, XR, B0⟩ := dbox2 w s A n c e rfl
    refine (dMay (hrd.below B0) (Bool.eq_false_iff.2 hm)).mono ?_
    rintro ee w1 ⟨rfl, B⟩
    replace X1 := X1.below B
    replace XR := XR.below B
    replace h := h.below (bt B0 B)
    replace hT := hT.below (bt B0 B)
    have HB := Lib.hid (bt B0 B)
    clear B B0 hrd
    have x0 := X1.c0
    have x1 := X1.c1
    have x2 := X1.c2
    go_wp2_with fail
    refine (dMake hT h hn HN.out HE.out).mono ?_
    rintro ee w2 ⟨s2, A2, n2, c2, rfl, h2, k2, B⟩
    clear x0 x1 x2
    replace XR := XR.below B
    replace HB := Lib.hid (bt HB.out B)
    clear B
    have r0 := XR.c0
    have r1 := XR.c1
    have r2 := XR.c2
    have q0 := XR.frozen 0
    have q1 := XR.frozen 1
    have q2 := XR.frozen 2
    go_wp2
    exact bodyPost_ret (v := .agg #[.bool s2, .slice A2 n2 c2, .int .i64 E]) (by simp [results, Tryd.results45, go_sem, r0, r1, r2]) rfl ⟨s2, A2, n2, c2, rfl, h2.st3 XR _ _ _ _ _ (by simp [no32]), k2, st3 HB.out (by omega) _ _ _⟩

/-- The whole number of a number times a power of two. -/
theorem run_fieldN (s : Bool) (A : Option Addr) (n c : Nat) (e : Int) (w : World) : Sem.run Tryd.prog (Instr.field 27 (.agg #[.bool s, .slice A n c, .int .i64 e]) 0) w = .ok (.agg #[.bool s, .slice A n c]) w := by kernel_rfl

set_option maxHeartbeats 1000000 in
theorem dSign {w : World} {A : Option Addr} {n c : Nat} {s : Bool} {z e r : Int} (hT : Tab w) (h : Wr w s A n c z) (hn : n ≤ 100000) (hr : cmpI (mk z e).1 0 = r) : Calls Tryd.prog 17 #[.agg #[.bool s, .slice A n c, .int .i64 e]] w (PI w r) := by
  have HR := Lib.hid hr
  clear hr
  go_enter Tryd.func17, Tryd.ntmps17
  go_wp2_with fail
  refine (dTaken (hT.below (bel1 _ _)) (h.below (bel1 _ _)) hn rfl rfl).mono ?_
  rintro ee w1 ⟨s1, A1, n1, c1, rfl, p1, k1, B1⟩
  have hf := run_fieldN s1 A1 n1 c1 (mk z e).2 w1
  go_wp2_with fail
  refine (wSign p1.wr HR.out).mono ?_
  rintro ee w2 ⟨rfl, B2⟩
  go_wp2
  go_ret
  exact ⟨rfl, bt (bel1 _ _) (bt B1 B2)⟩
end Go.Proofs.YteoeoppkefcmdaaDoor

/-
  Plain arithmetic of numbers times powers of two: values, sums and products of normal forms, and how great they are. No condition; no Go text.
-/
namespace Go.Proofs.YteoeoppkefcmdaaDoor
set_option linter.unusedVariables false

theorem p2pos (k : Nat) : (0 : Int) < 2 ^ k := Int.pow_pos (by decide)
theorem natAbs_mul_pow (z : Int) (k : Nat) : (z * 2 ^ k).natAbs = z.natAbs * 2 ^ k := by
  rw [Int.natAbs_mul, Int.natAbs_pow]
  rfl
theorem p2_add {a b c : Int} (ha : 0 ≤ a) (hb : 0 ≤ b) (h : a + b = c) : (2 : Nat) ^ c.toNat = 2 ^ a.toNat * 2 ^ b.toNat := by
  rw [← Nat.pow_add]
  congr 1
  omega
theorem p2_addI {a b c : Int} (ha : 0 ≤ a) (hb : 0 ≤ b) (h : a + b = c) : (2 : Int) ^ c.toNat = 2 ^ a.toNat * 2 ^ b.toNat := by
  rw [← Int.pow_add]
  congr 1
  omega

/-- In normal form. -/
def Nf (p : Int × Int) : Prop := mk p.1 p.2 = p
theorem mk_odd {z e : Int} (hz : z.natAbs % 2 = 1) (h1 : -4194304 ≤ e) (h2 : e ≤ 4194304) : mk z e = (z, e) := by
  have h0 : z ≠ 0 := by omega
  have hv := v2_odd hz
  obtain ⟨e1, e2, e3, e4, e5⟩ := mk_in (z := z) (e := e) h0 h1 (by rw [hv]; simpa using h2)
  rw [hv] at e1 e5
  apply Prod.ext
  · simpa using e5.symm
  · simpa using e1
theorem mk_cases (z e : Int) : mk z e = (0, 0) ∨ (z ≠ 0 ∧ -4194304 ≤ e ∧ e ≤ 4194304 ∧ e + (v2 z.natAbs : Nat) ≤ 4194304 ∧ (mk z e).1.natAbs % 2 = 1 ∧ (mk z e).2 = e + (v2 z.natAbs : Nat) ∧ z = (mk z e).1 * 2 ^ v2 z.natAbs) := by
  by_cases hc : z = 0 ∨ e < -4194304 ∨ 4194304 < e ∨ 4194304 < e + (v2 z.natAbs : Nat)
  · left
    unfold mk
    rw [if_pos hc]
  · right
    have h0 : z ≠ 0 := by omega
    obtain ⟨e1, e2, e3, e4, e5⟩ := mk_in (z := z) (e := e) h0 (by omega) (by omega)
    refine ⟨h0, by omega, by omega, by omega, ?_, e1, e5⟩
    rw [e2]
    exact (v2_spec z.natAbs (by omega)).2
theorem mk_nf (z e : Int) : Nf (mk z e) := by
  rcases mk_cases z e with h | ⟨h0, h1, h2, h3, h4, h5, h6⟩
  · unfold Nf
    rw [h]
    exact mk_zero 0
  · exact mk_odd h4 (by omega) (by omega)
theorem Nf.cases {p : Int × Int} (h : Nf p) : p = (0, 0) ∨ (p.1 ≠ 0 ∧ p.1.natAbs % 2 = 1 ∧ -4194304 ≤ p.2 ∧ p.2 ≤ 4194304) := by
  have hb := mk_bd p.1 p.2
  rcases mk_cases p.1 p.2 with e | ⟨h0, h1, h2, h3, h4, h5, h6⟩
  · left
    rw [← e]
    exact h.symm
  · right
    rw [show mk p.1 p.2 = p from h] at h4
    exact ⟨h0, h4, h1, h2⟩
theorem Nf.zero {p : Int × Int} (h : Nf p) (h0 : p.1 = 0) : p = (0, 0) := by
  rcases h.cases with e | ⟨e, _⟩
  · exact e
  · exact absurd h0 e
theorem Nf.bd {p : Int × Int} (h : Nf p) : -4194304 ≤ p.2 ∧ p.2 ≤ 4194304 := by
  rcases h.cases with e | ⟨_, _, e⟩
  · rw [e]; simp
  · exact e
theorem mk_neg (z e : Int) : mk (-z) e = (-(mk z e).1, (mk z e).2) := by
  by_cases hz : z = 0
  · subst hz; rw [Int.neg_zero, mk_zero]; rfl
  · unfold mk
    rw [Int.natAbs_neg]
    by_cases hc : z = 0 ∨ e < -4194304 ∨ 4194304 < e ∨ 4194304 < e + (v2 z.natAbs : Nat)
    · have hc' : -z = 0 ∨ e < -4194304 ∨ 4194304 < e ∨ 4194304 < e + (v2 z.natAbs : Nat) := by omega
      rw [if_pos hc, if_pos hc']; rfl
    · have hc' : ¬ (-z = 0 ∨ e < -4194304 ∨ 4194304 < e ∨ 4194304 < e + (v2 z.natAbs : Nat)) := by omega
      rw [if_neg hc, if_neg hc']
      apply Prod.ext
      · rcases Int.lt_or_gt_of_ne hz with h | h
        · have h' : ¬ -z < 0 := by omega
          rw [if_neg h', if_pos h]
          simp
        · have h' : -z < 0 := by omega
          have h2 : ¬ z < 0 := by omega
          rw [if_pos h', if_neg h2]
          simp
      · rfl
/-- An odd number that was doubled so many times. -/
theorem mk_shift {z e : Int} {v : Nat} (hz : z.natAbs % 2 = 1) (h1 : -4194304 ≤ e) (h2 : e + v ≤ 4194304) : mk (z * 2 ^ v) e = (z, e + v) := by
  obtain ⟨v1, v2'⟩ := v2_mul v z.natAbs hz
  rw [← natAbs_mul_pow] at v1 v2'
  have hp := p2pos v
  have h0 : z * 2 ^ v ≠ 0 := Int.mul_ne_zero (by omega) (by omega)
  obtain ⟨e1, e2, e3, e4, e5⟩ := mk_in (z := z * 2 ^ v) (e := e) h0 h1 (by rw [v1]; exact h2)
  rw [v1] at e1 e5
  apply Prod.ext
  · exact (Int.eq_of_mul_eq_mul_right (by omega) e5).symm
  · exact e1

def KK : Nat := 4194304
theorem KK_eq : KK = 4194304 := rfl
/-- The number that a normal form is, times a fixed power of two. -/
def vl (p : Int × Int) : Int := p.1 * 2 ^ (p.2 + KK).toNat
theorem vl_zero : vl (0, 0) = 0 := by unfold vl; exact Int.zero_mul _
theorem cmpI_scale {a b p : Int} (hp : 0 < p) : cmpI (a * p) (b * p) = cmpI a b := by
  unfold cmpI
  by_cases h1 : a < b
  · rw [if_pos h1, if_pos (Int.mul_lt_mul_of_pos_right h1 hp)]
  · have h1' : ¬ a * p < b * p := Int.not_lt.2 (Int.mul_le_mul_of_nonneg_right (Int.not_lt.1 h1) (Int.le_of_lt hp))
    rw [if_neg h1, if_neg h1']
    by_cases h2 : b < a
    · rw [if_pos h2, if_pos (Int.mul_lt_mul_of_pos_right h2 hp)]
    · have h2' : ¬ b * p < a * p := Int.not_lt.2 (Int.mul_le_mul_of_nonneg_right (Int.not_lt.1 h2) (Int.le_of_lt hp))
      rw [if_neg h2, if_neg h2']
theorem vl_sign (p : Int × Int) : cmpI (vl p) 0 = cmpI p.1 0 := by
  have := cmpI_scale (a := p.1) (b := 0) (p2pos (p.2 + KK).toNat)
  rw [Int.zero_mul] at this
  exact this

/-- A normal form not less fine than 2^-h, less than 2^h. -/
def Fit (h : Nat) (p : Int × Int) : Prop := Nf p ∧ -(h : Int) ≤ p.2 ∧ p.1.natAbs * 2 ^ (p.2 + h).toNat < 2 ^ (2 * h)
theorem Fit.nf {h : Nat} {p : Int × Int} (f : Fit h p) : Nf p := f.1
theorem Fit.lo {h : Nat} {p : Int × Int} (f : Fit h p) : -(h : Int) ≤ p.2 := f.2.1
theorem Fit.abs {h : Nat} {p : Int × Int} (f : Fit h p) : p.1.natAbs < 2 ^ (2 * h) :=
  Nat.lt_of_le_of_lt (Nat.le_mul_of_pos_right _ (Nat.pow_pos (by decide))) f.2.2
theorem Fit.hi {h : Nat} {p : Int × Int} (f : Fit h p) : p.2 ≤ h := by
  rcases f.1.cases with e | ⟨e, _⟩
  · rw [e]; simp
  · have h1 : 1 ≤ p.1.natAbs := by omega
    have h2 := Nat.lt_of_le_of_lt (Nat.mul_le_mul_right (2 ^ (p.2 + h).toNat) h1) f.2.2
    rw [Nat.one_mul] at h2
    have := (Nat.pow_lt_pow_iff_right (a := 2) (by decide)).1 h2
    have := f.lo
    omega
theorem Fit.zero (h : Nat) : Fit h (0, 0) := ⟨mk_zero 0, by simp, by simp; exact Nat.pow_pos (by decide)⟩
theorem Fit.mono {h k : Nat} {p : Int × Int} (f : Fit h p) (hk : h ≤ k) : Fit k p := by
  have h1 := f.lo
  refine ⟨f.1, by omega, ?_⟩
  have e1 : (2 : Nat) ^ (p.2 + k).toNat = 2 ^ (p.2 + h).toNat * 2 ^ (k - h) := by rw [← Nat.pow_add]; congr 1; omega
  have e2 : (2 : Nat) ^ (2 * k) = 2 ^ (2 * h) * 2 ^ (k - h) * 2 ^ (k - h) := by rw [← Nat.pow_add, ← Nat.pow_add]; congr 1; omega
  rw [e1, e2, ← Nat.mul_assoc]
  refine Nat.lt_of_lt_of_le (Nat.mul_lt_mul_of_pos_right f.2.2 (Nat.pow_pos (by decide))) (Nat.le_mul_of_pos_right _ (Nat.pow_pos (by decide)))
theorem Fit.neg {h : Nat} {p : Int × Int} (f : Fit h p) : Fit h (-p.1, p.2) := by
  refine ⟨?_, f.lo, by simpa using f.2.2⟩
  unfold Nf
  rw [mk_neg, show mk p.1 p.2 = p from f.1]
/-- What Make makes of a number that is not too great. -/
theorem mk_fit {z e : Int} {h : Nat} (hh : h ≤ 4194304) (h1 : -(h : Int) ≤ e) (h2 : z.natAbs * 2 ^ (e + h).toNat < 2 ^ (2 * h)) : Fit h (mk z e) ∧ vl (mk z e) = z * 2 ^ (e + KK).toNat := by
  by_cases h0 : z = 0
  · subst h0
    rw [mk_zero]
    exact ⟨Fit.zero h, by rw [vl_zero, Int.zero_mul]⟩
  · have hn : z.natAbs ≠ 0 := by omega
    have h3 := Nat.lt_of_le_of_lt (Nat.mul_le_mul_right (2 ^ (e + h).toNat) (v2_pow_le hn)) h2
    rw [← Nat.pow_add] at h3
    have h4 := (Nat.pow_lt_pow_iff_right (a := 2) (by decide)).1 h3
    obtain ⟨e1, e2, e3, e4, e5⟩ := mk_in (z := z) (e := e) h0 (by omega) (by omega)
    have hnf := mk_nf z e
    revert e1 e5 hnf
    generalize hv : v2 z.natAbs = v at *
    generalize mk z e = p
    obtain ⟨N, E⟩ := p
    intro e1 e5 hnf
    simp only at e1 e5
    subst e5
    subst e1
    refine ⟨⟨hnf, by simp only; omega, ?_⟩, ?_⟩
    · simp only
      rw [natAbs_mul_pow, Nat.mul_assoc, ← Nat.pow_add, show v + (e + h).toNat = (e + v + h).toNat by omega] at h2
      exact h2
    · unfold vl
      simp only
      rw [Int.mul_assoc, ← Int.pow_add]
      congr 2
      rw [KK_eq]
      omega
/-- The sum of two normal forms. -/
def pl (p q : Int × Int) : Int × Int := if p.1 = 0 then q else if q.1 = 0 then p else mk (p.1 * 2 ^ (p.2 - min p.2 q.2).toNat + q.1 * 2 ^ (q.2 - min p.2 q.2).toNat) (min p.2 q.2)
theorem pl_comm {p q : Int × Int} (hp : Nf p) (hq : Nf q) : pl p q = pl q p := by
  unfold pl
  by_cases h1 : p.1 = 0
  · rw [if_pos h1]
    by_cases h2 : q.1 = 0
    · rw [if_pos h2, hp.zero h1, hq.zero h2]
    · rw [if_neg h2, if_pos h1]
  · rw [if_neg h1]
    by_cases h2 : q.1 = 0
    · rw [if_pos h2, if_pos h2]
    · rw [if_neg h2, if_neg h2, if_neg h1, Int.min_comm q.2 p.2, Int.add_comm]
theorem pl_nf {p q : Int × Int} (hp : Nf p) (hq : Nf q) : Nf (pl p q) := by
  unfold pl
  split
  · exact hq
  · split
    · exact hp
    · exact mk_nf _ _
theorem pl_fit {h : Nat} {p q : Int × Int} (hh : h + 1 ≤ 4194304) (fp : Fit h p) (fq : Fit h q) : Fit (h + 1) (pl p q) ∧ vl (pl p q) = vl p + vl q := by
  unfold pl
  by_cases h1 : p.1 = 0
  · rw [if_pos h1, fp.1.zero h1, vl_zero, Int.zero_add]
    exact ⟨fq.mono (by omega), rfl⟩
  · rw [if_neg h1]
    by_cases h2 : q.1 = 0
    · rw [if_pos h2, fq.1.zero h2, vl_zero, Int.add_zero]
      exact ⟨fp.mono (by omega), rfl⟩
    · rw [if_neg h2]
      have lp := fp.lo
      have lq := fq.lo
      obtain ⟨l, hl⟩ : ∃ l, min p.2 q.2 = l := ⟨_, rfl⟩
      rw [hl]
      have l1 : l ≤ p.2 := by omega
      have l2 : l ≤ q.2 := by omega
      have l3 : -(h : Int) ≤ l := by omega
      obtain ⟨a1, a2⟩ := mk_fit (z := p.1 * 2 ^ (p.2 - l).toNat + q.1 * 2 ^ (q.2 - l).toNat) (e := l) (h := h + 1) hh (by omega) (by
        have t := Int.natAbs_add_le (p.1 * 2 ^ (p.2 - l).toNat) (q.1 * 2 ^ (q.2 - l).toNat)
        rw [natAbs_mul_pow, natAbs_mul_pow] at t
        refine Nat.lt_of_le_of_lt (Nat.mul_le_mul_right _ t) ?_
        have x1 := fp.2.2
        have x2 := fq.2.2
        rw [Nat.add_mul, Nat.mul_assoc, Nat.mul_assoc, ← Nat.pow_add, ← Nat.pow_add,
          show (p.2 - l).toNat + (l + (h + 1 : Nat)).toNat = (p.2 + h).toNat + 1 by omega, show (q.2 - l).toNat + (l + (h + 1 : Nat)).toNat = (q.2 + h).toNat + 1 by omega,
          show 2 * (h + 1) = 2 * h + 1 + 1 by omega, Nat.pow_succ, Nat.pow_succ, Nat.pow_succ, Nat.pow_succ, ← Nat.mul_assoc, ← Nat.mul_assoc]
        omega)
      refine ⟨a1, ?_⟩
      rw [a2, Int.add_mul, Int.mul_assoc, Int.mul_assoc, ← Int.pow_add, ← Int.pow_add]
      unfold vl
      have k1 : (p.2 - l).toNat + (l + KK).toNat = (p.2 + KK).toNat := by rw [KK_eq]; omega
      have k2 : (q.2 - l).toNat + (l + KK).toNat = (q.2 + KK).toNat := by rw [KK_eq]; omega
      rw [k1, k2]
/-- The product. -/
def ml (p q : Int × Int) : Int × Int := mk (p.1 * q.1) (p.2 + q.2)
theorem ml_fit {h k : Nat} {p q : Int × Int} (hh : h + k ≤ 4194304) (fp : Fit h p) (fq : Fit k q) : Fit (h + k) (ml p q) ∧ vl (ml p q) * 2 ^ KK = vl p * vl q := by
  unfold ml
  have lp := fp.lo
  have lq := fq.lo
  obtain ⟨a1, a2⟩ := mk_fit (z := p.1 * q.1) (e := p.2 + q.2) (h := h + k) hh (by omega) (by
    rw [Int.natAbs_mul, show (p.2 + q.2 + (h + k : Nat)).toNat = (p.2 + h).toNat + (q.2 + k).toNat by omega, Nat.pow_add,
      Nat.mul_mul_mul_comm, show 2 * (h + k) = 2 * h + 2 * k by omega, Nat.pow_add]
    exact Nat.mul_lt_mul'' fp.2.2 fq.2.2)
  refine ⟨a1, ?_⟩
  rw [a2]
  unfold vl
  have k0 : (p.2 + q.2 + KK).toNat + KK = (p.2 + KK).toNat + (q.2 + KK).toNat := by rw [KK_eq]; omega
  rw [Int.mul_assoc, ← Int.pow_add, k0, Int.pow_add, Int.mul_assoc, Int.mul_assoc]
  congr 1
  rw [← Int.mul_assoc, ← Int.mul_assoc, Int.mul_comm q.1]
theorem ml_comm (p q : Int × Int) : ml p q = ml q p := by unfold ml; rw [Int.mul_comm, Int.add_comm]
def ng (p : Int × Int) : Int × Int := (-p.1, p.2)
theorem vl_ng (p : Int × Int) : vl (ng p) = -vl p := Int.neg_mul _ _
theorem ng_nf {p : Int × Int} (h : Nf p) : Nf (ng p) := by
  unfold Nf ng
  rw [mk_neg, show mk p.1 p.2 = p from h]
/-- The sum of a list, one behind the other. -/
def smd (l : List (Int × Int)) : Int × Int := l.foldl (fun a p => pl a (mk p.1 p.2)) (0, 0)
theorem smd_take {l : List (Int × Int)} {k : Nat} (h : k < l.length) : smd (l.take (k + 1)) = pl (smd (l.take k)) (mk (l.getD k (0, 0)).1 (l.getD k (0, 0)).2) := by
  unfold smd
  rw [List.take_succ_eq_append_getElem h, List.foldl_append, List.getD_eq_getElem?_getD, List.getElem?_eq_getElem h]
  rfl
theorem smd_nf (l : List (Int × Int)) : Nf (smd l) := by
  unfold smd
  suffices H : ∀ (l : List (Int × Int)) (a : Int × Int), Nf a → Nf (l.foldl (fun a p => pl a (mk p.1 p.2)) a) from H l _ (mk_zero 0)
  intro l
  induction l with
  | nil => exact fun a h => h
  | cons p l ih => exact fun a h => ih _ (pl_nf h (mk_nf _ _))
/-- A sum of numbers that are not too great. -/
theorem smd_fit {h : Nat} : ∀ (l : List (Int × Int)), h + l.length ≤ 4194304 → (∀ p ∈ l, Fit h (mk p.1 p.2)) → ∀ k, k ≤ l.length → Fit (h + k) (smd (l.take k)) := by
  intro l hl hp k
  induction k with
  | zero => intro _; exact Fit.zero _
  | succ k ih =>
    intro hk
    rw [smd_take (by omega)]
    have hm : l.getD k (0, 0) ∈ l := by
      rw [List.getD_eq_getElem?_getD, List.getElem?_eq_getElem (by omega)]
      exact List.getElem_mem _
    have := (pl_fit (h := h + k) (by omega) (ih (by omega)) ((hp _ hm).mono (by omega))).1
    rwa [show h + (k + 1) = h + k + 1 by omega]
/-- A raw number of at most 20 limbs, with an exponent from -1000 to 1000. -/
theorem raw_fit {z e : Int} {n : Nat} (hz : z.natAbs < 4294967296 ^ n) (hn : n ≤ 20) (h1 : -1000 ≤ e) (h2 : e ≤ 1000) : Fit 1640 (mk z e) ∧ vl (mk z e) = z * 2 ^ (e + KK).toNat := by
  obtain ⟨h, hh⟩ : ∃ h, h = 1640 := ⟨_, rfl⟩
  rw [← hh]
  refine mk_fit (h := h) (by omega) (by omega) ?_
  have e1 : (4294967296 : Nat) ^ n = 2 ^ (32 * n) := by rw [Nat.pow_mul]
  rw [e1] at hz
  refine Nat.lt_of_lt_of_le (Nat.mul_lt_mul_of_pos_right hz (Nat.pow_pos (by decide))) ?_
  rw [← Nat.pow_add]
  refine Nat.pow_le_pow_right (by decide) ?_
  omega
end Go.Proofs.YteoeoppkefcmdaaDoor

/-
  What nat.Root does, for every slice of limbs that is not too long for any machine.
-/
namespace Go.Proofs.YteoeoppkefcmdaaDoor
open Go.RowKit
set_option linter.unusedVariables false

/-- The greatest number whose square is not greater. -/
def rt : Nat → Nat
  | 0 => 0
  | n + 1 => if (rt n + 1) * (rt n + 1) ≤ n + 1 then rt n + 1 else rt n

theorem rt_spec (n : Nat) : rt n * rt n ≤ n ∧ n < (rt n + 1) * (rt n + 1) := by
  induction n with
  | zero => exact ⟨Nat.le_refl _, by decide⟩
  | succ n ih =>
    obtain ⟨h1, h2⟩ := ih
    unfold rt
    split
    · rename_i h
      refine ⟨h, ?_⟩
      have : (rt n + 1 + 1) * (rt n + 1 + 1) = (rt n + 1) * (rt n + 1) + 2 * rt n + 3 := by grind
      omega
    · exact ⟨by omega, by omega⟩

theorem rt_uniq {n s : Nat} (h1 : s * s ≤ n) (h2 : n < (s + 1) * (s + 1)) : s = rt n := by
  obtain ⟨k1, k2⟩ := rt_spec n
  rcases Nat.lt_trichotomy s (rt n) with h | h | h
  · have := Nat.mul_le_mul (show s + 1 ≤ rt n from h) (show s + 1 ≤ rt n from h)
    omega
  · exact h
  · have := Nat.mul_le_mul (show rt n + 1 ≤ s from h) (show rt n + 1 ≤ s from h)
    omega

theorem rt_le_of_lt {n g : Nat} (h : n < g * g) : rt n < g := by
  rcases Nat.lt_or_ge (rt n) g with h1 | h1
  · exact h1
  · have := Nat.mul_le_mul h1 h1
    have := (rt_spec n).1
    omega

/-- The mean of a guess and of the number divided by it is not below the root. -/
theorem mean_ge {n g : Nat} (hg : 0 < g) : rt n ≤ (g + n / g) / 2 := by
  have h1 := (rt_spec n).1
  generalize rt n = s at *
  rcases Nat.lt_or_ge g (2 * s) with h | h
  · have h2 : (2 * s - g) * g ≤ s * s := by
      rcases Nat.le_total s g with e | e
      · obtain ⟨t, rfl⟩ : ∃ t, g = s + t := ⟨g - s, by omega⟩
        obtain ⟨d, rfl⟩ : ∃ d, s = t + d := ⟨s - t, by omega⟩
        have : 2 * (t + d) - (t + d + t) = d := by omega
        rw [this]
        have e1 : d * (t + d + t) + t * t = (t + d) * (t + d) := by grind
        omega
      · obtain ⟨t, rfl⟩ : ∃ t, s = g + t := ⟨s - g, by omega⟩
        have : 2 * (g + t) - g = g + 2 * t := by omega
        rw [this]
        have e1 : (g + 2 * t) * g + t * t = (g + t) * (g + t) := by grind
        omega
    have h3 := (Nat.le_div_iff_mul_le hg).2 (Nat.le_trans h2 h1)
    generalize n / g = t at *
    omega
  · generalize n / g = t at *
    omega

/-- A guess whose mean is no lesser one is the root. -/
theorem mean_stop {n g : Nat} (hg : 0 < g) (hs : rt n ≤ g) (h : g ≤ (g + n / g) / 2) : g = rt n := by
  have h1 : g ≤ n / g := by omega
  have h2 := (Nat.le_div_iff_mul_le hg).1 h1
  have h3 := (rt_spec n).2
  rcases Nat.lt_or_ge (rt n) g with e | e
  · have := Nat.mul_le_mul (show rt n + 1 ≤ g from e) (show rt n + 1 ≤ g from e)
    omega
  · omega

theorem mean_pos {n g : Nat} (hn : 0 < n) (hg : 0 < g) : 0 < (g + n / g) / 2 := by
  have h1 := mean_ge (n := n) hg
  have h2 : 0 < rt n := by
    rcases Nat.eq_zero_or_pos (rt n) with e | e
    · have := (rt_spec n).2
      rw [e] at this
      omega
    · exact e
  omega

/-- The first guess is above the root. -/
theorem first_guess (n : Nat) : n < 2 ^ ((blen n + 1) / 2) * 2 ^ ((blen n + 1) / 2) := by
  have h := blen_lt n
  rw [← Nat.pow_add]
  exact Nat.lt_of_lt_of_le h (Nat.pow_le_pow_right (by decide) (by omega))

/-- The number that a slot's slice reads as: for the measure. -/
def readVal (w : World) : Value → Nat
  | .slice (some a) n _ => val ((List.range n).map fun k => match w.cell? ⟨a.block, a.off + k, none⟩ with | some (.int _ x) => x.toNat | _ => 0)
  | _ => 0

theorem readVal_eq {w : World} {b : Nat} {A : Option Addr} {n c : Nat} {xs : List Nat} (h : Sl w b A n c xs) : readVal w (.slice A n c) = val xs := by
  rcases Nat.eq_zero_or_pos n with e | e
  · subst e
    have hl : xs = [] := List.eq_nil_of_length_eq_zero h.len
    subst hl
    cases A <;> rfl
  · obtain ⟨o, rfl, hc⟩ := h.at e
    show val ((List.range n).map _) = _
    congr 1
    apply List.ext_getElem
    · simp [h.len]
    · intro k h1 h2
      have hk : k < n := by simpa using h1
      simp only [List.getElem_map, List.getElem_range, hc k hk]
      rw [List.getD_eq_getElem?_getD, List.getElem?_eq_getElem h2]
      simp

theorem shr_one (w : World) (b : Nat) (A : Option Addr) (n c : Nat) (xs : List Nat) (h : Sl w b A n c xs) :
    Calls Tryd.prog 41 #[.slice A n c, .int .i64 1] w (Ret1 w (limbs (val xs / 2))) := shr_any w b A n c xs 1 h (by omega)

def RootPost (w : World) (v : Nat) (e : Ending) (w' : World) : Prop :=
  ∃ A c, e = .returned (.tuple #[.slice A (limbs (rt v)).length c, .bool (decide (rt v * rt v = v))]) ∧ Out w' (limbs (rt v)) A c ∧ Below w.heap.size w w'

/-- What holds at the label. -/
def RootInv (w : World) (b0 : Nat) (A0 : Option Addr) (p c0 v G0 : Nat) (a' : Act) (W : World) : Prop :=
  ∃ (G bg : Nat) (Ag : Option Addr) (cg : Nat) (u5 u6 u7 u8 u9 u10 u11 u12 u13 u14 u15 u16 u17 u18 u19 u20 u21 u22 u23 u24 u25 u26 u27 u28 u29 u30 u31 u32 u33 u34 u35 u36 u37 u38 u39 u40 u41 u42 u43 : Value), a' = { tmps := #[.slice A0 p c0, undef, .slice none 0 0, .bool false, .slice Ag (limbs G).length cg, u5, u6, u7, u8, u9, u10, u11, u12, u13, u14, u15, u16, u17, u18, u19, u20, u21, u22, u23, u24, u25, u26, u27, u28, u29, u30, u31, u32, u33, u34, u35, u36, u37, u38, u39, u40, u41, u42, u43], defers := [] } ∧
    Sl W b0 A0 p c0 (limbs v) ∧ Sl W bg Ag (limbs G).length cg (limbs G) ∧ Below w.heap.size w W ∧ 0 < G ∧ rt v ≤ G ∧ G ≤ G0

/-- 1, raised. -/
theorem raised_one (w : World) (b Z : Nat) (A : Option Addr) (h : Sl w b A 1 1 [1]) (hZ : Z ≤ 1099511627776) :
    Calls Tryd.prog 89 #[.slice A 1 1, .int .i64 (Z : Int)] w fun e w' =>
      ∃ k g l, e = .returned (.slice (some ⟨g, 0, none⟩) k k) ∧ Sl w' g (some ⟨g, 0, none⟩) k k l ∧ val l = 2 ^ Z ∧ Below w.heap.size w w' := by
  refine (raised_any w b 1 1 A [1] (Z : Int) (Z / 32) (Z % 32) h (by omega) (by omega) (by omega) (by omega) (by omega)).mono ?_
  rintro e w' ⟨g, l, h1, h2, h3, h4, h5, h6, h7⟩
  refine ⟨1 + Z / 32 + 1, g, l, h1, ?_, ?_, h7⟩
  · have := h3.all h5 (by omega) (c := 1 + Z / 32 + 1) (by omega)
    rwa [h4] at this
  · rw [h6, show 32 * (Z / 32) + Z % 32 = Z by omega]; simp [val]

theorem limbs_len_blen {v : Nat} (hv : 0 < v) : blen v ≤ (limbs v).length * 32 := by
  apply blen_mono_le
  rw [← pow32]
  have := val_lt (lim_limbs v)
  rwa [val_limbs] at this

theorem guess_len {v p : Nat} (hv : 0 < v) (hp : (limbs v).length = p) {G : Nat} (hG : G ≤ 2 ^ ((blen v + 1) / 2)) : (limbs G).length ≤ p + 1 := by
  apply limbs_length_le
  rw [pow32]
  have := limbs_len_blen hv
  exact Nat.lt_of_le_of_lt hG (Nat.pow_lt_pow_right (by decide) (by omega))

end Go.Proofs.YteoeoppkefcmdaaDoor

/-
  What nat.Shl does, for all slices of limbs that are not too long for any machine.
-/
namespace Go.Proofs.YteoeoppkefcmdaaDoor
open Go.RowKit
set_option linter.unusedVariables false

set_option maxHeartbeats 400000 in
theorem shl_big (w : World) (A : Option Addr) (n c : Nat) (z : Int) (hz : 16777216 < z) :
    Calls Tryd.prog 75 #[.slice A n c, .int .i64 z] w fun e w' => e = .returned (.slice none 0 0) ∧ w = w' := by
  go_enter Tryd.func75, Tryd.ntmps75
  go_wp2
  go_ret
  exact ⟨rfl, rfl⟩

set_option maxHeartbeats 400000 in
theorem shl_low (w : World) (b : Nat) (A : Option Addr) (n c : Nat) (xs : List Nat) (z : Int) (h : Sl w b A n c xs) (hz : z < 1) :
    Calls Tryd.prog 75 #[.slice A n c, .int .i64 z] w (Ret1 w (limbs (val xs))) := by
  have HT := Lib.hid (trim_any w b A n c xs h)
  go_enter Tryd.func75, Tryd.ntmps75
  go_wp2_with (go_at_call 67; ((with_reducible refine HT.out.mono ?_); rintro e w4 ⟨g4, A4, c4, rfl, hm4, hb4⟩))
  go_ret
  exact ⟨g4, A4, c4, rfl, hm4, hb4⟩

set_option maxHeartbeats 400000 in
theorem shl_mid (w : World) (b : Nat) (A : Option Addr) (n c : Nat) (xs : List Nat) (z : Int) (h : Sl w b A n c xs) (hz : 1 ≤ z) (hz2 : z ≤ 16777216) (hn : n ≤ 549755813888) :
    Calls Tryd.prog 75 #[.slice A n c, .int .i64 z] w (Ret1 w (limbs (val xs * 2 ^ z.toNat))) := by
  have HT := Lib.hid (raised_any w b n c A xs z (z / 32).toNat (z % 32).toNat h (by omega) (by omega) (by omega) (by omega) (by omega))
  have e : 32 * (z / 32).toNat + (z % 32).toNat = z.toNat := by omega
  unfold RaisedPost at HT
  rw [e] at HT
  clear e
  have hs : n + (z / 32).toNat + 1 ≤ 1099511627776 := by omega
  revert HT hs
  generalize n + (z / 32).toNat + 1 = L
  intro HT hs
  go_enter Tryd.func75, Tryd.ntmps75
  go_wp2_with (go_at_call 89; ((with_reducible refine HT.out.mono ?_); rintro e w3 ⟨g, l, rfl, hg, hown, hlen, hlim, hv, hb⟩))
  have hS := hown.all hlim (by omega) (c := L) (by omega)
  rw [hlen] at hS
  have HV := Lib.hid hv
  have HB := Lib.hid hb
  clear hown hlen hlim hv hb HT
  go_wp2_with (go_at_call 67; ((with_reducible refine (trim_any w3 g _ L L l hS).mono ?_); rintro e w4 ⟨g4, A4, c4, rfl, hm4, hb4⟩))
  go_ret
  rw [HV.out] at hm4
  rw [HV.out]
  exact Ret1.of hm4 hb4 HB.out

/-- Any shift that may be. -/
theorem shl_any (w : World) (b : Nat) (A : Option Addr) (n c : Nat) (xs : List Nat) (s : Nat) (h : Sl w b A n c xs) (hz2 : s ≤ 16777216) (hn : n ≤ 549755813888) :
    Calls Tryd.prog 75 #[.slice A n c, .int .i64 (s : Int)] w (Ret1 w (limbs (val xs * 2 ^ s))) := by
  by_cases h0 : s = 0
  · subst h0
    rw [Nat.pow_zero, Nat.mul_one]
    exact shl_low w b A n c xs _ h (by omega)
  · have := shl_mid w b A n c xs (s : Int) h (by omega) (by omega) hn
    rwa [Int.toNat_natCast] at this
end Go.Proofs.YteoeoppkefcmdaaDoor

/-
  What nat.Shl and nat.Root do, said of numbers.
-/
namespace Go.Proofs.YteoeoppkefcmdaaDoor
open Go.RowKit
set_option linter.unusedVariables false

section
variable {w : World} {A1 A2 : Option Addr} {n m c1 c2 a b : Nat}
theorem rt_le (a : Nat) : rt a ≤ a := by
  have h := (rt_spec a).1
  rcases Nat.eq_zero_or_pos (rt a) with e | e
  · omega
  · have := Nat.le_mul_of_pos_right (rt a) e
    omega

theorem limbs_shl_len {a n s : Nat} (ha : a < 4294967296 ^ n) : (limbs (a * 2 ^ s)).length ≤ n + s / 32 + 1 := by
  have := limbs_mul_len (m := s / 32 + 1) (b := 2 ^ s) ha (by rw [pow32]; exact Nat.pow_lt_pow_right (by decide) (by omega))
  omega
theorem vShl (s : Nat) (h1 : Rd w A1 n c1 a) (hn : n ≤ 1073741824) (hs : s ≤ 16777216) : Calls Tryd.prog 75 #[.slice A1 n c1, .int .i64 (s : Int)] w (P1 w (n + s / 32 + 1) (a * 2 ^ s)) := by
  have hl := limbs_shl_len (s := s) h1.bound
  obtain ⟨b1, xs, h1, rfl⟩ := h1
  refine (shl_any w b1 A1 n c1 xs s h1 hs (by omega)).mono ?_
  rintro e w' ⟨g, A, c, rfl, hm, hb⟩
  exact ⟨A, _, c, rfl, hm.nm, hl, hb⟩
theorem vShl_low (z : Int) (h1 : Rd w A1 n c1 a) (hz : z < 1) : Calls Tryd.prog 75 #[.slice A1 n c1, .int .i64 z] w (P1 w n a) := by
  have hl := h1.limbs_le
  obtain ⟨b1, xs, h1, rfl⟩ := h1
  refine (shl_low w b1 A1 n c1 xs z h1 hz).mono ?_
  rintro e w' ⟨g, A, c, rfl, hm, hb⟩
  exact ⟨A, _, c, rfl, hm.nm, hl, hb⟩
theorem vShl_big (z : Int) (hz : 16777216 < z) : Calls Tryd.prog 75 #[.slice A1 n c1, .int .i64 z] w fun e w' => e = .returned (.slice none 0 0) ∧ Below w.heap.size w w' := by
  refine (shl_big w A1 n c1 z hz).mono ?_
  rintro e w' ⟨rfl, rfl⟩
  exact ⟨rfl, Below.refl _ _⟩

theorem vShlE {s r : Nat} (h1 : Rd w A1 n c1 a) (hn : n ≤ 1073741824) (hs : s ≤ 16777216) (hr : a * 2 ^ s = r) : Calls Tryd.prog 75 #[.slice A1 n c1, .int .i64 (s : Int)] w (P1 w (n + s / 32 + 1) r) := hr ▸ vShl s h1 hn hs
end

theorem blen_shl {a s : Nat} (ha : a ≠ 0) : blen (a * 2 ^ s) = blen a + s := by
  have h1 := blen_lt a
  have h2 := blen_le ha
  have h3 : blen a ≠ 0 := fun e => by rw [e] at h1; simp at h1; exact ha h1
  have hp := Nat.two_pow_pos s
  have := blen_uniq (n := a * 2 ^ s) (k := blen a - 1 + s) (by have := Nat.mul_pos (Nat.pos_of_ne_zero ha) hp; omega)
    (by rw [Nat.pow_add]; exact Nat.mul_le_mul_right _ h2)
    (by rw [show blen a - 1 + s + 1 = blen a + s by omega, Nat.pow_add]; exact Nat.mul_lt_mul_of_pos_right h1 hp)
  omega
theorem blen_pow (s : Nat) : blen (2 ^ s) = s + 1 := by
  have := blen_shl (a := 1) (s := s) (by decide)
  rw [Nat.one_mul] at this
  rw [this]
  have : blen 1 = 1 := by decide
  omega
end Go.Proofs.YteoeoppkefcmdaaDoor

/-
  Facts of values for the joint rule: whole numbers, limbs, numbers times powers of two; and what a store into a box leaves.
-/
namespace Go.Proofs.YteoeoppkefcmdaaDoor
open Go.RowKit
set_option linter.unusedVariables false

def Jo.Fact.wn (z : Int) (K : Nat) : Jo.Fact := ⟨fun v w => ∃ s A n c, v = .agg #[.bool s, .slice A n c] ∧ Wn w s A n c z ∧ n ≤ K, fun v w w' h b => by
  obtain ⟨s, A, n, c, e, h, k⟩ := h
  exact ⟨s, A, n, c, e, h.below b, k⟩⟩
def Jo.Fact.nm (a K : Nat) : Jo.Fact := ⟨fun v w => ∃ A n c, v = .slice A n c ∧ Nm w A n c a ∧ n ≤ K, fun v w w' h b => by
  obtain ⟨A, n, c, e, h, k⟩ := h
  exact ⟨A, n, c, e, h.below b, k⟩⟩
def Jo.Fact.dy (N E : Int) (K : Nat) : Jo.Fact := ⟨fun v w => ∃ s A n c, v = .agg #[.bool s, .slice A n c, .int .i64 E] ∧ Wn w s A n c N ∧ n ≤ K, fun v w w' h b => by
  obtain ⟨s, A, n, c, e, h, k⟩ := h
  exact ⟨s, A, n, c, e, h.below b, k⟩⟩
def Jo.Fact.wl (K n : Nat) (zs : List Int) : Jo.Fact := ⟨fun v w => ∃ A c, v = .slice A n c ∧ Wl w A n c K zs, fun v w w' h b => by
  obtain ⟨A, c, e, h⟩ := h
  exact ⟨A, c, e, h.below b⟩⟩

theorem Bo.at {w : World} {g : Nat} {cs : Array Value} {T : TypeId} (h : Bo w g cs T) {i : Nat} {v : Value} (e : cs[i]? = some v) : w.cell? ⟨g, i, none⟩ = some v := (h.cell i).trans e

/-- No cell is a table's byte. -/
def no8 (v : Value) : Bool := match v with
  | .int .u8 _ => false
  | _ => true
/-- The box g is stored anew, nothing else. -/
def StN (w w' : World) (g : Nat) (old new : Array Value) (T : TypeId) : Prop :=
  Bo w g old T ∧ Bo w' g new T ∧ (∀ k, k ≠ g → w'.heap[k]? = w.heap[k]?) ∧ ∀ B a, B ≤ g → Below B a w → Below B a w'
section
variable {w w' : World} {g : Nat} {old new : Array Value} {T : TypeId}
theorem StN.box (S : StN w w' g old new T) : Bo w' g new T := S.2.1
theorem StN.mk3 {a b c : Value} (X : Bo w g #[a, b, c] T) (u v t : Value) : StN w (((w.setCell ⟨g, 0, none⟩ u).setCell ⟨g, 1, none⟩ v).setCell ⟨g, 2, none⟩ t) g #[a, b, c] #[u, v, t] T :=
  ⟨X, by simpa using ((X.set 0 u).set 1 v).set 2 t, fun k hk => by rw [Below.heap_setCell _ _ _ _ hk, Below.heap_setCell _ _ _ _ hk, Below.heap_setCell _ _ _ _ hk], fun B a hg h => st3 h hg u v t⟩
theorem StN.mk2 {a b : Value} (X : Bo w g #[a, b] T) (u v : Value) : StN w ((w.setCell ⟨g, 0, none⟩ u).setCell ⟨g, 1, none⟩ v) g #[a, b] #[u, v] T :=
  ⟨X, by simpa using (X.set 0 u).set 1 v, fun k hk => by rw [Below.heap_setCell _ _ _ _ hk, Below.heap_setCell _ _ _ _ hk], fun B a hg h => st2 h hg u v⟩
theorem StN.below (S : StN w w' g old new T) {B : Nat} {a : World} (h : Below B a w) (hg : B ≤ g) : Below B a w' := S.2.2.2 B a hg h
theorem Bo.stn {k : Nat} {cs : Array Value} {R : TypeId} (X : Bo w k cs R) (S : StN w w' g old new T) (h : k ≠ g) : Bo w' k cs R := X.keep (S.2.2.1 k h)
theorem sl_stn {b : Nat} {B : Option Addr} {m d : Nat} {xs : List Nat} (h : Sl w b B m d xs) (S : StN w w' g old new T) (hn : old.all no32 = true) : Sl w' b B m d xs :=
  h.keep fun hm => S.2.2.1 _ (fun e => by
    obtain ⟨o, _, hc⟩ := h.at hm
    have := hc 0 hm
    rw [e] at this
    exact S.1.no hn this)
theorem Nm.stn {B : Option Addr} {m d a : Nat} (h : Nm w B m d a) (S : StN w w' g old new T) (hn : old.all no32 = true) : Nm w' B m d a := by
  obtain ⟨b, h⟩ := h
  exact ⟨b, sl_stn h S hn⟩
theorem Rd.stn {B : Option Addr} {m d a : Nat} (h : Rd w B m d a) (S : StN w w' g old new T) (hn : old.all no32 = true) : Rd w' B m d a := by
  obtain ⟨b, xs, h, e⟩ := h
  exact ⟨b, xs, sl_stn h S hn, e⟩
theorem Wn.stn {s : Bool} {B : Option Addr} {m d : Nat} {z : Int} (h : Wn w s B m d z) (S : StN w w' g old new T) (hn : old.all no32 = true) : Wn w' s B m d z := ⟨h.1.stn S hn, h.2⟩
theorem Wr.stn {s : Bool} {B : Option Addr} {m d : Nat} {z : Int} (h : Wr w s B m d z) (S : StN w w' g old new T) (hn : old.all no32 = true) : Wr w' s B m d z := by
  obtain ⟨a, h, e⟩ := h
  exact ⟨a, h.stn S hn, e⟩
theorem Tab.stn (h : Tab w) (S : StN w w' g old new T) (hn : old.all no8 = true) : Tab w' := h.keep (S.2.2.1 _ (fun e => by
  have h0 := h 0 (by decide)
  subst e
  rw [S.1.cell] at h0
  rw [Array.all_eq_true] at hn
  obtain ⟨hlt, he⟩ := Array.getElem?_eq_some_iff.1 h0
  have := hn 0 hlt
  rw [he] at this
  cases this))
end
theorem vShlZ {w : World} {A1 : Option Addr} {n c1 a : Nat} {z : Int} {r : Nat} (h1 : Rd w A1 n c1 a) (hn : n ≤ 1073741824) (hz0 : 0 ≤ z) (hz : z ≤ 16777216) (hr : a * 2 ^ z.toNat = r) : Calls Tryd.prog 75 #[.slice A1 n c1, .int .i64 z] w (P1 w (n + z.toNat / 32 + 1) r) := by
  subst hr
  obtain ⟨k, rfl⟩ := Int.eq_ofNat_of_zero_le hz0
  have := vShl k h1 hn (by omega)
  simpa using this
theorem sg_times {w : World} {s : Bool} {A : Option Addr} {n c : Nat} {N : Int} {p m : Nat} {B : Option Addr} {d : Nat} {w' : World} (h : Wn w s A n c N) (hp : 0 < p) (k : Nm w' B m d (N.natAbs * p)) : Wn w' s B m d (N * (p : Int)) := by
  refine ⟨by rwa [Int.natAbs_mul, Int.natAbs_natCast], ?_⟩
  rw [h.2, decide_eq_decide]
  constructor
  · intro hh; exact Int.mul_neg_of_neg_of_pos hh (by omega)
  · intro hh
    by_cases e : N < 0
    · exact e
    · exact absurd hh (Int.not_lt.2 (Int.mul_nonneg (by omega) (by omega)))
end Go.Proofs.YteoeoppkefcmdaaDoor

/-
  What dy.times and dy.highest do.
-/
namespace Go.Proofs.YteoeoppkefcmdaaDoor
open Go.RowKit
set_option linter.unusedVariables false

set_option maxHeartbeats 2000000 in
theorem dTimes {w : World} {A : Option Addr} {n c : Nat} {s : Bool} {N E low r : Int} (h : Wn w s A n c N) (hn : n ≤ 100000) (h0 : low ≤ E) (h1 : E - low ≤ 8388608) (hr : N * ((2 ^ (E - low).toNat : Nat) : Int) = r) :
    Calls Tryd.prog 56 #[.agg #[.bool s, .slice A n c, .int .i64 E], .int .i64 low] w (W1 w (n + (E - low).toNat / 32 + 1) r) := by
  have HR := Lib.hid hr
  clear hr
  obtain ⟨d, hd⟩ : ∃ d, E - low = d := ⟨_, rfl⟩
  have HW : Hid (IntKind.i64.wrap (E - low) = d) := Lib.hid (by rw [hd]; exact IntWalk.i64_in _ (by omega))
  rw [hd] at h1
  have hd0 : 0 ≤ d := by omega
  rw [hd] at HR ⊢
  clear hd h0
  go_enter Tryd.func56, Tryd.ntmps56
  go_wp2_with fail
  have X1 := (Bo.new w #[.bool s, .slice A n c, .int .i64 E] 27).below (bel1 _ (.cells #[.bool false, .slice none 0 0] 24))
  have XR := Bo.newAt (w.alloc (.cells #[.bool s, .slice A n c, .int .i64 E] 27)) (g := w.heap.size + 1) (by simp) #[.bool false, .slice none 0 0] 24
  replace h := h.below (bel2 w (.cells #[.bool s, .slice A n c, .int .i64 E] 27) (.cells #[.bool false, .slice none 0 0] 24))
  have HB := Lib.hid (bel2 w (.cells #[.bool s, .slice A n c, .int .i64 E] 27) (.cells #[.bool false, .slice none 0 0] 24))
  generalize hW1 : (w.alloc (.cells #[.bool s, .slice A n c, .int .i64 E] 27)).alloc (.cells #[.bool false, .slice none 0 0] 24) = w1 at *
  clear hW1
  go_wp2
  refine Jo.region_joint (T := [0, 1, 2, 3, 4, 5, 6, 7, 8, 9, 10, 11]) (ds := [some 5, some 6, some 7, some 8, some 9, some 10, some 11, some 12, some 13, some 14, some 15, some 16, none]) (ls := [[], [0], [1], [], [3], [4], [], [6], [], [7, 8], [5, 9], [2, 10], []]) (k := 13) (L := [(some 5, 0), (some 6, 1), (some 7, 2), (some 8, 3), (some 9, 4), (some 10, 5), (some 11, 6), (some 12, 7), (some 13, 8), (some 14, 9), (some 15, 10), (some 16, 11)]) (fuel := 1) (J := fun wj => Below (World.heap w1).size w1 wj)
    (F := [Jo.Fact.eq (.pointer (some ⟨w.heap.size, 0, none⟩)), Jo.Fact.eq (.pointer (some ⟨w.heap.size, 0, none⟩)), Jo.Fact.eq (.bool s), Jo.Fact.eq (.pointer (some ⟨w.heap.size, 0, none⟩)), Jo.Fact.eq (.pointer (some ⟨w.heap.size, 1, none⟩)), Jo.Fact.eq (.slice A n c), Jo.Fact.eq (.pointer (some ⟨w.heap.size, 2, none⟩)), Jo.Fact.eq (.int .i64 E), Jo.Fact.eq (.int .i64 low), Jo.Fact.eq (.int .i64 d), Jo.Fact.nm (N.natAbs * 2 ^ d.toNat) (n + d.toNat / 32 + 1), Jo.Fact.wn r (n + d.toNat / 32 + 1), Jo.Fact.any])
    (by kernel_rfl) (by kernel_rfl) (by decide) rfl rfl (fun _ _ h b => bt h b) ((Below.refl _ _).drew) ?_ (fun vs w2 hJ hd => ?_)
  · refine Jo.jcons (i := 0) (o := ⟨some 5, _, _, _, _, _⟩) (di := some 5) (L := []) (f := Jo.Fact.eq (.pointer (some ⟨w.heap.size, 0, none⟩))) rfl rfl rfl rfl (fun vs wj hJ hd K hK => ?_) ?_
    · clear hd
      simp only [Jo.putl, List.foldl_nil, Act.put, List.setIfInBounds_toArray, List.set_cons_zero, List.set_cons_succ] at hK ⊢
      go_simp
      exact hK.out _ _ rfl (Below.refl _ _)
    refine Jo.jcons (i := 1) (o := ⟨some 6, _, _, _, _, _⟩) (di := some 6) (L := [(some 5, 0)]) (f := Jo.Fact.eq (.pointer (some ⟨w.heap.size, 0, none⟩))) rfl rfl rfl rfl (fun vs wj hJ hd K hK => ?_) ?_
    · have d0 : (Jo.Fact.eq (.pointer (some ⟨w.heap.size, 0, none⟩))).P (vs 0) wj := hd 0 (by decide)
      clear hd
      simp only [Jo.putl, List.foldl_cons, List.foldl_nil, Act.put, List.setIfInBounds_toArray, List.set_cons_zero, List.set_cons_succ] at hK ⊢
      generalize vs 0 = u0 at hK d0 ⊢
      replace d0 : u0 = _ := d0
      subst d0
      go_simp
      exact hK.out _ _ rfl (Below.refl _ _)
    refine Jo.jcons (i := 2) (o := ⟨some 7, _, _, _, _, _⟩) (di := some 7) (L := [(some 6, 1)]) (f := Jo.Fact.eq (.bool s)) rfl rfl rfl rfl (fun vs wj hJ hd K hK => ?_) ?_
    · have d1 : (Jo.Fact.eq (.pointer (some ⟨w.heap.size, 0, none⟩))).P (vs 1) wj := hd 1 (by decide)
      clear hd
      simp only [Jo.putl, List.foldl_cons, List.foldl_nil, Act.put, List.setIfInBounds_toArray, List.set_cons_zero, List.set_cons_succ] at hK ⊢
      generalize vs 1 = u1 at hK d1 ⊢
      replace d1 : u1 = _ := d1
      subst d1
      have xX10 : World.cell? wj ⟨w.heap.size, 0, none⟩ = some (.bool s) := (X1.below hJ).cell 0
      have xX11 : World.cell? wj ⟨w.heap.size, 1, none⟩ = some (.slice A n c) := (X1.below hJ).cell 1
      have xX12 : World.cell? wj ⟨w.heap.size, 2, none⟩ = some (.int .i64 E) := (X1.below hJ).cell 2
      go_simp
      exact hK.out _ _ rfl (Below.refl _ _)
    refine Jo.jcons (i := 3) (o := ⟨some 8, _, _, _, _, _⟩) (di := some 8) (L := []) (f := Jo.Fact.eq (.pointer (some ⟨w.heap.size, 0, none⟩))) rfl rfl rfl rfl (fun vs wj hJ hd K hK => ?_) ?_
    · clear hd
      simp only [Jo.putl, List.foldl_nil, Act.put, List.setIfInBounds_toArray, List.set_cons_zero, List.set_cons_succ] at hK ⊢
      go_simp
      exact hK.out _ _ rfl (Below.refl _ _)
    refine Jo.jcons (i := 4) (o := ⟨some 9, _, _, _, _, _⟩) (di := some 9) (L := [(some 8, 3)]) (f := Jo.Fact.eq (.pointer (some ⟨w.heap.size, 1, none⟩))) rfl rfl rfl rfl (fun vs wj hJ hd K hK => ?_) ?_
    · have d3 : (Jo.Fact.eq (.pointer (some ⟨w.heap.size, 0, none⟩))).P (vs 3) wj := hd 3 (by decide)
      clear hd
      simp only [Jo.putl, List.foldl_cons, List.foldl_nil, Act.put, List.setIfInBounds_toArray, List.set_cons_zero, List.set_cons_succ] at hK ⊢
      generalize vs 3 = u3 at hK d3 ⊢
      replace d3 : u3 = _ := d3
      subst d3
      go_simp
      exact hK.out _ _ rfl (Below.refl _ _)
    refine Jo.jcons (i := 5) (o := ⟨some 10, _, _, _, _, _⟩) (di := some 10) (L := [(some 9, 4)]) (f := Jo.Fact.eq (.slice A n c)) rfl rfl rfl rfl (fun vs wj hJ hd K hK => ?_) ?_
    · have d4 : (Jo.Fact.eq (.pointer (some ⟨w.heap.size, 1, none⟩))).P (vs 4) wj := hd 4 (by decide)
      clear hd
      simp only [Jo.putl, List.foldl_cons, List.foldl_nil, Act.put, List.setIfInBounds_toArray, List.set_cons_zero, List.set_cons_succ] at hK ⊢
      generalize vs 4 = u4 at hK d4 ⊢
      replace d4 : u4 = _ := d4
      subst d4
      have xX10 : World.cell? wj ⟨w.heap.size, 0, none⟩ = some (.bool s) := (X1.below hJ).cell 0
      have xX11 : World.cell? wj ⟨w.heap.size, 1, none⟩ = some (.slice A n c) := (X1.below hJ).cell 1
      have xX12 : World.cell? wj ⟨w.heap.size, 2, none⟩ = some (.int .i64 E) := (X1.below hJ).cell 2
      go_simp
      exact hK.out _ _ rfl (Below.refl _ _)
    refine Jo.jcons (i := 6) (o := ⟨some 11, _, _, _, _, _⟩) (di := some 11) (L := []) (f := Jo.Fact.eq (.pointer (some ⟨w.heap.size, 2, none⟩))) rfl rfl rfl rfl (fun vs wj hJ hd K hK => ?_) ?_
    · clear hd
      simp only [Jo.putl, List.foldl_nil, Act.put, List.setIfInBounds_toArray, List.set_cons_zero, List.set_cons_succ] at hK ⊢
      go_simp
      exact hK.out _ _ rfl (Below.refl _ _)
    refine Jo.jcons (i := 7) (o := ⟨some 12, _, _, _, _, _⟩) (di := some 12) (L := [(some 11, 6)]) (f := Jo.Fact.eq (.int .i64 E)) rfl rfl rfl rfl (fun vs wj hJ hd K hK => ?_) ?_
    · have d6 : (Jo.Fact.eq (.pointer (some ⟨w.heap.size, 2, none⟩))).P (vs 6) wj := hd 6 (by decide)
      clear hd
      simp only [Jo.putl, List.foldl_cons, List.foldl_nil, Act.put, List.setIfInBounds_toArray, List.set_cons_zero, List.set_cons_succ] at hK ⊢
      generalize vs 6 = u6 at hK d6 ⊢
      replace d6 : u6 = _ := d6
      subst d6
      have xX10 : World.cell? wj ⟨w.heap.size, 0, none⟩ = some (.bool s) := (X1.below hJ).cell 0
      have xX11 : World.cell? wj ⟨w.heap.size, 1, none⟩ = some (.slice A n c) := (X1.below hJ).cell 1
      have xX12 : World.cell? wj ⟨w.heap.size, 2, none⟩ = some (.int .i64 E) := (X1.below hJ).cell 2
      go_simp
      exact hK.out _ _ rfl (Below.refl _ _)
    refine Jo.jcons (i := 8) (o := ⟨some 13, _, _, _, _, _⟩) (di := some 13) (L := []) (f := Jo.Fact.eq (.int .i64 low)) rfl rfl rfl rfl (fun vs wj hJ hd K hK => ?_) ?_
    · clear hd
      simp only [Jo.putl, List.foldl_nil, Act.put, List.setIfInBounds_toArray, List.set_cons_zero, List.set_cons_succ] at hK ⊢
      go_simp
      exact hK.out _ _ rfl (Below.refl _ _)
    refine Jo.jcons (i := 9) (o := ⟨some 14, _, _, _, _, _⟩) (di := some 14) (L := [(some 12, 7), (some 13, 8)]) (f := Jo.Fact.eq (.int .i64 d)) rfl rfl rfl rfl (fun vs wj hJ hd K hK => ?_) ?_
    · have d7 : (Jo.Fact.eq (.int .i64 E)).P (vs 7) wj := hd 7 (by decide)
      have d8 : (Jo.Fact.eq (.int .i64 low)).P (vs 8) wj := hd 8 (by decide)
      clear hd
      simp only [Jo.putl, List.foldl_cons, List.foldl_nil, Act.put, List.setIfInBounds_toArray, List.set_cons_zero, List.set_cons_succ] at hK ⊢
      generalize vs 7 = u7 at hK d7 ⊢
      generalize vs 8 = u8 at hK d8 ⊢
      replace d7 : u7 = _ := d7
      subst d7
      replace d8 : u8 = _ := d8
      subst d8
      have hw := HW.out
      go_simp
      exact hK.out _ _ rfl (Below.refl _ _)
    refine Jo.jcons (i := 10) (o := ⟨some 15, _, _, _, _, _⟩) (di := some 15) (L := [(some 10, 5), (some 14, 9)]) (f := Jo.Fact.nm (N.natAbs * 2 ^ d.toNat) (n + d.toNat / 32 + 1)) rfl rfl rfl rfl (fun vs wj hJ hd K hK => ?_) ?_
    · have d5 : (Jo.Fact.eq (.slice A n c)).P (vs 5) wj := hd 5 (by decide)
      have d9 : (Jo.Fact.eq (.int .i64 d)).P (vs 9) wj := hd 9 (by decide)
      clear hd
      simp only [Jo.putl, List.foldl_cons, List.foldl_nil, Act.put, List.setIfInBounds_toArray, List.set_cons_zero, List.set_cons_succ] at hK ⊢
      generalize vs 5 = u5 at hK d5 ⊢
      generalize vs 9 = u9 at hK d9 ⊢
      replace d5 : u5 = _ := d5
      subst d5
      replace d9 : u9 = _ := d9
      subst d9
      go_simp
      refine (vShlZ (h.below hJ).1.rd (by omega) hd0 (by omega) rfl).mono ?_
      rintro ee wk ⟨A3, n3, c3, rfl, p3, k3, B⟩
      exact hK.out _ _ ⟨A3, n3, c3, rfl, p3, k3⟩ B
    refine Jo.jcons (i := 11) (o := ⟨some 16, _, _, _, _, _⟩) (di := some 16) (L := [(some 7, 2), (some 15, 10)]) (f := Jo.Fact.wn r (n + d.toNat / 32 + 1)) rfl rfl rfl rfl (fun vs wj hJ hd K hK => ?_) ?_
    · have d2 : (Jo.Fact.eq (.bool s)).P (vs 2) wj := hd 2 (by decide)
      have d10 : (Jo.Fact.nm (N.natAbs * 2 ^ d.toNat) (n + d.toNat / 32 + 1)).P (vs 10) wj := hd 10 (by decide)
      clear hd
      simp only [Jo.putl, List.foldl_cons, List.foldl_nil, Act.put, List.setIfInBounds_toArray, List.set_cons_zero, List.set_cons_succ] at hK ⊢
      generalize vs 2 = u2 at hK d2 ⊢
      generalize vs 10 = u10 at hK d10 ⊢
      replace d2 : u2 = _ := d2
      subst d2
      obtain ⟨A3, n3, c3, rfl, p3, k3⟩ := d10
      go_simp
      exact hK.out _ _ ⟨s, A3, n3, c3, rfl, HR.out ▸ sg_times h (Nat.pow_pos (by decide)) p3, k3⟩ (Below.refl _ _)
    exact Jo.Steps.nil
  have d0 : (Jo.Fact.eq (.pointer (some ⟨w.heap.size, 0, none⟩))).P (vs 0) w2 := hd 0 (by decide)
  have d1 : (Jo.Fact.eq (.pointer (some ⟨w.heap.size, 0, none⟩))).P (vs 1) w2 := hd 1 (by decide)
  have d2 : (Jo.Fact.eq (.bool s)).P (vs 2) w2 := hd 2 (by decide)
  have d3 : (Jo.Fact.eq (.pointer (some ⟨w.heap.size, 0, none⟩))).P (vs 3) w2 := hd 3 (by decide)
  have d4 : (Jo.Fact.eq (.pointer (some ⟨w.heap.size, 1, none⟩))).P (vs 4) w2 := hd 4 (by decide)
  have d5 : (Jo.Fact.eq (.slice A n c)).P (vs 5) w2 := hd 5 (by decide)
  have d6 : (Jo.Fact.eq (.pointer (some ⟨w.heap.size, 2, none⟩))).P (vs 6) w2 := hd 6 (by decide)
  have d7 : (Jo.Fact.eq (.int .i64 E)).P (vs 7) w2 := hd 7 (by decide)
  have d8 : (Jo.Fact.eq (.int .i64 low)).P (vs 8) w2 := hd 8 (by decide)
  have d9 : (Jo.Fact.eq (.int .i64 d)).P (vs 9) w2 := hd 9 (by decide)
  have d10 : (Jo.Fact.nm (N.natAbs * 2 ^ d.toNat) (n + d.toNat / 32 + 1)).P (vs 10) w2 := hd 10 (by decide)
  have d11 : (Jo.Fact.wn r (n + d.toNat / 32 + 1)).P (vs 11) w2 := hd 11 (by decide)
  clear hd
  simp only [Jo.putl, List.foldl_cons, List.foldl_nil, Act.put, List.setIfInBounds_toArray, List.set_cons_zero, List.set_cons_succ]
  generalize vs 0 = u0 at d0 ⊢
  generalize vs 1 = u1 at d1 ⊢
  generalize vs 2 = u2 at d2 ⊢
  generalize vs 3 = u3 at d3 ⊢
  generalize vs 4 = u4 at d4 ⊢
  generalize vs 5 = u5 at d5 ⊢
  generalize vs 6 = u6 at d6 ⊢
  generalize vs 7 = u7 at d7 ⊢
  generalize vs 8 = u8 at d8 ⊢
  generalize vs 9 = u9 at d9 ⊢
  generalize vs 10 = u10 at d10 ⊢
  generalize vs 11 = u11 at d11 ⊢
  clear vs
  replace d0 : u0 = _ := d0
  subst d0
  replace d1 : u1 = _ := d1
  subst d1
  replace d2 : u2 = _ := d2
  subst d2
  replace d3 : u3 = _ := d3
  subst d3
  replace d4 : u4 = _ := d4
  subst d4
  replace d5 : u5 = _ := d5
  subst d5
  replace d6 : u6 = _ := d6
  subst d6
  replace d7 : u7 = _ := d7
  subst d7
  replace d8 : u8 = _ := d8
  subst d8
  replace d9 : u9 = _ := d9
  subst d9
  obtain ⟨A3, n3, c3, rfl, p3, k3⟩ := d10
  obtain ⟨s4, A4, n4, c4, rfl, p4, k4⟩ := d11
  replace X1 := X1.below hJ
  replace XR := XR.below hJ
  replace h := h.below hJ
  replace HB := Lib.hid (bt HB.out hJ)
  have xXR0 := XR.at (i := 0) (v := .bool false) rfl
  have zXR0 := XR.frozen 0
  have xXR1 := XR.at (i := 1) (v := .slice none 0 0) rfl
  have zXR1 := XR.frozen 1
  refine Jo.jnext (i := 12) (o := ⟨none, _, _, _, _, _⟩) (by kernel_rfl) rfl (fun K hK => ?_)
  go_simp
  refine hK.out _ _ ?_
  clear hK K xXR0 zXR0 xXR1 zXR1
  have SX := StN.mk2 XR (.bool s4) (.slice A4 n4 c4)
  replace X1 := X1.stn SX (by omega)
  replace h := h.stn SX (by simp [no32])
  replace p4 := p4.stn SX (by simp [no32])
  replace HB := Lib.hid (SX.below HB.out (by omega))
  replace XR := SX.box
  clear SX
  generalize (World.setCell (World.setCell w2 ⟨w.heap.size + 1, 0, none⟩ (.bool s4)) ⟨w.heap.size + 1, 1, none⟩ (.slice A4 n4 c4)) = w3 at *
  refine Jo.jdone (by kernel_rfl) ?_
  go_wp2
  have r0 := XR.cell 0
  have r1 := XR.cell 1
  exact bodyPost_ret (v := .agg #[.bool s4, .slice A4 n4 c4]) (by simp [results, Tryd.results56, go_sem, r0, r1]) rfl ⟨s4, A4, n4, c4, rfl, p4, k4, HB.out⟩
end Go.Proofs.YteoeoppkefcmdaaDoor

/-
  What whole.sum, Add and Sub do, for numbers of at most 2^30 limbs.
-/
namespace Go.Proofs.YteoeoppkefcmdaaDoor
open Go.RowKit
set_option linter.unusedVariables false

set_option maxHeartbeats 1000000 in
theorem wSum {w : World} {A B : Option Addr} {n c m d a b : Nat} (s t : Bool) {r : Int} (h : Rd w A n c a) (k : Rd w B m d b) (hn : n ≤ 1073741824) (hm : m ≤ 1073741824) (hr : sg s a + sg t b = r) :
    Calls Tryd.prog 64 #[.bool s, .slice A n c, .bool t, .slice B m d] w (W1 w (n + m + 1) r) := by
  by_cases hs : s = t
  · subst hs
    have HR : Hid (sg s (a + b) = r) := Lib.hid (by rw [← hr]; cases s <;> simp [sg] <;> omega)
    have hq : (s == s) = true := by simp
    clear hr
    go_enter Tryd.func64, Tryd.ntmps64
    go_wp2_with (first
      | (go_at_call 57; ((with_reducible refine (vAdd (h.below (bel1 _ _)) (k.below (bel1 _ _)) hn hm).mono ?_); rintro e w1 ⟨A1, n1, c1, rfl, h1, k1, B1⟩))
      | (go_at_call 73; ((with_reducible refine (wSigned s h1).mono ?_); rintro e w2 ⟨s2, A2, n2, c2, rfl, h2, k2, B2⟩; obtain ⟨hc, hf⟩ := bcell (bt B1 B2))))
    have X := (Bx.new w false none 0 0).below (bt B1 B2)
    exact bodyPost_ret (v := .agg #[.bool s2, .slice A2 n2 c2]) (by simp [results, Tryd.results64, go_sem, X.cell0, X.cell1]) rfl ⟨s2, A2, n2, c2, rfl, HR.out ▸ h2.st X _ _, by omega, st2 (bt (bel1 _ _) (bt B1 B2)) (Nat.le_refl _) _ _⟩
  · have hq : (s == t) = false := by simpa using hs
    have hs' : t = !s := by cases s <;> cases t <;> simp_all
    by_cases hab : b ≤ a
    · have HR : Hid (sg s (a - b) = r) := Lib.hid (by rw [← hr, hs']; cases s <;> simp [sg] <;> omega)
      have HS := Lib.hid hs
      clear hr hs' hs
      go_enter Tryd.func64, Tryd.ntmps64
      go_wp2_with (first
        | (go_at_call 81; ((with_reducible refine (vSub (h.below (bel1 _ _)) (k.below (bel1 _ _)) hab).mono ?_); rintro e w1 ⟨A1, n1, c1, rfl, h1, k1, B1⟩))
        | (go_at_call 73; ((with_reducible refine (wSigned s h1).mono ?_); rintro e w2 ⟨s2, A2, n2, c2, rfl, h2, k2, B2⟩; obtain ⟨hc, hf⟩ := bcell (bt B1 B2))))
      have X := (Bx.new w false none 0 0).below (bt B1 B2)
      exact bodyPost_ret (v := .agg #[.bool s2, .slice A2 n2 c2]) (by simp [results, Tryd.results64, go_sem, X.cell0, X.cell1]) rfl ⟨s2, A2, n2, c2, rfl, HR.out ▸ h2.st X _ _, by omega, st2 (bt (bel1 _ _) (bt B1 B2)) (Nat.le_refl _) _ _⟩
    · have HR : Hid (sg t (b - a) = r) := Lib.hid (by rw [← hr, hs']; cases s <;> simp [sg] <;> omega)
      have HS := Lib.hid hs
      have hlt : a < b := by omega
      have hle : a ≤ b := by omega
      clear hr hs' hs hab
      go_enter Tryd.func64, Tryd.ntmps64
      go_wp2_with (first
        | (go_at_call 81; ((with_reducible refine (vSub_lt (h.below (bel1 _ _)) (k.below (bel1 _ _)) hlt).mono ?_); rintro e w0 ⟨rfl, B0⟩))
        | (go_at_call 81; ((with_reducible refine (vSub (k.below (bt (bel1 _ _) B0)) (h.below (bt (bel1 _ _) B0)) hle).mono ?_); rintro e w1 ⟨A1, n1, c1, rfl, h1, k1, B1⟩))
        | (go_at_call 73; ((with_reducible refine (wSigned t h1).mono ?_); rintro e w2 ⟨s2, A2, n2, c2, rfl, h2, k2, B2⟩; obtain ⟨hc, hf⟩ := bcell (bt B0 (bt B1 B2)))))
      have X := (Bx.new w false none 0 0).below (bt B0 (bt B1 B2))
      exact bodyPost_ret (v := .agg #[.bool s2, .slice A2 n2 c2]) (by simp [results, Tryd.results64, go_sem, X.cell0, X.cell1]) rfl ⟨s2, A2, n2, c2, rfl, HR.out ▸ h2.st X _ _, by omega, st2 (bt (bel1 _ _) (bt B0 (bt B1 B2))) (Nat.le_refl _) _ _⟩

set_option maxHeartbeats 400000 in
theorem wAdd {w : World} {A B : Option Addr} {n c m d : Nat} {s t : Bool} {x y r : Int} (h : Wr w s A n c x) (k : Wr w t B m d y) (hn : n ≤ 1073741824) (hm : m ≤ 1073741824) (hr : x + y = r) :
    Calls Tryd.prog 34 #[.agg #[.bool s, .slice A n c], .agg #[.bool t, .slice B m d]] w (W1 w (n + m + 1) r) := by
  obtain ⟨a, h, e1⟩ := h
  obtain ⟨b, k, e2⟩ := k
  have HR : Hid (sg s a + sg t b = r) := Lib.hid (by rw [← hr, e1, e2])
  clear hr e1 e2
  go_enter Tryd.func34, Tryd.ntmps34
  go_wp2_with (first
    | (go_at_call 64; ((with_reducible refine (wSum s t (h.below (bel3 _ _ _ _)) (k.below (bel3 _ _ _ _)) hn hm HR.out).mono ?_); rintro e w2 ⟨s2, A2, n2, c2, rfl, h2, k2, B2⟩; obtain ⟨hc, hf⟩ := bcell B2)))
  have X : Bx w2 (w.heap.size + 2) false none 0 0 := (Bx.newAt _ (by simp) false none 0 0).below B2
  exact bodyPost_ret (v := .agg #[.bool s2, .slice A2 n2 c2]) (by simp [results, Tryd.results34, go_sem, X.cell0, X.cell1]) rfl ⟨s2, A2, n2, c2, rfl, h2.st X _ _, k2, st2 (bt (bel3 _ _ _ _) B2) (by omega) _ _⟩

end Go.Proofs.YteoeoppkefcmdaaDoor

/-
  What whole.word and Int do.
-/
namespace Go.Proofs.YteoeoppkefcmdaaDoor
open Go.RowKit
set_option linter.unusedVariables false

theorem val_int {k : IntKind} {a b : Int} (h : a = b) : Value.int k a = .int k b := by rw [h]
theorem or_lo (x y : Nat) (hx : x < 4294967296) (hy : y < 4294967296) : bits BinOp.or IntKind.u64 (y : Int) ((x : Int) * 4294967296) = ((y + x * 4294967296 : Nat) : Int) := by
  have := u64_or_nat y (x * 4294967296) (by omega) (by omega)
  rw [Nat.or_comm, nat_join 32 _ _ (by omega) hy] at this
  rw [show y + x * 4294967296 = x * 4294967296 + y by omega]
  simpa using this

set_option maxHeartbeats 400000 in
theorem word_any (w : World) (b : Nat) (A : Option Addr) (n c : Nat) (xs : List Nat) (h : Sl w b A n c xs) (hn : n ≤ 2) :
    Calls Tryd.prog 66 #[.slice A n c] w fun e w' => e = .returned (.int .u64 (val xs : Nat)) ∧ w = w' := by
  have hc := h.cap
  go_enter Tryd.func66, Tryd.ntmps66
  go_wp2
  go_loop [3, 8] (fun u i => ∃ k : Nat, k ≤ n ∧ i = .int .i64 k ∧ u = .int .u64 (val (xs.take k) : Nat)) (fun _ i => n - (intOf i).toNat)
  case atStart => exact ⟨0, Nat.zero_le _, rfl, rfl⟩
  case round =>
    obtain ⟨k, hk, rfl, rfl⟩ := hrel
    by_cases hlt : k < n
    · obtain ⟨o, rfl, hcell⟩ := h.at (by omega)
      have hck := hcell k hlt
      have hx := h.lim.getD k
      have HV := Lib.hid (val_take_more xs k)
      clear hcell
      rcases (by omega : k = 0 ∨ k = 1) with rfl | rfl
      · revert hck hx HV
        generalize xs.getD 0 0 = x
        intro hck hx HV
        simp only [Nat.add_zero] at hck
        have hor : bits BinOp.or IntKind.u64 0 (x : Int) = x := by have := u64_or_nat 0 x (by omega) (by omega); simpa using this
        have e0 : ((val (List.take 0 xs) : Nat) : Int) = 0 := rfl
        have c0 : ((0 : Nat) : Int) = 0 := rfl
        rw [e0, c0]
        go_wp2
        go_round
        case rel => exact ⟨1, by omega, rfl, by rw [HV.out]; simp [val]⟩
        case measure => simp [intOf]; omega
      · revert hck hx HV
        generalize xs.getD 1 0 = x
        intro hck hx HV
        have c1 : ((1 : Nat) : Int) = 1 := rfl
        rw [c1]
        have hy := val_lt (h.lim.take 1)
        rw [List.length_take, h.len, Nat.min_eq_left (by omega)] at hy
        revert hy HV
        generalize val (List.take 1 xs) = y
        intro HV hy
        have hor := or_lo x y hx (by simpa using hy)
        have hb : y + x * 4294967296 < 18446744073709551616 := by omega
        go_wp2
        go_round
        case rel => exact ⟨2, by omega, rfl, val_int (by have : val (List.take 2 xs) = y + 4294967296 ^ 1 * x := HV.out; omega)⟩
        case measure => simp [intOf]; omega
    · obtain rfl : k = n := by omega
      have HT : Hid (val (xs.take k) = val xs) := Lib.hid (val_take_all (by rw [h.len]; omega))
      go_wp2
      go_ret
      exact ⟨ret_int (by rw [HT.out]), rfl⟩

theorem vWord {w : World} {A : Option Addr} {n c a : Nat} (h : Nm w A n c a) (ha : a < 18446744073709551616) : Calls Tryd.prog 66 #[.slice A n c] w fun e w' => e = .returned (.int .u64 (a : Nat)) ∧ w = w' := by
  have hl := h.len
  have h2 : (limbs a).length ≤ 2 := limbs_length_le (by simpa using ha)
  obtain ⟨b, h⟩ := h
  have := word_any w b A n c (limbs a) h (by omega)
  rwa [val_limbs] at this
theorem vWordZ {w : World} {A : Option Addr} {n c a : Nat} {z : Int} (h : Nm w A n c a) (ha : a < 18446744073709551616) (hz : (a : Int) = z) : Calls Tryd.prog 66 #[.slice A n c] w fun e w' => e = .returned (.int .u64 z) ∧ w = w' := hz ▸ vWord h ha
theorem i64_neg (a : Nat) (h : a ≤ 9223372036854775808) : IntKind.i64.wrap (IntKind.u64.wrap (-(a : Int))) = -(a : Int) := by
  simp [IntKind.wrap, IntKind.signed, IntKind.bits]
  omega
theorem ret_ib {k : IntKind} {a b : Int} {s t : Bool} (h : a = b) (e : s = t) : Ending.returned (.tuple #[.int k a, .bool s]) = .returned (.tuple #[.int k b, .bool t]) := by rw [h, e]

set_option maxHeartbeats 1000000 in
theorem int_big {w : World} {A : Option Addr} {n c a : Nat} (s : Bool) (h : Rd w A n c a) (ha : 64 < blen a) : Calls Tryd.prog 37 #[.agg #[.bool s, .slice A n c]] w (PIB w 0 false) := by
  have hb : blen a ≤ 35184372088832 := by have := h.blen_le; have := h.big; omega
  go_enter Tryd.func37, Tryd.ntmps37
  go_wp2_with (first
    | (go_at_call 65; ((with_reducible refine (vLen (h.below (bel1 _ _))).mono ?_); rintro e w1 ⟨rfl, B1⟩)))
  go_ret2
  exact ⟨rfl, bt (bel1 _ _) B1⟩
set_option maxHeartbeats 1000000 in
theorem int_small {w : World} {A : Option Addr} {n c a : Nat} (s : Bool) (h : Rd w A n c a) (hb : blen a ≤ 64) : Calls Tryd.prog 37 #[.agg #[.bool s, .slice A n c]] w (PIB w (if (s = true ∧ a ≤ 9223372036854775808) ∨ (s = false ∧ a < 9223372036854775808) then sg s a else 0) (decide ((s = true ∧ a ≤ 9223372036854775808) ∨ (s = false ∧ a < 9223372036854775808)))) := by
  have ha : a < 18446744073709551616 := Nat.lt_of_lt_of_le (blen_lt a) (Nat.pow_le_pow_right (n := 2) (j := 64) (by decide) hb)
  have HA := Lib.hid ha
  clear ha
  cases s
  · by_cases h3 : a < 9223372036854775808
    · rw [if_pos (by simp [h3]), decide_eq_true (by simp [h3])]
      obtain ⟨z, hz⟩ : ∃ z : Int, (a : Int) = z := ⟨_, rfl⟩
      have hz0 : 0 ≤ z := by omega
      have hz1 : z < 9223372036854775808 := by omega
      have hz2 : z ≤ 9223372036854775807 := by omega
      have HZ := Lib.hid hz
      clear h3 hz
      go_enter Tryd.func37, Tryd.ntmps37
      go_wp2_with (first
        | (go_at_call 65; ((with_reducible refine (vLen (h.below (bel1 _ _))).mono ?_); rintro e w1 ⟨rfl, B1⟩; obtain ⟨hc, hf⟩ := bcell B1))
        | (go_at_call 67; ((with_reducible refine (vTrim (h.below (bt (bel1 _ _) B1))).mono ?_); rintro e w2 ⟨A1, n1, c1, rfl, h1, k1, B2⟩; clear hc hf; obtain ⟨hc, hf⟩ := bcell (bt B1 B2)))
        | (go_at_call 66; ((with_reducible refine (vWordZ h1 HA.out HZ.out).mono ?_); rintro e w2 ⟨rfl, rfl⟩)))
      go_ret2
      exact ⟨ret_ib HZ.out.symm rfl, bt (bel1 _ _) (bt B1 B2)⟩
    · rw [if_neg (by simp [h3]), decide_eq_false (by simp [h3])]
      obtain ⟨z, hz⟩ : ∃ z : Int, (a : Int) = z := ⟨_, rfl⟩
      have hz0 : 0 ≤ z := by omega
      have hz1 : ¬ z < 9223372036854775808 := by omega
      have hz2 : 9223372036854775808 ≤ z := by omega
      have HZ := Lib.hid hz
      clear h3 hz
      go_enter Tryd.func37, Tryd.ntmps37
      go_wp2_with (first
        | (go_at_call 65; ((with_reducible refine (vLen (h.below (bel1 _ _))).mono ?_); rintro e w1 ⟨rfl, B1⟩; obtain ⟨hc, hf⟩ := bcell B1))
        | (go_at_call 67; ((with_reducible refine (vTrim (h.below (bt (bel1 _ _) B1))).mono ?_); rintro e w2 ⟨A1, n1, c1, rfl, h1, k1, B2⟩; clear hc hf; obtain ⟨hc, hf⟩ := bcell (bt B1 B2)))
        | (go_at_call 66; ((with_reducible refine (vWordZ h1 HA.out HZ.out).mono ?_); rintro e w2 ⟨rfl, rfl⟩)))
      go_ret2
      exact ⟨rfl, bt (bel1 _ _) (bt B1 B2)⟩
  · by_cases h3 : a ≤ 9223372036854775808
    · rw [if_pos (by simp [h3]), decide_eq_true (by simp [h3])]
      have hw := i64_neg a h3
      go_enter Tryd.func37, Tryd.ntmps37
      go_wp2_with (first
        | (go_at_call 65; ((with_reducible refine (vLen (h.below (bel1 _ _))).mono ?_); rintro e w1 ⟨rfl, B1⟩; obtain ⟨hc, hf⟩ := bcell B1))
        | (go_at_call 67; ((with_reducible refine (vTrim (h.below (bt (bel1 _ _) B1))).mono ?_); rintro e w2 ⟨A1, n1, c1, rfl, h1, k1, B2⟩; clear hc hf; obtain ⟨hc, hf⟩ := bcell (bt B1 B2)))
        | (go_at_call 66; ((with_reducible refine (vWord h1 HA.out).mono ?_); rintro e w2 ⟨rfl, rfl⟩)))
      go_ret2
      exact ⟨ret_ib rfl rfl, bt (bel1 _ _) (bt B1 B2)⟩
    · rw [if_neg (by simp [h3]), decide_eq_false (by simp [h3])]
      go_enter Tryd.func37, Tryd.ntmps37
      go_wp2_with (first
        | (go_at_call 65; ((with_reducible refine (vLen (h.below (bel1 _ _))).mono ?_); rintro e w1 ⟨rfl, B1⟩; obtain ⟨hc, hf⟩ := bcell B1))
        | (go_at_call 67; ((with_reducible refine (vTrim (h.below (bt (bel1 _ _) B1))).mono ?_); rintro e w2 ⟨A1, n1, c1, rfl, h1, k1, B2⟩; clear hc hf; obtain ⟨hc, hf⟩ := bcell (bt B1 B2)))
        | (go_at_call 66; ((with_reducible refine (vWord h1 HA.out).mono ?_); rintro e w2 ⟨rfl, rfl⟩)))
      go_ret2
      exact ⟨rfl, bt (bel1 _ _) (bt B1 B2)⟩

/-- Is an integer one of 64 bits? -/
def fits (z : Int) : Bool := decide (-9223372036854775808 ≤ z ∧ z ≤ 9223372036854775807)
theorem wInt {w : World} {A : Option Addr} {n c : Nat} {s : Bool} {z r : Int} {t : Bool} (h : Wr w s A n c z) (ht : fits z = t) (hr : (if t = true then z else 0) = r) : Calls Tryd.prog 37 #[.agg #[.bool s, .slice A n c]] w (PIB w r t) := by
  obtain ⟨a, h, e⟩ := h
  subst e; subst ht
  by_cases hb : blen a ≤ 64
  · have hf : fits (sg s a) = decide ((s = true ∧ a ≤ 9223372036854775808) ∨ (s = false ∧ a < 9223372036854775808)) := by
      unfold fits
      apply decide_eq_decide.2
      cases s <;> simp [sg] <;> omega
    have := int_small s h hb
    subst hr
    rw [hf]
    simp only [decide_eq_true_eq]
    exact this
  · have h1 := blen_le (n := a) (by rintro rfl; simp [blen_zero] at hb)
    have h2 : 2 ^ 64 ≤ 2 ^ (blen a - 1) := Nat.pow_le_pow_right (by decide) (by omega)
    have hf : fits (sg s a) = false := by
      unfold fits
      apply decide_eq_false
      cases s <;> simp [sg] <;> omega
    subst hr
    rw [hf]
    exact int_big s h (by omega)
end Go.Proofs.YteoeoppkefcmdaaDoor

/-
  What every statement of layer 2 begins with: the chapter's examples, and the test of lengths.
-/
namespace Go.Proofs.YteoeoppkefcmdaaDoor
open Go.RowKit
set_option linter.unusedVariables false

theorem Wl.lit3 {W : World} {g K : Nat} {s1 s2 s3 : Bool} {A1 A2 A3 : Option Addr} {n1 c1 n2 c2 n3 c3 : Nat} {z1 z2 z3 : Int} (hg : W.heap.size = g)
    (h1 : Wr W s1 A1 n1 c1 z1) (h2 : Wr W s2 A2 n2 c2 z2) (h3 : Wr W s3 A3 n3 c3 z3) (k1 : n1 ≤ K) (k2 : n2 ≤ K) (k3 : n3 ≤ K) :
    Wl (W.alloc (.cells #[.bool s1, .slice A1 n1 c1, .bool s2, .slice A2 n2 c2, .bool s3, .slice A3 n3 c3] 24)) (some ⟨g, 0, none⟩) 3 3 K [z1, z2, z3] := by
  subst hg
  have hh := heap_alloc_new W (.cells #[.bool s1, .slice A1 n1 c1, .bool s2, .slice A2 n2 c2, .bool s3, .slice A3 n3 c3] 24)
  refine ⟨rfl, Nat.le_refl _, by decide, fun _ => ⟨_, 0, rfl, fun k hk => ?_⟩⟩
  rcases (by omega : k = 0 ∨ k = 1 ∨ k = 2) with rfl | rfl | rfl
  · exact ⟨s1, A1, n1, c1, by rw [cell_of_row _ _ _ _ _ _ hh]; rfl, by rw [cell_of_row _ _ _ _ _ _ hh]; rfl, h1.below (bel1 _ _), k1⟩
  · exact ⟨s2, A2, n2, c2, by rw [cell_of_row _ _ _ _ _ _ hh]; rfl, by rw [cell_of_row _ _ _ _ _ _ hh]; rfl, h2.below (bel1 _ _), k2⟩
  · exact ⟨s3, A3, n3, c3, by rw [cell_of_row _ _ _ _ _ _ hh]; rfl, by rw [cell_of_row _ _ _ _ _ _ hh]; rfl, h3.below (bel1 _ _), k3⟩
theorem Wl.lit2 {W : World} {g K : Nat} {s1 s2 : Bool} {A1 A2 : Option Addr} {n1 c1 n2 c2 : Nat} {z1 z2 : Int} (hg : W.heap.size = g)
    (h1 : Wr W s1 A1 n1 c1 z1) (h2 : Wr W s2 A2 n2 c2 z2) (k1 : n1 ≤ K) (k2 : n2 ≤ K) :
    Wl (W.alloc (.cells #[.bool s1, .slice A1 n1 c1, .bool s2, .slice A2 n2 c2] 24)) (some ⟨g, 0, none⟩) 2 2 K [z1, z2] := by
  subst hg
  have hh := heap_alloc_new W (.cells #[.bool s1, .slice A1 n1 c1, .bool s2, .slice A2 n2 c2] 24)
  refine ⟨rfl, Nat.le_refl _, by decide, fun _ => ⟨_, 0, rfl, fun k hk => ?_⟩⟩
  rcases (by omega : k = 0 ∨ k = 1) with rfl | rfl
  · exact ⟨s1, A1, n1, c1, by rw [cell_of_row _ _ _ _ _ _ hh]; rfl, by rw [cell_of_row _ _ _ _ _ _ hh]; rfl, h1.below (bel1 _ _), k1⟩
  · exact ⟨s2, A2, n2, c2, by rw [cell_of_row _ _ _ _ _ _ hh]; rfl, by rw [cell_of_row _ _ _ _ _ _ hh]; rfl, h2.below (bel1 _ _), k2⟩

theorem Wl.drew {w : World} {A : Option Addr} {n c K : Nat} {zs : List Int} (h : Wl w A n c K zs) : Wl w.drew A n c K zs := h
/-- The two boxes that a function of two whole numbers begins with. -/
theorem box2 (w : World) (s t : Bool) (A B : Option Addr) (n c m d : Nat) {W : World} (hW : W = (w.alloc (.cells #[.bool s, .slice A n c] 24)).alloc (.cells #[.bool t, .slice B m d] 24)) :
    Bx W w.heap.size s A n c ∧ Bx W (w.heap.size + 1) t B m d ∧ Below w.heap.size w W := by
  subst hW
  exact ⟨(Bx.new w s A n c).below (bel1 _ _), Bx.newAt _ (by simp) t B m d, bel2 _ _ _⟩

set_option maxHeartbeats 400000 in
theorem few_yes (A : Option Addr) (s : Bool) (n c : Nat) (w : World) (hn : n ≤ 40) : Calls Tryd.prog 33 #[.agg #[.bool s, .slice A n c]] w (PB w true) := by
  have e1 : decide ((n : Int) ≤ 40) = true := by simp; omega
  go_enter Tryd.func33, Tryd.ntmps33
  go_wp2
  go_ret
  exact ⟨by first | rfl | simp [e1], bel1 _ _⟩
set_option maxHeartbeats 400000 in
theorem few_no (A : Option Addr) (s : Bool) (n c : Nat) (w : World) (hn : ¬ n ≤ 40) : Calls Tryd.prog 33 #[.agg #[.bool s, .slice A n c]] w (PB w false) := by
  have e1 : decide ((n : Int) ≤ 40) = false := by simp; omega
  go_enter Tryd.func33, Tryd.ntmps33
  go_wp2
  go_ret
  exact ⟨by first | rfl | simp [e1], bel1 _ _⟩

end Go.Proofs.YteoeoppkefcmdaaDoor

/-
  What dy.highest, Neg, Move and Mul do.
-/
namespace Go.Proofs.YteoeoppkefcmdaaDoor
open Go.RowKit
set_option linter.unusedVariables false

set_option maxHeartbeats 2000000 in
theorem dHighest {w : World} {A : Option Addr} {n c : Nat} {s : Bool} {N E r : Int} (h : Wn w s A n c N) (hn : n ≤ 100000) (h0 : -4194304 ≤ E) (h1 : E ≤ 4194304) (hr : ((blen N.natAbs : Nat) : Int) + E = r) :
    Calls Tryd.prog 62 #[.agg #[.bool s, .slice A n c, .int .i64 E]] w (PI w r) := by
  have hb := h.1.rd.blen_le
  obtain ⟨b, hb1⟩ : ∃ b, ((blen N.natAbs : Nat) : Int) = b := ⟨_, rfl⟩
  have hb0 : 0 ≤ b := by omega
  have hb2 : b ≤ 3200000 := by omega
  rw [hb1] at hr
  have HV := Lib.hid hb1
  have HW : Hid (IntKind.i64.wrap (b + E) = r) := Lib.hid (by rw [hr]; exact IntWalk.i64_in _ (by omega))
  clear hb hb1 hr
  go_enter Tryd.func62, Tryd.ntmps62
  go_upto_region 1 with (fail)
  have X1 := (Bo.newAt w (g := w.heap.size) (by simp) #[.bool s, .slice A n c, .int .i64 E] 27)
  have HB := Lib.hid (bel1 w (.cells #[.bool s, .slice A n c, .int .i64 E] 27))
  replace h := h.below HB.out
  generalize hW1 : (w.alloc (.cells #[.bool s, .slice A n c, .int .i64 E] 27)) = w1 at *
  clear hW1
  refine Jo.region_joint (T := [0, 1, 2, 3, 4, 5, 6, 7]) (ds := [some 3, some 4, some 5, some 6, some 7, some 8, some 9, some 2]) (ls := [[], [0], [1], [2], [], [4], [3, 5], [6]]) (k := 8) (L := [(some 3, 0), (some 4, 1), (some 5, 2), (some 6, 3), (some 7, 4), (some 8, 5), (some 9, 6), (some 2, 7)]) (fuel := 0) (J := fun wj => Below (World.heap w1).size w1 wj)
    (F := [Jo.Fact.eq (.pointer (some ⟨w.heap.size, 0, none⟩)), Jo.Fact.eq (.pointer (some ⟨w.heap.size, 1, none⟩)), Jo.Fact.eq (.slice A n c), Jo.Fact.eq (.int .i64 b), Jo.Fact.eq (.pointer (some ⟨w.heap.size, 2, none⟩)), Jo.Fact.eq (.int .i64 E), Jo.Fact.eq (.int .i64 r), Jo.Fact.eq (.int .i64 r)])
    (by kernel_rfl) (by kernel_rfl) (by decide) rfl rfl (fun _ _ h b => bt h b) ((Below.refl _ _).drew) ?_ (fun vs w2 hJ hd => ?_)
  · refine Jo.jcons (i := 0) (o := ⟨some 3, _, _, _, _, _⟩) (di := some 3) (L := []) (f := Jo.Fact.eq (.pointer (some ⟨w.heap.size, 0, none⟩))) rfl rfl rfl rfl (fun vs wj hJ hd K hK => ?_) ?_
    · clear hd
      simp only [Jo.putl, List.foldl_nil, Act.put, List.setIfInBounds_toArray, List.set_cons_zero, List.set_cons_succ] at hK ⊢
      go_simp
      exact hK.out _ _ rfl (Below.refl _ _)
    refine Jo.jcons (i := 1) (o := ⟨some 4, _, _, _, _, _⟩) (di := some 4) (L := [(some 3, 0)]) (f := Jo.Fact.eq (.pointer (some ⟨w.heap.size, 1, none⟩))) rfl rfl rfl rfl (fun vs wj hJ hd K hK => ?_) ?_
    · have d0 : (Jo.Fact.eq (.pointer (some ⟨w.heap.size, 0, none⟩))).P (vs 0) wj := hd 0 (by decide)
      clear hd
      simp only [Jo.putl, List.foldl_cons, List.foldl_nil, Act.put, List.setIfInBounds_toArray, List.set_cons_zero, List.set_cons_succ] at hK ⊢
      generalize vs 0 = u0 at hK d0 ⊢
      replace d0 : u0 = _ := d0
      subst d0
      go_simp
      exact hK.out _ _ rfl (Below.refl _ _)
    refine Jo.jcons (i := 2) (o := ⟨some 5, _, _, _, _, _⟩) (di := some 5) (L := [(some 4, 1)]) (f := Jo.Fact.eq (.slice A n c)) rfl rfl rfl rfl (fun vs wj hJ hd K hK => ?_) ?_
    · have d1 : (Jo.Fact.eq (.pointer (some ⟨w.heap.size, 1, none⟩))).P (vs 1) wj := hd 1 (by decide)
      clear hd
      simp only [Jo.putl, List.foldl_cons, List.foldl_nil, Act.put, List.setIfInBounds_toArray, List.set_cons_zero, List.set_cons_succ] at hK ⊢
      generalize vs 1 = u1 at hK d1 ⊢
      replace d1 : u1 = _ := d1
      subst d1
      have xX10 : World.cell? wj ⟨w.heap.size, 0, none⟩ = some (.bool s) := (X1.below hJ).cell 0
      have xX11 : World.cell? wj ⟨w.heap.size, 1, none⟩ = some (.slice A n c) := (X1.below hJ).cell 1
      have xX12 : World.cell? wj ⟨w.heap.size, 2, none⟩ = some (.int .i64 E) := (X1.below hJ).cell 2
      go_simp
      exact hK.out _ _ rfl (Below.refl _ _)
    refine Jo.jcons (i := 3) (o := ⟨some 6, _, _, _, _, _⟩) (di := some 6) (L := [(some 5, 2)]) (f := Jo.Fact.eq (.int .i64 b)) rfl rfl rfl rfl (fun vs wj hJ hd K hK => ?_) ?_
    · have d2 : (Jo.Fact.eq (.slice A n c)).P (vs 2) wj := hd 2 (by decide)
      clear hd
      simp only [Jo.putl, List.foldl_cons, List.foldl_nil, Act.put, List.setIfInBounds_toArray, List.set_cons_zero, List.set_cons_succ] at hK ⊢
      generalize vs 2 = u2 at hK d2 ⊢
      replace d2 : u2 = _ := d2
      subst d2
      go_simp
      refine (vLenE (h.below hJ).1.rd HV.out).mono ?_
      rintro ee wk ⟨rfl, B⟩
      exact hK.out _ _ rfl B
    refine Jo.jcons (i := 4) (o := ⟨some 7, _, _, _, _, _⟩) (di := some 7) (L := []) (f := Jo.Fact.eq (.pointer (some ⟨w.heap.size, 2, none⟩))) rfl rfl rfl rfl (fun vs wj hJ hd K hK => ?_) ?_
    · clear hd
      simp only [Jo.putl, List.foldl_nil, Act.put, List.setIfInBounds_toArray, List.set_cons_zero, List.set_cons_succ] at hK ⊢
      go_simp
      exact hK.out _ _ rfl (Below.refl _ _)
    refine Jo.jcons (i := 5) (o := ⟨some 8, _, _, _, _, _⟩) (di := some 8) (L := [(some 7, 4)]) (f := Jo.Fact.eq (.int .i64 E)) rfl rfl rfl rfl (fun vs wj hJ hd K hK => ?_) ?_
    · have d4 : (Jo.Fact.eq (.pointer (some ⟨w.heap.size, 2, none⟩))).P (vs 4) wj := hd 4 (by decide)
      clear hd
      simp only [Jo.putl, List.foldl_cons, List.foldl_nil, Act.put, List.setIfInBounds_toArray, List.set_cons_zero, List.set_cons_succ] at hK ⊢
      generalize vs 4 = u4 at hK d4 ⊢
      replace d4 : u4 = _ := d4
      subst d4
      have xX10 : World.cell? wj ⟨w.heap.size, 0, none⟩ = some (.bool s) := (X1.below hJ).cell 0
      have xX11 : World.cell? wj ⟨w.heap.size, 1, none⟩ = some (.slice A n c) := (X1.below hJ).cell 1
      have xX12 : World.cell? wj ⟨w.heap.size, 2, none⟩ = some (.int .i64 E) := (X1.below hJ).cell 2
      go_simp
      exact hK.out _ _ rfl (Below.refl _ _)
    refine Jo.jcons (i := 6) (o := ⟨some 9, _, _, _, _, _⟩) (di := some 9) (L := [(some 6, 3), (some 8, 5)]) (f := Jo.Fact.eq (.int .i64 r)) rfl rfl rfl rfl (fun vs wj hJ hd K hK => ?_) ?_
    · have d3 : (Jo.Fact.eq (.int .i64 b)).P (vs 3) wj := hd 3 (by decide)
      have d5 : (Jo.Fact.eq (.int .i64 E)).P (vs 5) wj := hd 5 (by decide)
      clear hd
      simp only [Jo.putl, List.foldl_cons, List.foldl_nil, Act.put, List.setIfInBounds_toArray, List.set_cons_zero, List.set_cons_succ] at hK ⊢
      generalize vs 3 = u3 at hK d3 ⊢
      generalize vs 5 = u5 at hK d5 ⊢
      replace d3 : u3 = _ := d3
      subst d3
      replace d5 : u5 = _ := d5
      subst d5
      have hw := HW.out
      go_simp
      exact hK.out _ _ rfl (Below.refl _ _)
    refine Jo.jcons (i := 7) (o := ⟨some 2, _, _, _, _, _⟩) (di := some 2) (L := [(some 9, 6)]) (f := Jo.Fact.eq (.int .i64 r)) rfl rfl rfl rfl (fun vs wj hJ hd K hK => ?_) ?_
    · have d6 : (Jo.Fact.eq (.int .i64 r)).P (vs 6) wj := hd 6 (by decide)
      clear hd
      simp only [Jo.putl, List.foldl_cons, List.foldl_nil, Act.put, List.setIfInBounds_toArray, List.set_cons_zero, List.set_cons_succ] at hK ⊢
      generalize vs 6 = u6 at hK d6 ⊢
      replace d6 : u6 = _ := d6
      subst d6
      go_simp
      exact hK.out _ _ rfl (Below.refl _ _)
    exact Jo.Steps.nil
  have d0 : (Jo.Fact.eq (.pointer (some ⟨w.heap.size, 0, none⟩))).P (vs 0) w2 := hd 0 (by decide)
  have d1 : (Jo.Fact.eq (.pointer (some ⟨w.heap.size, 1, none⟩))).P (vs 1) w2 := hd 1 (by decide)
  have d2 : (Jo.Fact.eq (.slice A n c)).P (vs 2) w2 := hd 2 (by decide)
  have d3 : (Jo.Fact.eq (.int .i64 b)).P (vs 3) w2 := hd 3 (by decide)
  have d4 : (Jo.Fact.eq (.pointer (some ⟨w.heap.size, 2, none⟩))).P (vs 4) w2 := hd 4 (by decide)
  have d5 : (Jo.Fact.eq (.int .i64 E)).P (vs 5) w2 := hd 5 (by decide)
  have d6 : (Jo.Fact.eq (.int .i64 r)).P (vs 6) w2 := hd 6 (by decide)
  have d7 : (Jo.Fact.eq (.int .i64 r)).P (vs 7) w2 := hd 7 (by decide)
  clear hd
  simp only [Jo.putl, List.foldl_cons, List.foldl_nil, Act.put, List.setIfInBounds_toArray, List.set_cons_zero, List.set_cons_succ]
  generalize vs 0 = u0 at d0 ⊢
  generalize vs 1 = u1 at d1 ⊢
  generalize vs 2 = u2 at d2 ⊢
  generalize vs 3 = u3 at d3 ⊢
  generalize vs 4 = u4 at d4 ⊢
  generalize vs 5 = u5 at d5 ⊢
  generalize vs 6 = u6 at d6 ⊢
  generalize vs 7 = u7 at d7 ⊢
  clear vs
  replace d0 : u0 = _ := d0
  subst d0
  replace d1 : u1 = _ := d1
  subst d1
  replace d2 : u2 = _ := d2
  subst d2
  replace d3 : u3 = _ := d3
  subst d3
  replace d4 : u4 = _ := d4
  subst d4
  replace d5 : u5 = _ := d5
  subst d5
  replace d6 : u6 = _ := d6
  subst d6
  replace d7 : u7 = _ := d7
  subst d7
  replace X1 := X1.below hJ
  replace h := h.below hJ
  replace HB := Lib.hid (bt HB.out hJ)
  refine Jo.jdone (by kernel_rfl) ?_
  go_wp2
  go_ret
  exact ⟨rfl, HB.out⟩

set_option maxHeartbeats 2000000 in
theorem dNeg {w : World} {A : Option Addr} {n c : Nat} {s : Bool} {z e N E : Int} (hT : Tab w) (h : Wr w s A n c z) (hn : n ≤ 100000) (hN : -(mk z e).1 = N) (hE : (mk z e).2 = E) :
    Calls Tryd.prog 26 #[.agg #[.bool s, .slice A n c, .int .i64 e]] w (D1 w n N E) := by
  have HN := Lib.hid hN
  have HE := Lib.hid hE
  clear hN hE
  go_enter Tryd.func26, Tryd.ntmps26
  go_upto_region 1 with (fail)
  have X1 := (Bo.newAt w (g := w.heap.size) (by simp) #[.bool s, .slice A n c, .int .i64 e] 27).below (bel1 _ (.cells #[.bool false, .slice none 0 0, .int .i64 0] 27))
  have XR := (Bo.newAt (w.alloc (.cells #[.bool s, .slice A n c, .int .i64 e] 27)) (g := w.heap.size + 1) (by simp) #[.bool false, .slice none 0 0, .int .i64 0] 27)
  have HB := Lib.hid (bel2 w (.cells #[.bool s, .slice A n c, .int .i64 e] 27) (.cells #[.bool false, .slice none 0 0, .int .i64 0] 27))
  replace hT := hT.below HB.out
  replace h := h.below HB.out
  generalize hW1 : ((w.alloc (.cells #[.bool s, .slice A n c, .int .i64 e] 27)).alloc (.cells #[.bool false, .slice none 0 0, .int .i64 0] 27)) = w1 at *
  clear hW1
  have xX10 := X1.at (i := 0) (v := .bool s) rfl
  have xX11 := X1.at (i := 1) (v := .slice A n c) rfl
  have xX12 := X1.at (i := 2) (v := .int .i64 e) rfl
  go_wp2_with fail
  refine (dTaken hT h hn rfl HE.out).mono ?_
  rintro ee w2 ⟨s1, A1, n1, c1, rfl, p1, k1, B⟩
  clear xX10 xX11 xX12
  replace X1 := X1.below B
  replace XR := XR.below B
  replace hT := hT.below B
  replace h := h.below B
  replace HB := Lib.hid (bt HB.out B)
  clear B
  have xX10 := X1.at (i := 0) (v := .bool s) rfl
  have zX10 := X1.frozen 0
  have xX11 := X1.at (i := 1) (v := .slice A n c) rfl
  have zX11 := X1.frozen 1
  have xX12 := X1.at (i := 2) (v := .int .i64 e) rfl
  have zX12 := X1.frozen 2
  go_upto_region 2 with (fail)
  clear xX10 zX10 xX11 zX11 xX12 zX12
  have SX := StN.mk3 X1 (.bool s1) (.slice A1 n1 c1) (.int .i64 E)
  replace XR := XR.stn SX (by omega)
  replace hT := hT.stn SX (by simp [no8])
  replace h := h.stn SX (by simp [no32])
  replace p1 := p1.stn SX (by simp [no32])
  replace HB := Lib.hid (SX.below HB.out (by omega))
  replace X1 := SX.box
  clear SX
  generalize (World.setCell (World.setCell (World.setCell w2 ⟨w.heap.size, 0, none⟩ (.bool s1)) ⟨w.heap.size, 1, none⟩ (.slice A1 n1 c1)) ⟨w.heap.size, 2, none⟩ (.int .i64 E)) = w3 at *
  refine Jo.region_joint (T := [0, 1, 2, 3, 4, 5]) (ds := [some 5, some 6, some 7, some 8, some 9, some 10, none]) (ls := [[], [0], [1], [], [3], [2, 4], []]) (k := 7) (L := [(some 5, 0), (some 6, 1), (some 7, 2), (some 8, 3), (some 9, 4), (some 10, 5)]) (fuel := 1) (J := fun wj => Below (World.heap w3).size w3 wj)
    (F := [Jo.Fact.eq (.pointer (some ⟨w.heap.size, 0, none⟩)), Jo.Fact.eq (.agg #[.bool s1, .slice A1 n1 c1]), Jo.Fact.wn N n, Jo.Fact.eq (.pointer (some ⟨w.heap.size, 2, none⟩)), Jo.Fact.eq (.int .i64 E), Jo.Fact.dy N E n, Jo.Fact.any])
    (by kernel_rfl) (by kernel_rfl) (by decide) rfl rfl (fun _ _ h b => bt h b) ((Below.refl _ _).drew) ?_ (fun vs w4 hJ hd => ?_)
  · refine Jo.jcons (i := 0) (o := ⟨some 5, _, _, _, _, _⟩) (di := some 5) (L := []) (f := Jo.Fact.eq (.pointer (some ⟨w.heap.size, 0, none⟩))) rfl rfl rfl rfl (fun vs wj hJ hd K hK => ?_) ?_
    · clear hd
      simp only [Jo.putl, List.foldl_nil, Act.put, List.setIfInBounds_toArray, List.set_cons_zero, List.set_cons_succ] at hK ⊢
      go_simp
      exact hK.out _ _ rfl (Below.refl _ _)
    refine Jo.jcons (i := 1) (o := ⟨some 6, _, _, _, _, _⟩) (di := some 6) (L := [(some 5, 0)]) (f := Jo.Fact.eq (.agg #[.bool s1, .slice A1 n1 c1])) rfl rfl rfl rfl (fun vs wj hJ hd K hK => ?_) ?_
    · have d0 : (Jo.Fact.eq (.pointer (some ⟨w.heap.size, 0, none⟩))).P (vs 0) wj := hd 0 (by decide)
      clear hd
      simp only [Jo.putl, List.foldl_cons, List.foldl_nil, Act.put, List.setIfInBounds_toArray, List.set_cons_zero, List.set_cons_succ] at hK ⊢
      generalize vs 0 = u0 at hK d0 ⊢
      replace d0 : u0 = _ := d0
      subst d0
      have xX10 : World.cell? wj ⟨w.heap.size, 0, none⟩ = some (.bool s1) := (X1.below hJ).cell 0
      have xX11 : World.cell? wj ⟨w.heap.size, 1, none⟩ = some (.slice A1 n1 c1) := (X1.below hJ).cell 1
      have xX12 : World.cell? wj ⟨w.heap.size, 2, none⟩ = some (.int .i64 E) := (X1.below hJ).cell 2
      go_simp
      exact hK.out _ _ rfl (Below.refl _ _)
    refine Jo.jcons (i := 2) (o := ⟨some 7, _, _, _, _, _⟩) (di := some 7) (L := [(some 6, 1)]) (f := Jo.Fact.wn N n) rfl rfl rfl rfl (fun vs wj hJ hd K hK => ?_) ?_
    · have d1 : (Jo.Fact.eq (.agg #[.bool s1, .slice A1 n1 c1])).P (vs 1) wj := hd 1 (by decide)
      clear hd
      simp only [Jo.putl, List.foldl_cons, List.foldl_nil, Act.put, List.setIfInBounds_toArray, List.set_cons_zero, List.set_cons_succ] at hK ⊢
      generalize vs 1 = u1 at hK d1 ⊢
      replace d1 : u1 = _ := d1
      subst d1
      go_simp
      refine (wNeg (p1.wr.below hJ) HN.out).mono ?_
      rintro ee wk ⟨s2, A2, n2, c2, rfl, p2, k2, B⟩
      exact hK.out _ _ ⟨s2, A2, n2, c2, rfl, p2, Nat.le_trans k2 k1⟩ B
    refine Jo.jcons (i := 3) (o := ⟨some 8, _, _, _, _, _⟩) (di := some 8) (L := []) (f := Jo.Fact.eq (.pointer (some ⟨w.heap.size, 2, none⟩))) rfl rfl rfl rfl (fun vs wj hJ hd K hK => ?_) ?_
    · clear hd
      simp only [Jo.putl, List.foldl_nil, Act.put, List.setIfInBounds_toArray, List.set_cons_zero, List.set_cons_succ] at hK ⊢
      go_simp
      exact hK.out _ _ rfl (Below.refl _ _)
    refine Jo.jcons (i := 4) (o := ⟨some 9, _, _, _, _, _⟩) (di := some 9) (L := [(some 8, 3)]) (f := Jo.Fact.eq (.int .i64 E)) rfl rfl rfl rfl (fun vs wj hJ hd K hK => ?_) ?_
    · have d3 : (Jo.Fact.eq (.pointer (some ⟨w.heap.size, 2, none⟩))).P (vs 3) wj := hd 3 (by decide)
      clear hd
      simp only [Jo.putl, List.foldl_cons, List.foldl_nil, Act.put, List.setIfInBounds_toArray, List.set_cons_zero, List.set_cons_succ] at hK ⊢
      generalize vs 3 = u3 at hK d3 ⊢
      replace d3 : u3 = _ := d3
      subst d3
      have xX10 : World.cell? wj ⟨w.heap.size, 0, none⟩ = some (.bool s1) := (X1.below hJ).cell 0
      have xX11 : World.cell? wj ⟨w.heap.size, 1, none⟩ = some (.slice A1 n1 c1) := (X1.below hJ).cell 1
      have xX12 : World.cell? wj ⟨w.heap.size, 2, none⟩ = some (.int .i64 E) := (X1.below hJ).cell 2
      go_simp
      exact hK.out _ _ rfl (Below.refl _ _)
    refine Jo.jcons (i := 5) (o := ⟨some 10, _, _, _, _, _⟩) (di := some 10) (L := [(some 7, 2), (some 9, 4)]) (f := Jo.Fact.dy N E n) rfl rfl rfl rfl (fun vs wj hJ hd K hK => ?_) ?_
    · have d2 : (Jo.Fact.wn N n).P (vs 2) wj := hd 2 (by decide)
      have d4 : (Jo.Fact.eq (.int .i64 E)).P (vs 4) wj := hd 4 (by decide)
      clear hd
      simp only [Jo.putl, List.foldl_cons, List.foldl_nil, Act.put, List.setIfInBounds_toArray, List.set_cons_zero, List.set_cons_succ] at hK ⊢
      generalize vs 2 = u2 at hK d2 ⊢
      generalize vs 4 = u4 at hK d4 ⊢
      obtain ⟨s2, A2, n2, c2, rfl, p2, k2⟩ := d2
      replace d4 : u4 = _ := d4
      subst d4
      go_simp
      exact hK.out _ _ ⟨s2, A2, n2, c2, rfl, p2, k2⟩ (Below.refl _ _)
    exact Jo.Steps.nil
  have d0 : (Jo.Fact.eq (.pointer (some ⟨w.heap.size, 0, none⟩))).P (vs 0) w4 := hd 0 (by decide)
  have d1 : (Jo.Fact.eq (.agg #[.bool s1, .slice A1 n1 c1])).P (vs 1) w4 := hd 1 (by decide)
  have d2 : (Jo.Fact.wn N n).P (vs 2) w4 := hd 2 (by decide)
  have d3 : (Jo.Fact.eq (.pointer (some ⟨w.heap.size, 2, none⟩))).P (vs 3) w4 := hd 3 (by decide)
  have d4 : (Jo.Fact.eq (.int .i64 E)).P (vs 4) w4 := hd 4 (by decide)
  have d5 : (Jo.Fact.dy N E n).P (vs 5) w4 := hd 5 (by decide)
  clear hd
  simp only [Jo.putl, List.foldl_cons, List.foldl_nil, Act.put, List.setIfInBounds_toArray, List.set_cons_zero, List.set_cons_succ]
  generalize vs 0 = u0 at d0 ⊢
  generalize vs 1 = u1 at d1 ⊢
  generalize vs 2 = u2 at d2 ⊢
  generalize vs 3 = u3 at d3 ⊢
  generalize vs 4 = u4 at d4 ⊢
  generalize vs 5 = u5 at d5 ⊢
  clear vs
  replace d0 : u0 = _ := d0
  subst d0
  replace d1 : u1 = _ := d1
  subst d1
  obtain ⟨s2, A2, n2, c2, rfl, _, _⟩ := d2
  replace d3 : u3 = _ := d3
  subst d3
  replace d4 : u4 = _ := d4
  subst d4
  obtain ⟨s4, A4, n4, c4, rfl, p4, k4⟩ := d5
  replace X1 := X1.below hJ
  replace XR := XR.below hJ
  replace hT := hT.below hJ
  replace h := h.below hJ
  replace p1 := p1.below hJ
  replace HB := Lib.hid (bt HB.out hJ)
  have xXR0 := XR.at (i := 0) (v := .bool false) rfl
  have zXR0 := XR.frozen 0
  have xXR1 := XR.at (i := 1) (v := .slice none 0 0) rfl
  have zXR1 := XR.frozen 1
  have xXR2 := XR.at (i := 2) (v := .int .i64 0) rfl
  have zXR2 := XR.frozen 2
  refine Jo.jnext (i := 6) (o := ⟨none, _, _, _, _, _⟩) (by kernel_rfl) rfl (fun K hK => ?_)
  go_simp
  refine hK.out _ _ ?_
  clear hK K xXR0 zXR0 xXR1 zXR1 xXR2 zXR2
  have SX := StN.mk3 XR (.bool s4) (.slice A4 n4 c4) (.int .i64 E)
  replace X1 := X1.stn SX (by omega)
  replace p4 := p4.stn SX (by simp [no32])
  replace HB := Lib.hid (SX.below HB.out (by omega))
  replace XR := SX.box
  clear SX
  generalize (World.setCell (World.setCell (World.setCell w4 ⟨w.heap.size + 1, 0, none⟩ (.bool s4)) ⟨w.heap.size + 1, 1, none⟩ (.slice A4 n4 c4)) ⟨w.heap.size + 1, 2, none⟩ (.int .i64 E)) = w5 at *
  refine Jo.jdone (by kernel_rfl) ?_
  go_wp2
  have r0 := XR.cell 0
  have r1 := XR.cell 1
  have r2 := XR.cell 2
  exact bodyPost_ret (v := .agg #[.bool s4, .slice A4 n4 c4, .int .i64 E]) (by simp [results, Tryd.results26, go_sem, r0, r1, r2]) rfl ⟨s4, A4, n4, c4, rfl, p4, k4, HB.out⟩

set_option maxHeartbeats 2000000 in
theorem dMoveW {w : World} {A : Option Addr} {n c : Nat} {s : Bool} {z e k N E : Int} (hT : Tab w) (h : Wr w s A n c z) (hn : n ≤ 100000) (hN : (mk (mk z e).1 (IntKind.i64.wrap ((mk z e).2 + k))).1 = N) (hE : (mk (mk z e).1 (IntKind.i64.wrap ((mk z e).2 + k))).2 = E) :
    Calls Tryd.prog 13 #[.agg #[.bool s, .slice A n c, .int .i64 e], .int .i64 k] w (D1 w n N E) := by
  obtain ⟨N1, hN1⟩ : ∃ x, (mk z e).1 = x := ⟨_, rfl⟩
  obtain ⟨E1, hE1⟩ : ∃ x, (mk z e).2 = x := ⟨_, rfl⟩
  rw [hN1, hE1] at hN hE
  obtain ⟨d, hd⟩ : ∃ x, IntKind.i64.wrap (E1 + k) = x := ⟨_, rfl⟩
  rw [hd] at hN hE
  have HD := Lib.hid hd
  have HN1 := Lib.hid hN1
  have HE1 := Lib.hid hE1
  have HN := Lib.hid hN
  have HE := Lib.hid hE
  clear hN hE hN1 hE1 hd
  go_enter Tryd.func13, Tryd.ntmps13
  go_upto_region 1 with (fail)
  have X1 := (Bo.newAt w (g := w.heap.size) (by simp) #[.bool s, .slice A n c, .int .i64 e] 27).below (bel1 _ (.cells #[.bool false, .slice none 0 0, .int .i64 0] 27))
  have XR := (Bo.newAt (w.alloc (.cells #[.bool s, .slice A n c, .int .i64 e] 27)) (g := w.heap.size + 1) (by simp) #[.bool false, .slice none 0 0, .int .i64 0] 27)
  have HB := Lib.hid (bel2 w (.cells #[.bool s, .slice A n c, .int .i64 e] 27) (.cells #[.bool false, .slice none 0 0, .int .i64 0] 27))
  replace hT := hT.below HB.out
  replace h := h.below HB.out
  generalize hW1 : ((w.alloc (.cells #[.bool s, .slice A n c, .int .i64 e] 27)).alloc (.cells #[.bool false, .slice none 0 0, .int .i64 0] 27)) = w1 at *
  clear hW1
  have xX10 := X1.at (i := 0) (v := .bool s) rfl
  have xX11 := X1.at (i := 1) (v := .slice A n c) rfl
  have xX12 := X1.at (i := 2) (v := .int .i64 e) rfl
  go_wp2_with fail
  refine (dTaken hT h hn HN1.out HE1.out).mono ?_
  rintro ee w2 ⟨s1, A1, n1, c1, rfl, p1, k1, B⟩
  clear xX10 xX11 xX12
  replace X1 := X1.below B
  replace XR := XR.below B
  replace hT := hT.below B
  replace h := h.below B
  replace HB := Lib.hid (bt HB.out B)
  clear B
  have xX10 := X1.at (i := 0) (v := .bool s) rfl
  have zX10 := X1.frozen 0
  have xX11 := X1.at (i := 1) (v := .slice A n c) rfl
  have zX11 := X1.frozen 1
  have xX12 := X1.at (i := 2) (v := .int .i64 e) rfl
  have zX12 := X1.frozen 2
  go_upto_region 2 with (fail)
  clear xX10 zX10 xX11 zX11 xX12 zX12
  have SX := StN.mk3 X1 (.bool s1) (.slice A1 n1 c1) (.int .i64 E1)
  replace XR := XR.stn SX (by omega)
  replace hT := hT.stn SX (by simp [no8])
  replace h := h.stn SX (by simp [no32])
  replace p1 := p1.stn SX (by simp [no32])
  replace HB := Lib.hid (SX.below HB.out (by omega))
  replace X1 := SX.box
  clear SX
  generalize (World.setCell (World.setCell (World.setCell w2 ⟨w.heap.size, 0, none⟩ (.bool s1)) ⟨w.heap.size, 1, none⟩ (.slice A1 n1 c1)) ⟨w.heap.size, 2, none⟩ (.int .i64 E1)) = w3 at *
  have xX10 := X1.at (i := 0) (v := .bool s1) rfl
  have xX11 := X1.at (i := 1) (v := .slice A1 n1 c1) rfl
  have xX12 := X1.at (i := 2) (v := .int .i64 E1) rfl
  have hd := HD.out
  go_wp2_with fail
  refine (dMake hT p1.wr (by clear hd; omega) HN.out HE.out).mono ?_
  rintro ee w4 ⟨s4, A4, n4, c4, rfl, p4, k4, B⟩
  clear xX10 xX11 xX12
  replace X1 := X1.below B
  replace XR := XR.below B
  replace hT := hT.below B
  replace h := h.below B
  replace p1 := p1.below B
  replace HB := Lib.hid (bt HB.out B)
  clear B
  clear hd
  have xXR0 := XR.at (i := 0) (v := .bool false) rfl
  have zXR0 := XR.frozen 0
  have xXR1 := XR.at (i := 1) (v := .slice none 0 0) rfl
  have zXR1 := XR.frozen 1
  have xXR2 := XR.at (i := 2) (v := .int .i64 0) rfl
  have zXR2 := XR.frozen 2
  go_wp2
  clear xXR0 zXR0 xXR1 zXR1 xXR2 zXR2
  have SX := StN.mk3 XR (.bool s4) (.slice A4 n4 c4) (.int .i64 E)
  replace X1 := X1.stn SX (by omega)
  replace p4 := p4.stn SX (by simp [no32])
  replace HB := Lib.hid (SX.below HB.out (by omega))
  replace XR := SX.box
  clear SX
  generalize (World.setCell (World.setCell (World.setCell w4 ⟨w.heap.size + 1, 0, none⟩ (.bool s4)) ⟨w.heap.size + 1, 1, none⟩ (.slice A4 n4 c4)) ⟨w.heap.size + 1, 2, none⟩ (.int .i64 E)) = w5 at *
  have r0 := XR.cell 0
  have r1 := XR.cell 1
  have r2 := XR.cell 2
  exact bodyPost_ret (v := .agg #[.bool s4, .slice A4 n4 c4, .int .i64 E]) (by simp [results, Tryd.results13, go_sem, r0, r1, r2]) rfl ⟨s4, A4, n4, c4, rfl, p4, by omega, HB.out⟩

set_option maxHeartbeats 4000000 in
theorem dMul {w : World} {A B : Option Addr} {n c m d : Nat} {s t : Bool} {z e y f N E : Int} (hT : Tab w) (h : Wr w s A n c z) (k : Wr w t B m d y) (hn : n ≤ 20000) (hm : m ≤ 20000)
    (hN : (ml (mk z e) (mk y f)).1 = N) (hE : (ml (mk z e) (mk y f)).2 = E) :
    Calls Tryd.prog 24 #[.agg #[.bool s, .slice A n c, .int .i64 e], .agg #[.bool t, .slice B m d, .int .i64 f]] w (D1 w (1 + 2 * 20000) N E) := by
  unfold ml at hN hE
  obtain ⟨b1, b2⟩ := mk_bd z e
  obtain ⟨b3, b4⟩ := mk_bd y f
  revert b1 b2 b3 b4 hN hE
  generalize hN1 : (mk z e).1 = N1
  generalize hE1 : (mk z e).2 = E1
  generalize hN2 : (mk y f).1 = N2
  generalize hE2 : (mk y f).2 = E2
  intro hN hE b1 b2 b3 b4
  have HW : Hid (IntKind.i64.wrap (E1 + E2) = E1 + E2) := Lib.hid (IntWalk.i64_in _ (by omega))
  have HP : Hid (prd [N1, N2] = N1 * N2) := Lib.hid (by simp [prd])
  have HN1 := Lib.hid hN1
  have HE1 := Lib.hid hE1
  have HN2 := Lib.hid hN2
  have HE2 := Lib.hid hE2
  have HN := Lib.hid hN
  have HE := Lib.hid hE
  clear hN hE hN1 hE1 hN2 hE2
  go_enter Tryd.func24, Tryd.ntmps24
  go_upto_region 1 with (fail)
  have X1 := (Bo.newAt w (g := w.heap.size) (by simp) #[.bool s, .slice A n c, .int .i64 e] 27).below (bel2 _ (.cells #[.bool t, .slice B m d, .int .i64 f] 27) (.cells #[.bool false, .slice none 0 0, .int .i64 0] 27))
  have X2 := (Bo.newAt (w.alloc (.cells #[.bool s, .slice A n c, .int .i64 e] 27)) (g := w.heap.size + 1) (by simp) #[.bool t, .slice B m d, .int .i64 f] 27).below (bel1 _ (.cells #[.bool false, .slice none 0 0, .int .i64 0] 27))
  have XR := (Bo.newAt ((w.alloc (.cells #[.bool s, .slice A n c, .int .i64 e] 27)).alloc (.cells #[.bool t, .slice B m d, .int .i64 f] 27)) (g := w.heap.size + 1 + 1) (by simp) #[.bool false, .slice none 0 0, .int .i64 0] 27)
  have HB := Lib.hid (bel3 w (.cells #[.bool s, .slice A n c, .int .i64 e] 27) (.cells #[.bool t, .slice B m d, .int .i64 f] 27) (.cells #[.bool false, .slice none 0 0, .int .i64 0] 27))
  replace hT := hT.below HB.out
  replace h := h.below HB.out
  replace k := k.below HB.out
  generalize hW1 : (((w.alloc (.cells #[.bool s, .slice A n c, .int .i64 e] 27)).alloc (.cells #[.bool t, .slice B m d, .int .i64 f] 27)).alloc (.cells #[.bool false, .slice none 0 0, .int .i64 0] 27)) = w1 at *
  clear hW1
  refine Jo.region_joint (T := [0, 1, 2, 3]) (ds := [some 5, some 6, some 7, some 8, none, none]) (ls := [[], [0], [], [2], [], []]) (k := 6) (L := [(some 5, 0), (some 6, 1), (some 7, 2), (some 8, 3)]) (fuel := 2) (J := fun wj => Below (World.heap w1).size w1 wj)
    (F := [Jo.Fact.eq (.agg #[.bool s, .slice A n c, .int .i64 e]), Jo.Fact.dy N1 E1 n, Jo.Fact.eq (.agg #[.bool t, .slice B m d, .int .i64 f]), Jo.Fact.dy N2 E2 m, Jo.Fact.any, Jo.Fact.any])
    (by kernel_rfl) (by kernel_rfl) (by decide) rfl rfl (fun _ _ h b => bt h b) ((Below.refl _ _).drew) ?_ (fun vs w2 hJ hd => ?_)
  · refine Jo.jcons (i := 0) (o := ⟨some 5, _, _, _, _, _⟩) (di := some 5) (L := []) (f := Jo.Fact.eq (.agg #[.bool s, .slice A n c, .int .i64 e])) rfl rfl rfl rfl (fun vs wj hJ hd K hK => ?_) ?_
    · clear hd
      simp only [Jo.putl, List.foldl_nil, Act.put, List.setIfInBounds_toArray, List.set_cons_zero, List.set_cons_succ] at hK ⊢
      have xX10 : World.cell? wj ⟨w.heap.size, 0, none⟩ = some (.bool s) := (X1.below hJ).cell 0
      have xX11 : World.cell? wj ⟨w.heap.size, 1, none⟩ = some (.slice A n c) := (X1.below hJ).cell 1
      have xX12 : World.cell? wj ⟨w.heap.size, 2, none⟩ = some (.int .i64 e) := (X1.below hJ).cell 2
      go_simp
      exact hK.out _ _ rfl (Below.refl _ _)
    refine Jo.jcons (i := 1) (o := ⟨some 6, _, _, _, _, _⟩) (di := some 6) (L := [(some 5, 0)]) (f := Jo.Fact.dy N1 E1 n) rfl rfl rfl rfl (fun vs wj hJ hd K hK => ?_) ?_
    · have d0 : (Jo.Fact.eq (.agg #[.bool s, .slice A n c, .int .i64 e])).P (vs 0) wj := hd 0 (by decide)
      clear hd
      simp only [Jo.putl, List.foldl_cons, List.foldl_nil, Act.put, List.setIfInBounds_toArray, List.set_cons_zero, List.set_cons_succ] at hK ⊢
      generalize vs 0 = u0 at hK d0 ⊢
      replace d0 : u0 = _ := d0
      subst d0
      go_simp
      refine (dTaken (hT.below hJ) (h.below hJ) (by omega) HN1.out HE1.out).mono ?_
      rintro ee wk ⟨s1, A1, n1, c1, rfl, p1, k1, B⟩
      exact hK.out _ _ ⟨s1, A1, n1, c1, rfl, p1, k1⟩ B
    refine Jo.jcons (i := 2) (o := ⟨some 7, _, _, _, _, _⟩) (di := some 7) (L := []) (f := Jo.Fact.eq (.agg #[.bool t, .slice B m d, .int .i64 f])) rfl rfl rfl rfl (fun vs wj hJ hd K hK => ?_) ?_
    · clear hd
      simp only [Jo.putl, List.foldl_nil, Act.put, List.setIfInBounds_toArray, List.set_cons_zero, List.set_cons_succ] at hK ⊢
      have xX20 : World.cell? wj ⟨w.heap.size + 1, 0, none⟩ = some (.bool t) := (X2.below hJ).cell 0
      have xX21 : World.cell? wj ⟨w.heap.size + 1, 1, none⟩ = some (.slice B m d) := (X2.below hJ).cell 1
      have xX22 : World.cell? wj ⟨w.heap.size + 1, 2, none⟩ = some (.int .i64 f) := (X2.below hJ).cell 2
      go_simp
      exact hK.out _ _ rfl (Below.refl _ _)
    refine Jo.jcons (i := 3) (o := ⟨some 8, _, _, _, _, _⟩) (di := some 8) (L := [(some 7, 2)]) (f := Jo.Fact.dy N2 E2 m) rfl rfl rfl rfl (fun vs wj hJ hd K hK => ?_) ?_
    · have d2 : (Jo.Fact.eq (.agg #[.bool t, .slice B m d, .int .i64 f])).P (vs 2) wj := hd 2 (by decide)
      clear hd
      simp only [Jo.putl, List.foldl_cons, List.foldl_nil, Act.put, List.setIfInBounds_toArray, List.set_cons_zero, List.set_cons_succ] at hK ⊢
      generalize vs 2 = u2 at hK d2 ⊢
      replace d2 : u2 = _ := d2
      subst d2
      go_simp
      refine (dTaken (hT.below hJ) (k.below hJ) (by omega) HN2.out HE2.out).mono ?_
      rintro ee wk ⟨s2, A2, n2, c2, rfl, p2, k2, B⟩
      exact hK.out _ _ ⟨s2, A2, n2, c2, rfl, p2, k2⟩ B
    exact Jo.Steps.nil
  have d0 : (Jo.Fact.eq (.agg #[.bool s, .slice A n c, .int .i64 e])).P (vs 0) w2 := hd 0 (by decide)
  have d1 : (Jo.Fact.dy N1 E1 n).P (vs 1) w2 := hd 1 (by decide)
  have d2 : (Jo.Fact.eq (.agg #[.bool t, .slice B m d, .int .i64 f])).P (vs 2) w2 := hd 2 (by decide)
  have d3 : (Jo.Fact.dy N2 E2 m).P (vs 3) w2 := hd 3 (by decide)
  clear hd
  simp only [Jo.putl, List.foldl_cons, List.foldl_nil, Act.put, List.setIfInBounds_toArray, List.set_cons_zero, List.set_cons_succ]
  generalize vs 0 = u0 at d0 ⊢
  generalize vs 1 = u1 at d1 ⊢
  generalize vs 2 = u2 at d2 ⊢
  generalize vs 3 = u3 at d3 ⊢
  clear vs
  replace d0 : u0 = _ := d0
  subst d0
  obtain ⟨s1, A1, n1, c1, rfl, p1, k1⟩ := d1
  replace d2 : u2 = _ := d2
  subst d2
  obtain ⟨s2, A2, n2, c2, rfl, p2, k2⟩ := d3
  replace X1 := X1.below hJ
  replace X2 := X2.below hJ
  replace XR := XR.below hJ
  replace hT := hT.below hJ
  replace h := h.below hJ
  replace k := k.below hJ
  replace HB := Lib.hid (bt HB.out hJ)
  have xX10 := X1.at (i := 0) (v := .bool s) rfl
  have zX10 := X1.frozen 0
  have xX11 := X1.at (i := 1) (v := .slice A n c) rfl
  have zX11 := X1.frozen 1
  have xX12 := X1.at (i := 2) (v := .int .i64 e) rfl
  have zX12 := X1.frozen 2
  refine Jo.jnext (i := 4) (o := ⟨none, _, _, _, _, _⟩) (by kernel_rfl) rfl (fun K hK => ?_)
  go_simp
  refine hK.out _ _ ?_
  clear hK K xX10 zX10 xX11 zX11 xX12 zX12
  have SX := StN.mk3 X1 (.bool s1) (.slice A1 n1 c1) (.int .i64 E1)
  replace X2 := X2.stn SX (by omega)
  replace XR := XR.stn SX (by omega)
  replace hT := hT.stn SX (by simp [no8])
  replace h := h.stn SX (by simp [no32])
  replace k := k.stn SX (by simp [no32])
  replace p1 := p1.stn SX (by simp [no32])
  replace p2 := p2.stn SX (by simp [no32])
  replace HB := Lib.hid (SX.below HB.out (by omega))
  replace X1 := SX.box
  clear SX
  generalize (World.setCell (World.setCell (World.setCell w2 ⟨w.heap.size, 0, none⟩ (.bool s1)) ⟨w.heap.size, 1, none⟩ (.slice A1 n1 c1)) ⟨w.heap.size, 2, none⟩ (.int .i64 E1)) = w3 at *
  have xX20 := X2.at (i := 0) (v := .bool t) rfl
  have zX20 := X2.frozen 0
  have xX21 := X2.at (i := 1) (v := .slice B m d) rfl
  have zX21 := X2.frozen 1
  have xX22 := X2.at (i := 2) (v := .int .i64 f) rfl
  have zX22 := X2.frozen 2
  refine Jo.jnext (i := 5) (o := ⟨none, _, _, _, _, _⟩) (by kernel_rfl) rfl (fun K hK => ?_)
  go_simp
  refine hK.out _ _ ?_
  clear hK K xX20 zX20 xX21 zX21 xX22 zX22
  have SX := StN.mk3 X2 (.bool s2) (.slice A2 n2 c2) (.int .i64 E2)
  replace X1 := X1.stn SX (by omega)
  replace XR := XR.stn SX (by omega)
  replace hT := hT.stn SX (by simp [no8])
  replace h := h.stn SX (by simp [no32])
  replace k := k.stn SX (by simp [no32])
  replace p1 := p1.stn SX (by simp [no32])
  replace p2 := p2.stn SX (by simp [no32])
  replace HB := Lib.hid (SX.below HB.out (by omega))
  replace X2 := SX.box
  clear SX
  generalize (World.setCell (World.setCell (World.setCell w3 ⟨w.heap.size + 1, 0, none⟩ (.bool s2)) ⟨w.heap.size + 1, 1, none⟩ (.slice A2 n2 c2)) ⟨w.heap.size + 1, 2, none⟩ (.int .i64 E2)) = w4 at *
  refine Jo.jdone (by kernel_rfl) ?_
  go_upto_region 2 with (fail)
  refine Jo.region_joint (T := [0, 1, 2, 3, 4, 5, 6, 7, 8, 9, 10, 11]) (ds := [some 9, some 10, some 11, some 12, some 13, some 14, some 15, some 16, some 17, some 18, some 19, some 20, none]) (ls := [[], [0], [], [2], [1, 3], [4], [], [6], [], [8], [7, 9], [5, 10], []]) (k := 13) (L := [(some 9, 0), (some 10, 1), (some 11, 2), (some 12, 3), (some 13, 4), (some 14, 5), (some 15, 6), (some 16, 7), (some 17, 8), (some 18, 9), (some 19, 10), (some 20, 11)]) (fuel := 1) (J := fun wj => Below (World.heap w4).size w4 wj)
    (F := [Jo.Fact.eq (.pointer (some ⟨w.heap.size, 0, none⟩)), Jo.Fact.eq (.agg #[.bool s1, .slice A1 n1 c1]), Jo.Fact.eq (.pointer (some ⟨w.heap.size + 1, 0, none⟩)), Jo.Fact.eq (.agg #[.bool s2, .slice A2 n2 c2]), Jo.Fact.wl 20000 2 [N1, N2], Jo.Fact.wn (N1 * N2) (1 + 2 * 20000), Jo.Fact.eq (.pointer (some ⟨w.heap.size, 2, none⟩)), Jo.Fact.eq (.int .i64 E1), Jo.Fact.eq (.pointer (some ⟨w.heap.size + 1, 2, none⟩)), Jo.Fact.eq (.int .i64 E2), Jo.Fact.eq (.int .i64 (E1 + E2)), Jo.Fact.dy N E (1 + 2 * 20000), Jo.Fact.any])
    (by kernel_rfl) (by kernel_rfl) (by decide) rfl rfl (fun _ _ h b => bt h b) ((Below.refl _ _).drew) ?_ (fun vs w5 hJ hd => ?_)
  · refine Jo.jcons (i := 0) (o := ⟨some 9, _, _, _, _, _⟩) (di := some 9) (L := []) (f := Jo.Fact.eq (.pointer (some ⟨w.heap.size, 0, none⟩))) rfl rfl rfl rfl (fun vs wj hJ hd K hK => ?_) ?_
    · clear hd
      simp only [Jo.putl, List.foldl_nil, Act.put, List.setIfInBounds_toArray, List.set_cons_zero, List.set_cons_succ] at hK ⊢
      go_simp
      exact hK.out _ _ rfl (Below.refl _ _)
    refine Jo.jcons (i := 1) (o := ⟨some 10, _, _, _, _, _⟩) (di := some 10) (L := [(some 9, 0)]) (f := Jo.Fact.eq (.agg #[.bool s1, .slice A1 n1 c1])) rfl rfl rfl rfl (fun vs wj hJ hd K hK => ?_) ?_
    · have d0 : (Jo.Fact.eq (.pointer (some ⟨w.heap.size, 0, none⟩))).P (vs 0) wj := hd 0 (by decide)
      clear hd
      simp only [Jo.putl, List.foldl_cons, List.foldl_nil, Act.put, List.setIfInBounds_toArray, List.set_cons_zero, List.set_cons_succ] at hK ⊢
      generalize vs 0 = u0 at hK d0 ⊢
      replace d0 : u0 = _ := d0
      subst d0
      have xX10 : World.cell? wj ⟨w.heap.size, 0, none⟩ = some (.bool s1) := (X1.below hJ).cell 0
      have xX11 : World.cell? wj ⟨w.heap.size, 1, none⟩ = some (.slice A1 n1 c1) := (X1.below hJ).cell 1
      have xX12 : World.cell? wj ⟨w.heap.size, 2, none⟩ = some (.int .i64 E1) := (X1.below hJ).cell 2
      go_simp
      exact hK.out _ _ rfl (Below.refl _ _)
    refine Jo.jcons (i := 2) (o := ⟨some 11, _, _, _, _, _⟩) (di := some 11) (L := []) (f := Jo.Fact.eq (.pointer (some ⟨w.heap.size + 1, 0, none⟩))) rfl rfl rfl rfl (fun vs wj hJ hd K hK => ?_) ?_
    · clear hd
      simp only [Jo.putl, List.foldl_nil, Act.put, List.setIfInBounds_toArray, List.set_cons_zero, List.set_cons_succ] at hK ⊢
      go_simp
      exact hK.out _ _ rfl (Below.refl _ _)
    refine Jo.jcons (i := 3) (o := ⟨some 12, _, _, _, _, _⟩) (di := some 12) (L := [(some 11, 2)]) (f := Jo.Fact.eq (.agg #[.bool s2, .slice A2 n2 c2])) rfl rfl rfl rfl (fun vs wj hJ hd K hK => ?_) ?_
    · have d2 : (Jo.Fact.eq (.pointer (some ⟨w.heap.size + 1, 0, none⟩))).P (vs 2) wj := hd 2 (by decide)
      clear hd
      simp only [Jo.putl, List.foldl_cons, List.foldl_nil, Act.put, List.setIfInBounds_toArray, List.set_cons_zero, List.set_cons_succ] at hK ⊢
      generalize vs 2 = u2 at hK d2 ⊢
      replace d2 : u2 = _ := d2
      subst d2
      have xX20 : World.cell? wj ⟨w.heap.size + 1, 0, none⟩ = some (.bool s2) := (X2.below hJ).cell 0
      have xX21 : World.cell? wj ⟨w.heap.size + 1, 1, none⟩ = some (.slice A2 n2 c2) := (X2.below hJ).cell 1
      have xX22 : World.cell? wj ⟨w.heap.size + 1, 2, none⟩ = some (.int .i64 E2) := (X2.below hJ).cell 2
      go_simp
      exact hK.out _ _ rfl (Below.refl _ _)
    refine Jo.jcons (i := 4) (o := ⟨some 13, _, _, _, _, _⟩) (di := some 13) (L := [(some 10, 1), (some 12, 3)]) (f := Jo.Fact.wl 20000 2 [N1, N2]) rfl rfl rfl rfl (fun vs wj hJ hd K hK => ?_) ?_
    · have d1 : (Jo.Fact.eq (.agg #[.bool s1, .slice A1 n1 c1])).P (vs 1) wj := hd 1 (by decide)
      have d3 : (Jo.Fact.eq (.agg #[.bool s2, .slice A2 n2 c2])).P (vs 3) wj := hd 3 (by decide)
      clear hd
      simp only [Jo.putl, List.foldl_cons, List.foldl_nil, Act.put, List.setIfInBounds_toArray, List.set_cons_zero, List.set_cons_succ] at hK ⊢
      generalize vs 1 = u1 at hK d1 ⊢
      generalize vs 3 = u3 at hK d3 ⊢
      replace d1 : u1 = _ := d1
      subst d1
      replace d3 : u3 = _ := d3
      subst d3
      go_simp
      exact hK.out _ _ ⟨_, 2, rfl, Wl.lit2 rfl (p1.wr.below hJ) (p2.wr.below hJ) (by omega) (by omega)⟩ (bel1 _ _)
    refine Jo.jcons (i := 5) (o := ⟨some 14, _, _, _, _, _⟩) (di := some 14) (L := [(some 13, 4)]) (f := Jo.Fact.wn (N1 * N2) (1 + 2 * 20000)) rfl rfl rfl rfl (fun vs wj hJ hd K hK => ?_) ?_
    · have d4 : (Jo.Fact.wl 20000 2 [N1, N2]).P (vs 4) wj := hd 4 (by decide)
      clear hd
      simp only [Jo.putl, List.foldl_cons, List.foldl_nil, Act.put, List.setIfInBounds_toArray, List.set_cons_zero, List.set_cons_succ] at hK ⊢
      generalize vs 4 = u4 at hK d4 ⊢
      obtain ⟨A3, c3, rfl, p3⟩ := d4
      go_simp
      refine (wMul p3 (by omega) HP.out).mono ?_
      rintro ee wk ⟨s4, A4, n4, c4, rfl, p4, k4, B⟩
      exact hK.out _ _ ⟨s4, A4, n4, c4, rfl, p4, k4⟩ B
    refine Jo.jcons (i := 6) (o := ⟨some 15, _, _, _, _, _⟩) (di := some 15) (L := []) (f := Jo.Fact.eq (.pointer (some ⟨w.heap.size, 2, none⟩))) rfl rfl rfl rfl (fun vs wj hJ hd K hK => ?_) ?_
    · clear hd
      simp only [Jo.putl, List.foldl_nil, Act.put, List.setIfInBounds_toArray, List.set_cons_zero, List.set_cons_succ] at hK ⊢
      go_simp
      exact hK.out _ _ rfl (Below.refl _ _)
    refine Jo.jcons (i := 7) (o := ⟨some 16, _, _, _, _, _⟩) (di := some 16) (L := [(some 15, 6)]) (f := Jo.Fact.eq (.int .i64 E1)) rfl rfl rfl rfl (fun vs wj hJ hd K hK => ?_) ?_
    · have d6 : (Jo.Fact.eq (.pointer (some ⟨w.heap.size, 2, none⟩))).P (vs 6) wj := hd 6 (by decide)
      clear hd
      simp only [Jo.putl, List.foldl_cons, List.foldl_nil, Act.put, List.setIfInBounds_toArray, List.set_cons_zero, List.set_cons_succ] at hK ⊢
      generalize vs 6 = u6 at hK d6 ⊢
      replace d6 : u6 = _ := d6
      subst d6
      have xX10 : World.cell? wj ⟨w.heap.size, 0, none⟩ = some (.bool s1) := (X1.below hJ).cell 0
      have xX11 : World.cell? wj ⟨w.heap.size, 1, none⟩ = some (.slice A1 n1 c1) := (X1.below hJ).cell 1
      have xX12 : World.cell? wj ⟨w.heap.size, 2, none⟩ = some (.int .i64 E1) := (X1.below hJ).cell 2
      go_simp
      exact hK.out _ _ rfl (Below.refl _ _)
    refine Jo.jcons (i := 8) (o := ⟨some 17, _, _, _, _, _⟩) (di := some 17) (L := []) (f := Jo.Fact.eq (.pointer (some ⟨w.heap.size + 1, 2, none⟩))) rfl rfl rfl rfl (fun vs wj hJ hd K hK => ?_) ?_
    · clear hd
      simp only [Jo.putl, List.foldl_nil, Act.put, List.setIfInBounds_toArray, List.set_cons_zero, List.set_cons_succ] at hK ⊢
      go_simp
      exact hK.out _ _ rfl (Below.refl _ _)
    refine Jo.jcons (i := 9) (o := ⟨some 18, _, _, _, _, _⟩) (di := some 18) (L := [(some 17, 8)]) (f := Jo.Fact.eq (.int .i64 E2)) rfl rfl rfl rfl (fun vs wj hJ hd K hK => ?_) ?_
    · have d8 : (Jo.Fact.eq (.pointer (some ⟨w.heap.size + 1, 2, none⟩))).P (vs 8) wj := hd 8 (by decide)
      clear hd
      simp only [Jo.putl, List.foldl_cons, List.foldl_nil, Act.put, List.setIfInBounds_toArray, List.set_cons_zero, List.set_cons_succ] at hK ⊢
      generalize vs 8 = u8 at hK d8 ⊢
      replace d8 : u8 = _ := d8
      subst d8
      have xX20 : World.cell? wj ⟨w.heap.size + 1, 0, none⟩ = some (.bool s2) := (X2.below hJ).cell 0
      have xX21 : World.cell? wj ⟨w.heap.size + 1, 1, none⟩ = some (.slice A2 n2 c2) := (X2.below hJ).cell 1
      have xX22 : World.cell? wj ⟨w.heap.size + 1, 2, none⟩ = some (.int .i64 E2) := (X2.below hJ).cell 2
      go_simp
      exact hK.out _ _ rfl (Below.refl _ _)
    refine Jo.jcons (i := 10) (o := ⟨some 19, _, _, _, _, _⟩) (di := some 19) (L := [(some 16, 7), (some 18, 9)]) (f := Jo.Fact.eq (.int .i64 (E1 + E2))) rfl rfl rfl rfl (fun vs wj hJ hd K hK => ?_) ?_
    · have d7 : (Jo.Fact.eq (.int .i64 E1)).P (vs 7) wj := hd 7 (by decide)
      have d9 : (Jo.Fact.eq (.int .i64 E2)).P (vs 9) wj := hd 9 (by decide)
      clear hd
      simp only [Jo.putl, List.foldl_cons, List.foldl_nil, Act.put, List.setIfInBounds_toArray, List.set_cons_zero, List.set_cons_succ] at hK ⊢
      generalize vs 7 = u7 at hK d7 ⊢
      generalize vs 9 = u9 at hK d9 ⊢
      replace d7 : u7 = _ := d7
      subst d7
      replace d9 : u9 = _ := d9
      subst d9
      have hw := HW.out
      go_simp
      exact hK.out _ _ rfl (Below.refl _ _)
    refine Jo.jcons (i := 11) (o := ⟨some 20, _, _, _, _, _⟩) (di := some 20) (L := [(some 14, 5), (some 19, 10)]) (f := Jo.Fact.dy N E (1 + 2 * 20000)) rfl rfl rfl rfl (fun vs wj hJ hd K hK => ?_) ?_
    · have d5 : (Jo.Fact.wn (N1 * N2) (1 + 2 * 20000)).P (vs 5) wj := hd 5 (by decide)
      have d10 : (Jo.Fact.eq (.int .i64 (E1 + E2))).P (vs 10) wj := hd 10 (by decide)
      clear hd
      simp only [Jo.putl, List.foldl_cons, List.foldl_nil, Act.put, List.setIfInBounds_toArray, List.set_cons_zero, List.set_cons_succ] at hK ⊢
      generalize vs 5 = u5 at hK d5 ⊢
      generalize vs 10 = u10 at hK d10 ⊢
      obtain ⟨s4, A4, n4, c4, rfl, p4, k4⟩ := d5
      replace d10 : u10 = _ := d10
      subst d10
      go_simp
      refine (dMake (hT.below hJ) p4.wr (by omega) HN.out HE.out).mono ?_
      rintro ee wk ⟨s5, A5, n5, c5, rfl, p5, k5, B⟩
      exact hK.out _ _ ⟨s5, A5, n5, c5, rfl, p5, Nat.le_trans k5 k4⟩ B
    exact Jo.Steps.nil
  have d0 : (Jo.Fact.eq (.pointer (some ⟨w.heap.size, 0, none⟩))).P (vs 0) w5 := hd 0 (by decide)
  have d1 : (Jo.Fact.eq (.agg #[.bool s1, .slice A1 n1 c1])).P (vs 1) w5 := hd 1 (by decide)
  have d2 : (Jo.Fact.eq (.pointer (some ⟨w.heap.size + 1, 0, none⟩))).P (vs 2) w5 := hd 2 (by decide)
  have d3 : (Jo.Fact.eq (.agg #[.bool s2, .slice A2 n2 c2])).P (vs 3) w5 := hd 3 (by decide)
  have d4 : (Jo.Fact.wl 20000 2 [N1, N2]).P (vs 4) w5 := hd 4 (by decide)
  have d5 : (Jo.Fact.wn (N1 * N2) (1 + 2 * 20000)).P (vs 5) w5 := hd 5 (by decide)
  have d6 : (Jo.Fact.eq (.pointer (some ⟨w.heap.size, 2, none⟩))).P (vs 6) w5 := hd 6 (by decide)
  have d7 : (Jo.Fact.eq (.int .i64 E1)).P (vs 7) w5 := hd 7 (by decide)
  have d8 : (Jo.Fact.eq (.pointer (some ⟨w.heap.size + 1, 2, none⟩))).P (vs 8) w5 := hd 8 (by decide)
  have d9 : (Jo.Fact.eq (.int .i64 E2)).P (vs 9) w5 := hd 9 (by decide)
  have d10 : (Jo.Fact.eq (.int .i64 (E1 + E2))).P (vs 10) w5 := hd 10 (by decide)
  have d11 : (Jo.Fact.dy N E (1 + 2 * 20000)).P (vs 11) w5 := hd 11 (by decide)
  clear hd
  simp only [Jo.putl, List.foldl_cons, List.foldl_nil, Act.put, List.setIfInBounds_toArray, List.set_cons_zero, List.set_cons_succ]
  generalize vs 0 = u0 at d0 ⊢
  generalize vs 1 = u1 at d1 ⊢
  generalize vs 2 = u2 at d2 ⊢
  generalize vs 3 = u3 at d3 ⊢
  generalize vs 4 = u4 at d4 ⊢
  generalize vs 5 = u5 at d5 ⊢
  generalize vs 6 = u6 at d6 ⊢
  generalize vs 7 = u7 at d7 ⊢
  generalize vs 8 = u8 at d8 ⊢
  generalize vs 9 = u9 at d9 ⊢
  generalize vs 10 = u10 at d10 ⊢
  generalize vs 11 = u11 at d11 ⊢
  clear vs
  replace d0 : u0 = _ := d0
  subst d0
  replace d1 : u1 = _ := d1
  subst d1
  replace d2 : u2 = _ := d2
  subst d2
  replace d3 : u3 = _ := d3
  subst d3
  obtain ⟨A3, c3, rfl, _⟩ := d4
  obtain ⟨s4, A4, n4, c4, rfl, _, _⟩ := d5
  replace d6 : u6 = _ := d6
  subst d6
  replace d7 : u7 = _ := d7
  subst d7
  replace d8 : u8 = _ := d8
  subst d8
  replace d9 : u9 = _ := d9
  subst d9
  replace d10 : u10 = _ := d10
  subst d10
  obtain ⟨s5, A5, n5, c5, rfl, p5, k5⟩ := d11
  replace X1 := X1.below hJ
  replace X2 := X2.below hJ
  replace XR := XR.below hJ
  replace hT := hT.below hJ
  replace h := h.below hJ
  replace k := k.below hJ
  replace p1 := p1.below hJ
  replace p2 := p2.below hJ
  replace HB := Lib.hid (bt HB.out hJ)
  have xXR0 := XR.at (i := 0) (v := .bool false) rfl
  have zXR0 := XR.frozen 0
  have xXR1 := XR.at (i := 1) (v := .slice none 0 0) rfl
  have zXR1 := XR.frozen 1
  have xXR2 := XR.at (i := 2) (v := .int .i64 0) rfl
  have zXR2 := XR.frozen 2
  refine Jo.jnext (i := 12) (o := ⟨none, _, _, _, _, _⟩) (by kernel_rfl) rfl (fun K hK => ?_)
  go_simp
  refine hK.out _ _ ?_
  clear hK K xXR0 zXR0 xXR1 zXR1 xXR2 zXR2
  have SX := StN.mk3 XR (.bool s5) (.slice A5 n5 c5) (.int .i64 E)
  replace X1 := X1.stn SX (by omega)
  replace X2 := X2.stn SX (by omega)
  replace p5 := p5.stn SX (by simp [no32])
  replace HB := Lib.hid (SX.below HB.out (by omega))
  replace XR := SX.box
  clear SX
  generalize (World.setCell (World.setCell (World.setCell w5 ⟨w.heap.size + 1 + 1, 0, none⟩ (.bool s5)) ⟨w.heap.size + 1 + 1, 1, none⟩ (.slice A5 n5 c5)) ⟨w.heap.size + 1 + 1, 2, none⟩ (.int .i64 E)) = w6 at *
  refine Jo.jdone (by kernel_rfl) ?_
  go_wp2
  have r0 := XR.cell 0
  have r1 := XR.cell 1
  have r2 := XR.cell 2
  exact bodyPost_ret (v := .agg #[.bool s5, .slice A5 n5 c5, .int .i64 E]) (by simp [results, Tryd.results24, go_sem, r0, r1, r2]) rfl ⟨s5, A5, n5, c5, rfl, p5, k5, HB.out⟩
end Go.Proofs.YteoeoppkefcmdaaDoor

/-
  Order and floor of numbers times powers of two, in plain arithmetic; lists of such numbers in memory.
-/
namespace Go.Proofs.YteoeoppkefcmdaaDoor
open Go.RowKit
set_option linter.unusedVariables false

theorem sg_of (x : Int) : sg (decide (x < 0)) x.natAbs = x := by
  by_cases h : x < 0
  · simp [sg, h]; omega
  · simp [sg, h]; omega
theorem cmpI_cases (x : Int) : (x < 0 ∧ cmpI x 0 = -1) ∨ (x = 0 ∧ cmpI x 0 = 0) ∨ (0 < x ∧ cmpI x 0 = 1) := by
  rcases Int.lt_trichotomy x 0 with h | h | h
  · exact .inl ⟨h, cmpI_lt h⟩
  · exact .inr (.inl ⟨h, cmpI_eq h⟩)
  · exact .inr (.inr ⟨h, cmpI_gt h⟩)
/-- With the same sign: what differs in greatness tells the order. -/
theorem cmpI_abs {x y t : Int} (hs : cmpI x 0 = cmpI y 0) (ht : cmpI (x.natAbs : Int) (y.natAbs : Int) = t) : cmpI x 0 * t = cmpI x y := by
  have := cmp_same (s := decide (x < 0)) (t := decide (y < 0)) (a := x.natAbs) (b := y.natAbs) (by rw [sg_of, sg_of]; exact hs)
  rw [sg_of, sg_of, ht] at this
  exact this
theorem vl_natAbs (p : Int × Int) : (vl p).natAbs = p.1.natAbs * 2 ^ (p.2 + KK).toNat := natAbs_mul_pow _ _
theorem blen_lt_lt {a b : Nat} (h : blen a < blen b) : a < b := by
  have h1 := blen_lt a
  by_cases hb : b = 0
  · subst hb; rw [blen_zero] at h; omega
  · have h2 := blen_le hb
    have h3 : 2 ^ blen a ≤ 2 ^ (blen b - 1) := Nat.pow_le_pow_right (by decide) (by omega)
    omega
theorem vl_cmp_top {p q : Int × Int} {t : Int} (hp : Nf p) (hq : Nf q) (hs : cmpI p.1 0 = cmpI q.1 0) (ht : cmpI (((blen p.1.natAbs : Nat) : Int) + p.2) (((blen q.1.natAbs : Nat) : Int) + q.2) = t) (h0 : t ≠ 0) : cmpI p.1 0 * t = cmpI (vl p) (vl q) := by
  have b1 := hp.bd
  have b2 := hq.bd
  by_cases hz : p.1 = 0
  · have hz2 : q.1 = 0 := by
      rw [hz, cmpI_eq rfl] at hs
      exact cmpI_zero.1 hs.symm
    rw [hp.zero hz, hq.zero hz2] at ht
    exact absurd (ht.symm.trans (cmpI_eq rfl)) h0
  · have hz2 : q.1 ≠ 0 := fun e => by
      rw [e, cmpI_eq rfl] at hs
      exact hz (cmpI_zero.1 hs)
    have hh : cmpI ((vl p).natAbs : Int) ((vl q).natAbs : Int) = t := by
      have e1 : blen (vl p).natAbs = blen p.1.natAbs + (p.2 + KK).toNat := by rw [vl_natAbs, blen_shl (by omega)]
      have e2 : blen (vl q).natAbs = blen q.1.natAbs + (q.2 + KK).toNat := by rw [vl_natAbs, blen_shl (by omega)]
      rw [KK_eq] at e1 e2
      rcases Int.lt_trichotomy (((blen p.1.natAbs : Nat) : Int) + p.2) (((blen q.1.natAbs : Nat) : Int) + q.2) with h | h | h
      · rw [← ht, cmpI_lt h]
        refine cmpI_lt ?_
        have := blen_lt_lt (a := (vl p).natAbs) (b := (vl q).natAbs) (by omega)
        omega
      · exact absurd (ht.symm.trans (cmpI_eq h)) h0
      · rw [← ht, cmpI_gt h]
        refine cmpI_gt ?_
        have := blen_lt_lt (a := (vl q).natAbs) (b := (vl p).natAbs) (by omega)
        omega
    have := cmpI_abs (x := vl p) (y := vl q) (by rw [vl_sign, vl_sign]; exact hs) hh
    rw [vl_sign] at this
    exact this
theorem vl_cmp_low {p q : Int × Int} {l : Int} (h1 : l ≤ p.2) (h2 : l ≤ q.2) (h3 : -4194304 ≤ l) : cmpI (p.1 * 2 ^ (p.2 - l).toNat) (q.1 * 2 ^ (q.2 - l).toNat) = cmpI (vl p) (vl q) := by
  rw [← cmpI_scale (p2pos (l + KK).toNat)]
  unfold vl
  have k1 : (p.2 - l).toNat + (l + KK).toNat = (p.2 + KK).toNat := by rw [KK_eq]; omega
  have k2 : (q.2 - l).toNat + (l + KK).toNat = (q.2 + KK).toNat := by rw [KK_eq]; omega
  rw [Int.mul_assoc, Int.mul_assoc, ← Int.pow_add, ← Int.pow_add, k1, k2]
/-- The floor of an odd number, halved at least once. -/
theorem flr_neg {N E : Int} (hE : E < 0) (ho : N.natAbs % 2 = 1) (hN : N < 0) : flr N E = -((N.natAbs / 2 ^ (-E).toNat + 1 : Nat) : Int) := by
  unfold flr
  rw [if_neg (by omega)]
  obtain ⟨k, hk⟩ : ∃ k, (-E).toNat = k + 1 := ⟨(-E).toNat - 1, by omega⟩
  rw [hk]
  have hp : 0 < 2 ^ (k + 1) := Nat.pow_pos (by decide)
  have hd := Nat.div_add_mod N.natAbs (2 ^ (k + 1))
  have hm : N.natAbs % 2 ^ (k + 1) ≠ 0 := by
    intro e
    rw [e, Nat.pow_succ, Nat.add_zero] at hd
    have : N.natAbs % 2 = 0 := by rw [← hd, Nat.mul_comm _ 2, Nat.mul_assoc]; exact Nat.mul_mod_right _ _
    omega
  have hlt := Nat.mod_lt N.natAbs hp
  revert hd hm hlt
  generalize N.natAbs % 2 ^ (k + 1) = r
  generalize N.natAbs / 2 ^ (k + 1) = q
  generalize 2 ^ (k + 1) = P at *
  intro hd hm hlt
  have e1 : N = -((P : Int) * q) - r := by
    have : ((P * q + r : Nat) : Int) = (N.natAbs : Int) := by rw [hd]
    rw [Int.natCast_add, Int.natCast_mul] at this
    omega
  have := (div_un (x := N) (y := (P : Int)) (q := -((q + 1 : Nat) : Int)) (r := (P : Int) - r) (by omega) (by
    rw [e1, Int.natCast_add, Int.mul_neg, Int.mul_add]
    omega) (fun _ => by omega) (fun h => by omega)).1
  exact this.symm
theorem flr_pos {N E : Int} (hE : E < 0) (hN : 0 ≤ N) : flr N E = ((N.natAbs / 2 ^ (-E).toNat : Nat) : Int) := by
  unfold flr
  rw [if_neg (by omega)]
  have hN2 : N = (N.natAbs : Int) := by omega
  generalize (-E).toNat = k
  rw [hN2, Int.natAbs_natCast]
  generalize N.natAbs = a
  rw [Int.fdiv_eq_ediv_of_nonneg _ (Int.natCast_nonneg _)]
  rfl

/-- A slice of numbers times powers of two, as they came in or as they are. -/
def Dl (w : World) (A : Option Addr) (n c K : Nat) (l : List (Int × Int)) : Prop :=
  l.length = n ∧ n ≤ c ∧ n ≤ 1099511627776 ∧ (0 < n → ∃ b o, A = some ⟨b, o, none⟩ ∧ ∀ k, k < n → ∃ s B m d, w.cell? ⟨b, o + k * 3, none⟩ = some (.bool s) ∧ w.cell? ⟨b, o + k * 3 + 1, none⟩ = some (.slice B m d) ∧ w.cell? ⟨b, o + k * 3 + 2, none⟩ = some (.int .i64 (l.getD k (0, 0)).2) ∧ Wr w s B m d (l.getD k (0, 0)).1 ∧ m ≤ K)
theorem Dl.below {w w' : World} {A : Option Addr} {n c K : Nat} {l : List (Int × Int)} (h : Dl w A n c K l) (hb : Below w.heap.size w w') : Dl w' A n c K l := by
  obtain ⟨h1, h2, h3, h4⟩ := h
  refine ⟨h1, h2, h3, fun hn => ?_⟩
  obtain ⟨b, o, e, hc⟩ := h4 hn
  refine ⟨b, o, e, fun k hk => ?_⟩
  obtain ⟨s, B, m, d, c0, c1, c2, hw, hm⟩ := hc k hk
  exact ⟨s, B, m, d, (hb.cell (p := ⟨b, _, none⟩) (block_lt_of_cell c0)).trans c0, (hb.cell (p := ⟨b, _, none⟩) (block_lt_of_cell c1)).trans c1, (hb.cell (p := ⟨b, _, none⟩) (block_lt_of_cell c2)).trans c2, hw.below hb, hm⟩
theorem Dl.lit2 {W : World} {g K : Nat} {s1 s2 : Bool} {A1 A2 : Option Addr} {n1 c1 n2 c2 : Nat} {z1 z2 e1 e2 : Int} (hg : W.heap.size = g)
    (h1 : Wr W s1 A1 n1 c1 z1) (h2 : Wr W s2 A2 n2 c2 z2) (k1 : n1 ≤ K) (k2 : n2 ≤ K) :
    Dl (W.alloc (.cells #[.bool s1, .slice A1 n1 c1, .int .i64 e1, .bool s2, .slice A2 n2 c2, .int .i64 e2] 27)) (some ⟨g, 0, none⟩) 2 2 K [(z1, e1), (z2, e2)] := by
  subst hg
  have hh := heap_alloc_new W (.cells #[.bool s1, .slice A1 n1 c1, .int .i64 e1, .bool s2, .slice A2 n2 c2, .int .i64 e2] 27)
  refine ⟨rfl, Nat.le_refl _, by decide, fun _ => ⟨_, 0, rfl, fun k hk => ?_⟩⟩
  rcases (by omega : k = 0 ∨ k = 1) with rfl | rfl
  · exact ⟨s1, A1, n1, c1, by rw [cell_of_row _ _ _ _ _ _ hh]; rfl, by rw [cell_of_row _ _ _ _ _ _ hh]; rfl, by rw [cell_of_row _ _ _ _ _ _ hh]; rfl, h1.below (bel1 _ _), k1⟩
  · exact ⟨s2, A2, n2, c2, by rw [cell_of_row _ _ _ _ _ _ hh]; rfl, by rw [cell_of_row _ _ _ _ _ _ hh]; rfl, by rw [cell_of_row _ _ _ _ _ _ hh]; rfl, h2.below (bel1 _ _), k2⟩
theorem Dl.lit3 {W : World} {g K : Nat} {s1 s2 s3 : Bool} {A1 A2 A3 : Option Addr} {n1 c1 n2 c2 n3 c3 : Nat} {z1 z2 z3 e1 e2 e3 : Int} (hg : W.heap.size = g)
    (h1 : Wr W s1 A1 n1 c1 z1) (h2 : Wr W s2 A2 n2 c2 z2) (h3 : Wr W s3 A3 n3 c3 z3) (k1 : n1 ≤ K) (k2 : n2 ≤ K) (k3 : n3 ≤ K) :
    Dl (W.alloc (.cells #[.bool s1, .slice A1 n1 c1, .int .i64 e1, .bool s2, .slice A2 n2 c2, .int .i64 e2, .bool s3, .slice A3 n3 c3, .int .i64 e3] 27)) (some ⟨g, 0, none⟩) 3 3 K [(z1, e1), (z2, e2), (z3, e3)] := by
  subst hg
  have hh := heap_alloc_new W (.cells #[.bool s1, .slice A1 n1 c1, .int .i64 e1, .bool s2, .slice A2 n2 c2, .int .i64 e2, .bool s3, .slice A3 n3 c3, .int .i64 e3] 27)
  refine ⟨rfl, Nat.le_refl _, by decide, fun _ => ⟨_, 0, rfl, fun k hk => ?_⟩⟩
  rcases (by omega : k = 0 ∨ k = 1 ∨ k = 2) with rfl | rfl | rfl
  · exact ⟨s1, A1, n1, c1, by rw [cell_of_row _ _ _ _ _ _ hh]; rfl, by rw [cell_of_row _ _ _ _ _ _ hh]; rfl, by rw [cell_of_row _ _ _ _ _ _ hh]; rfl, h1.below (bel1 _ _), k1⟩
  · exact ⟨s2, A2, n2, c2, by rw [cell_of_row _ _ _ _ _ _ hh]; rfl, by rw [cell_of_row _ _ _ _ _ _ hh]; rfl, by rw [cell_of_row _ _ _ _ _ _ hh]; rfl, h2.below (bel1 _ _), k2⟩
  · exact ⟨s3, A3, n3, c3, by rw [cell_of_row _ _ _ _ _ _ hh]; rfl, by rw [cell_of_row _ _ _ _ _ _ hh]; rfl, by rw [cell_of_row _ _ _ _ _ _ hh]; rfl, h3.below (bel1 _ _), k3⟩
def Jo.Fact.dl (K n : Nat) (l : List (Int × Int)) : Jo.Fact := ⟨fun v w => ∃ A c, v = .slice A n c ∧ Dl w A n c K l, fun v w w' h b => by
  obtain ⟨A, c, e, h⟩ := h
  exact ⟨A, c, e, h.below b⟩⟩
/-- So great at most, by limbs. -/
def Lm (z : Int) : Prop := ∃ L, L ≤ 20000 ∧ z.natAbs < 4294967296 ^ L
theorem Fit.lm {h : Nat} {p : Int × Int} (f : Fit h p) (hh : h ≤ 300000) : Lm p.1 := by
  refine ⟨h / 16 + 1, by omega, Nat.lt_of_lt_of_le f.abs ?_⟩
  rw [show (4294967296 : Nat) = 2 ^ 32 by decide, ← Nat.pow_mul]
  exact Nat.pow_le_pow_right (by decide) (by omega)
theorem Wn.lm {w : World} {s : Bool} {A : Option Addr} {n c : Nat} {z : Int} (h : Wn w s A n c z) (hz : Lm z) : n ≤ 20000 := by
  obtain ⟨L, h1, h2⟩ := hz
  exact Nat.le_trans (h.len_le h2) h1
/-- Two that can be summed: not too far apart. -/
def Near (p q : Int × Int) : Prop := p.1 ≠ 0 → q.1 ≠ 0 → p.2 - q.2 ≤ 640000 ∧ q.2 - p.2 ≤ 640000
theorem Fit.near {h k : Nat} {p q : Int × Int} (f : Fit h p) (g : Fit k q) (hh : h + k ≤ 640000) : Near p q := fun _ _ => by
  have := f.lo; have := f.hi; have := g.lo; have := g.hi
  omega
/-- A list that can be summed, one behind the other. -/
def Can (l : List (Int × Int)) : Prop := ∀ k, k < l.length → Lm (smd (l.take k)).1 ∧ Near (smd (l.take k)) (mk (l.getD k (0, 0)).1 (l.getD k (0, 0)).2) ∧ Lm (smd (l.take (k + 1))).1
theorem can_of_fit {h : Nat} {l : List (Int × Int)} (hh : h + l.length ≤ 300000) (hp : ∀ p ∈ l, Fit h (mk p.1 p.2)) : Can l := by
  intro k hk
  have f1 := smd_fit l (by omega) hp k (by omega)
  have f2 := smd_fit l (by omega) hp (k + 1) (by omega)
  have hm : l.getD k (0, 0) ∈ l := by
    rw [List.getD_eq_getElem?_getD, List.getElem?_eq_getElem hk]
    exact List.getElem_mem _
  exact ⟨f1.lm (by omega), f1.near (hp _ hm) (by omega), f2.lm (by omega)⟩
end Go.Proofs.YteoeoppkefcmdaaDoor
