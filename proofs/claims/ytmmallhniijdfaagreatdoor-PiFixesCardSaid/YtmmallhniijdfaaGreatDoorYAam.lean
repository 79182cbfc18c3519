/-
 Contracts that the proof rests on.
-/
import Derived.Test.YtmmallhniijdfaaGreatDoorYAal
namespace Go.Proofs.YtmmallhniijdfaaGreatDoor
set_option maxHeartbeats 4000000
open Go.RowKit
set_option linter.unusedVariables false
theorem rAddE {w : World} {A1 A2 : Option Addr} {n m c1 c2 a b r : Nat} (h1 : Rd w A1 n c1 a) (h2 : Rd w A2 m c2 b) (hn : n ≤ 1073741824) (hm : m ≤ 1073741824) (hr : a + b = r) :
   Calls Tryz.prog 66 #[.slice A1 n c1, .slice A2 m c2] w (P1 w (n + m + 1) r) := hr ▸ rAdd h1 h2 hn hm
theorem div_uniq {x d q r : Nat} (h : x = d * q + r) (hr : r < d) : x / d = q ∧ x % d = r := by
 subst h; rw [Nat.mul_add_div (by omega), Nat.mul_add_mod, Nat.div_eq_of_lt hr, Nat.mod_eq_of_lt hr]; exact ⟨rfl, rfl⟩
theorem div_bit {A d b : Nat} (hd : 0 < d) (hb : b ≤ 1) :
   (d ≤ 2 * (A % d) + b → (2 * A + b) / d = 2 * (A / d) + 1 ∧ (2 * A + b) % d = 2 * (A % d) + b - d) ∧ (2 * (A % d) + b < d → (2 * A + b) / d = 2 * (A / d) ∧ (2 * A + b) % d = 2 * (A % d) + b) := by
 have h1 := div_split A d; have h2 := Nat.mod_lt A hd
 constructor
 · intro h
   refine div_uniq ?_ (by omega)
   have : d * (2 * (A / d) + 1) = 2 * (A / d * d) + d := by grind
   omega
 · intro h
   refine div_uniq ?_ h
   have : d * (2 * (A / d)) = 2 * (A / d * d) := by grind
   omega
theorem quo_bit {Q i : Nat} : Q * 2 ^ (i + 1) / 2 ^ i % 2 = 0 := by
 rw [Nat.pow_succ, ← Nat.mul_assoc, Nat.mul_right_comm, Nat.mul_div_cancel _ (Nat.two_pow_pos i)]
 omega
theorem rDiv {w : World} {A1 A2 : Option Addr} {n m c1 c2 a d : Nat} (h1 : Rd w A1 n c1 a) (h2 : Rd w A2 m c2 d) (hn : n ≤ 268435456) (hm : m ≤ 268435456) (hd : d ≠ 0) :
   Calls Tryz.prog 102 #[.slice A1 n c1, .slice A2 m c2] w (P3 w n (a / d) (a % d)) := by
 have hd0 : 0 < d := Nat.pos_of_ne_zero hd
 have hLb := h1.blen_le; have hLa := blen_lt a; have hl1 := Nat.le_trans (limbs_length_mono (Nat.div_le_self a d)) h1.limbs_le; have hl2 := Nat.le_trans (limbs_length_mono (Nat.mod_le a d)) h1.limbs_le; have HT := Lib.hid (rTrim h2)
 go_enter Tryz.func102, Tryz.ntmps102
 go_wp2_with fail
 refine HT.out.mono ?_; rintro e w3 ⟨Ad, p, cd, rfl, sd, kd, B3⟩; have sa := h1.below B3
 have hp : p ≠ 0 := fun e => hd (limbs_length_zero.1 (by rw [sd.len, e]))
 have hp0 : ((p : Int) == 0) = false := by simpa using hp
 have HB3 := Lib.hid B3; clear HT B3 h1 h2 hp
 go_wp2_with fail
 refine (rLen sa rfl).mono ?_; rintro e w4 ⟨rfl, B4⟩; replace sa := sa.below B4; replace sd := sd.below B4; have HB4 := Lib.hid (HB3.out.trans (B4.mono HB3.out.size)); clear B4 HB3
 have HD0 : Hid (a / 2 ^ blen a = 0) := Nat.div_eq_of_lt hLa
 have hdm : d < 4294967296 ^ m := Nat.lt_of_lt_of_le sd.rd.bound (Nat.pow_le_pow_right (by decide) kd)
 have HDM := Lib.hid hdm; clear hLa hdm
 revert hLb HD0
 generalize blen a = L
 intro hLb HD0
 go_wp2
 go_loopw [8, 9, 10] (fun vq vr i wr => ∃ k : Nat, k ≤ L ∧ i = .int .i64 ((L : Int) - 1 - k) ∧ ∃ Aq lq cq Ar lr cr, vq = .slice Aq lq cq ∧ vr = .slice Ar lr cr ∧ Rd wr Aq lq cq (a / 2 ^ (L - k) / d * 2 ^ (L - k)) ∧ Nm wr Ar lr cr (a / 2 ^ (L - k) % d) ∧ lq ≤ n ∧
     Rd wr A1 n c1 a ∧ Nm wr Ad p cd d ∧ Below w.heap.size w wr) (fun _ _ i _ => (intOf i + 1).toNat)
 case atStart => exact ⟨0, Nat.zero_le _, by go_num, none, 0, 0, none, 0, 0, rfl, rfl, by rw [Nat.sub_zero, HD0.out, Nat.zero_div, Nat.zero_mul]; exact Nm.zero.rd, by rw [Nat.sub_zero, HD0.out, Nat.zero_mod]; exact Nm.zero, by omega, sa, sd, HB4.out⟩
 case round =>
   clear sa sd HB4; obtain ⟨k, hk, rfl, Aq, lq, cq, Ar, lr, cr, rfl, rfl, sq, sr, hlq, sa, sd, hbl⟩ := hrel; have HB := Lib.hid hbl; clear hbl
   by_cases hlt : k < L
   · have hi0 : 0 ≤ (L : Int) - 1 - k := by omega
     obtain ⟨i, hi⟩ : ∃ i, L - 1 - k = i := ⟨_, rfl⟩
     have hij : L - k = i + 1 := by omega
     have ei : (L : Int) - 1 - k = (i : Int) := by omega
     have hin : i / 32 + 1 ≤ n := by omega
     have hib : i ≤ 34359738368 := by omega
     rw [hij] at sq sr
     have hnext : L - (k + 1) = i := by omega
     have hlr : lr ≤ m := by
       rw [← sr.len]; exact limbs_length_le (Nat.lt_trans (Nat.mod_lt _ hd0) HDM.out)
     have hbt := bit_on a d i; obtain ⟨bt, hbte⟩ : ∃ bt, a / 2 ^ i % 2 = bt := ⟨_, rfl⟩
     have hb1 : bt ≤ 1 := by omega
     rw [hbte] at hbt; have hstep := div_bit (A := a / 2 ^ (i + 1)) (b := bt) hd0 hb1; rw [← hbt] at hstep; obtain ⟨Q, hQ⟩ : ∃ Q, a / 2 ^ (i + 1) / d = Q := ⟨_, rfl⟩; obtain ⟨r, hr⟩ : ∃ r, a / 2 ^ (i + 1) % d = r := ⟨_, rfl⟩; rw [hQ, hr] at hstep; rw [hQ] at sq; rw [hr] at sr
     have hrd : r < d := by rw [← hr]; exact Nat.mod_lt _ hd0
     have HQ2 := Lib.hid (quo_bit (Q := Q) (i := i))
     have hpp : Q * 2 ^ (i + 1) = 2 * Q * 2 ^ i := by rw [Nat.pow_succ]; grind
     have E1 : Hid (r + r = 2 * r) := by show _ = _; omega
     have HIS : Hid (d ≤ 2 * r + bt → Q * 2 ^ (i + 1) + 2 ^ i = a / 2 ^ (L - (k + 1)) / d * 2 ^ (L - (k + 1)) ∧ 2 * r + bt - d = a / 2 ^ (L - (k + 1)) % d) := fun h => by
       obtain ⟨x1, x2⟩ := hstep.1 h; rw [hnext, x1, x2, hpp]; exact ⟨by grind, rfl⟩
     have HNO : Hid (2 * r + bt < d → Q * 2 ^ (i + 1) = a / 2 ^ (L - (k + 1)) / d * 2 ^ (L - (k + 1)) ∧ 2 * r + bt = a / 2 ^ (L - (k + 1)) % d) := fun h => by
       obtain ⟨x1, x2⟩ := hstep.2 h; rw [hnext, x1, x2, hpp]; exact ⟨rfl, rfl⟩
     have HBT := Lib.hid hbte; clear hbt hi hij hnext hstep  hpp hQ hr hbte
     by_cases hbz : bt = 0
     · subst hbz
       have ET : Hid (decide (a / 2 ^ i % 2 = 1) = false) := by show _ = _; rw [HBT.out]; rfl
       by_cases hle : d ≤ 2 * r
       · obtain ⟨x, hx⟩ : ∃ x, 2 * r - d = x := ⟨_, rfl⟩; have E3 := Lib.hid hx; have HQN := Lib.hid (HIS.out hle).1
         have HRN : Hid (x = a / 2 ^ (L - (k + 1)) % d) := by show _ = _; rw [← hx]; exact (HIS.out hle).2
         clear hx HIS HNO HBT
         go_wp2_with (first
           | (go_at_call 66; ((with_reducible refine (rAddE sr.rd sr.rd (by omega) (by omega) E1.out).mono ?_); rintro e w2 ⟨A2, n2, c2, rfl, s2, k2, B⟩; replace sa := sa.below B; replace sd := sd.below B; replace sq := sq.below B; replace HB := Lib.hid (HB.out.trans (B.mono HB.out.size)); clear B))
           | (go_at_call 129; ((with_reducible refine (rBit sa i (by omega) ET.out).mono ?_); rintro e w3 ⟨rfl, B⟩; replace sa := sa.below B; replace sd := sd.below B; replace sq := sq.below B; replace s2 := s2.below B; replace HB := Lib.hid (HB.out.trans (B.mono HB.out.size)); clear B))
           | (go_at_call 67; ((with_reducible refine (rSub s2.rd sd.rd hle E3.out).mono ?_); rintro e w5 ⟨A5, n5, c5, rfl, s5, k5, B⟩; replace sa := sa.below B; replace sd := sd.below B; replace sq := sq.below B; replace HB := Lib.hid (HB.out.trans (B.mono HB.out.size)); clear B))
           | (go_at_call 130; ((with_reducible refine (rSet sq i (by omega) (by omega) HQ2.out).mono ?_); rintro e w6 ⟨A6, n6, c6, rfl, s6, k6, B⟩; replace sa := sa.below B; replace sd := sd.below B; replace s5 := s5.below B; replace HB := Lib.hid (HB.out.trans (B.mono HB.out.size)); clear B)))
         go_roundw
         case rel => exact ⟨k + 1, by omega, by congr 1; omega, _, _, _, _, _, _, rfl, rfl, (by rw [HQN.out] at s6; exact s6), (by rw [HRN.out] at s5; exact s5), by omega, sa, sd, HB.out⟩
         case measure => simp [intOf]; omega
       · have hlt2 : 2 * r < d := by omega
         have HQN := Lib.hid (HNO.out hlt2).1
         have HRN : Hid (2 * r = a / 2 ^ (L - (k + 1)) % d) := (HNO.out hlt2).2
         clear HIS HNO HBT hle
         go_wp2_with (first
           | (go_at_call 66; ((with_reducible refine (rAddE sr.rd sr.rd (by omega) (by omega) E1.out).mono ?_); rintro e w2 ⟨A2, n2, c2, rfl, s2, k2, B⟩; replace sa := sa.below B; replace sd := sd.below B; replace sq := sq.below B; replace HB := Lib.hid (HB.out.trans (B.mono HB.out.size)); clear B))
           | (go_at_call 129; ((with_reducible refine (rBit sa i (by omega) ET.out).mono ?_); rintro e w3 ⟨rfl, B⟩; replace sa := sa.below B; replace sd := sd.below B; replace sq := sq.below B; replace s2 := s2.below B; replace HB := Lib.hid (HB.out.trans (B.mono HB.out.size)); clear B))
           | (go_at_call 67; ((with_reducible refine (rSub_lt s2.rd sd.rd hlt2).mono ?_); rintro e w5 ⟨rfl, B⟩; replace sa := sa.below B; replace sd := sd.below B; replace sq := sq.below B; replace s2 := s2.below B; replace HB := Lib.hid (HB.out.trans (B.mono HB.out.size)); clear B)))
         go_roundw
         case rel => exact ⟨k + 1, by omega, by congr 1; omega, _, _, _, _, _, _, rfl, rfl, (by rw [HQN.out] at sq; exact sq), (by rw [HRN.out] at s2; exact s2), by omega, sa, sd, HB.out⟩
         case measure => simp [intOf]; omega
     · obtain rfl : bt = 1 := by omega
       have ET : Hid (decide (a / 2 ^ i % 2 = 1) = true) := by show _ = _; rw [HBT.out]; rfl
       have E2 : Hid (2 * r + 1 = 2 * r + 1) := rfl
       by_cases hle : d ≤ 2 * r + 1
       · obtain ⟨x, hx⟩ : ∃ x, 2 * r + 1 - d = x := ⟨_, rfl⟩; have E3 := Lib.hid hx; have HQN := Lib.hid (HIS.out hle).1
         have HRN : Hid (x = a / 2 ^ (L - (k + 1)) % d) := by show _ = _; rw [← hx]; exact (HIS.out hle).2
         clear hx HIS HNO HBT
         go_wp2_with (first
           | (go_at_call 66; ((with_reducible refine (rAddE sr.rd sr.rd (by omega) (by omega) E1.out).mono ?_); rintro e w2 ⟨A2, n2, c2, rfl, s2, k2, B⟩; replace sa := sa.below B; replace sd := sd.below B; replace sq := sq.below B; replace HB := Lib.hid (HB.out.trans (B.mono HB.out.size)); clear B))
           | (go_at_call 129; ((with_reducible refine (rBit sa i (by omega) ET.out).mono ?_); rintro e w3 ⟨rfl, B⟩; replace sa := sa.below B; replace sd := sd.below B; replace sq := sq.below B; replace s2 := s2.below B; replace HB := Lib.hid (HB.out.trans (B.mono HB.out.size)); clear B))
           | (go_at_call 66; ((with_reducible refine (rAddE (s2.below (alloc_below w3 (.cells #[.int .u32 1] 54))).rd (one_rd w3) (by omega) (by omega) rfl).mono ?_); rintro e w4 ⟨A4, n4, c4, rfl, s4, k4, B⟩; replace sa := sa.below (alloc_below w3 (.cells #[.int .u32 1] 54)); replace sd := sd.below (alloc_below w3 (.cells #[.int .u32 1] 54)); replace sq := sq.below (alloc_below w3 (.cells #[.int .u32 1] 54)); replace HB := Lib.hid (HB.out.alloc HB.out.size (.cells #[.int .u32 1] 54)); replace sa := sa.below B; replace sd := sd.below B; replace sq := sq.below B; replace HB := Lib.hid (HB.out.trans (B.mono HB.out.size)); clear B))
           | (go_at_call 67; ((with_reducible refine (rSub s4.rd sd.rd hle E3.out).mono ?_); rintro e w5 ⟨A5, n5, c5, rfl, s5, k5, B⟩; replace sa := sa.below B; replace sd := sd.below B; replace sq := sq.below B; replace HB := Lib.hid (HB.out.trans (B.mono HB.out.size)); clear B))
           | (go_at_call 130; ((with_reducible refine (rSet sq i (by omega) (by omega) HQ2.out).mono ?_); rintro e w6 ⟨A6, n6, c6, rfl, s6, k6, B⟩; replace sa := sa.below B; replace sd := sd.below B; replace s5 := s5.below B; replace HB := Lib.hid (HB.out.trans (B.mono HB.out.size)); clear B)))
         go_roundw
         case rel => exact ⟨k + 1, by omega, by congr 1; omega, _, _, _, _, _, _, rfl, rfl, (by rw [HQN.out] at s6; exact s6), (by rw [HRN.out] at s5; exact s5), by omega, sa, sd, HB.out⟩
         case measure => simp [intOf]; omega
       · have hlt2 : 2 * r + 1 < d := by omega
         have HQN := Lib.hid (HNO.out hlt2).1; have HRN := Lib.hid (HNO.out hlt2).2; clear HIS HNO HBT hle
         go_wp2_with (first
           | (go_at_call 66; ((with_reducible refine (rAddE sr.rd sr.rd (by omega) (by omega) E1.out).mono ?_); rintro e w2 ⟨A2, n2, c2, rfl, s2, k2, B⟩; replace sa := sa.below B; replace sd := sd.below B; replace sq := sq.below B; replace HB := Lib.hid (HB.out.trans (B.mono HB.out.size)); clear B))
           | (go_at_call 129; ((with_reducible refine (rBit sa i (by omega) ET.out).mono ?_); rintro e w3 ⟨rfl, B⟩; replace sa := sa.below B; replace sd := sd.below B; replace sq := sq.below B; replace s2 := s2.below B; replace HB := Lib.hid (HB.out.trans (B.mono HB.out.size)); clear B))
           | (go_at_call 66; ((with_reducible refine (rAddE (s2.below (alloc_below w3 (.cells #[.int .u32 1] 54))).rd (one_rd w3) (by omega) (by omega) rfl).mono ?_); rintro e w4 ⟨A4, n4, c4, rfl, s4, k4, B⟩; replace sa := sa.below (alloc_below w3 (.cells #[.int .u32 1] 54)); replace sd := sd.below (alloc_below w3 (.cells #[.int .u32 1] 54)); replace sq := sq.below (alloc_below w3 (.cells #[.int .u32 1] 54)); replace HB := Lib.hid (HB.out.alloc HB.out.size (.cells #[.int .u32 1] 54)); replace sa := sa.below B; replace sd := sd.below B; replace sq := sq.below B; replace HB := Lib.hid (HB.out.trans (B.mono HB.out.size)); clear B))
           | (go_at_call 67; ((with_reducible refine (rSub_lt s4.rd sd.rd hlt2).mono ?_); rintro e w5 ⟨rfl, B⟩; replace sa := sa.below B; replace sd := sd.below B; replace sq := sq.below B; replace s4 := s4.below B; replace HB := Lib.hid (HB.out.trans (B.mono HB.out.size)); clear B)))
         go_roundw
         case rel => exact ⟨k + 1, by omega, by congr 1; omega, _, _, _, _, _, _, rfl, rfl, (by rw [HQN.out] at sq; exact sq), (by rw [HRN.out] at s4; exact s4), by omega, sa, sd, HB.out⟩
         case measure => simp [intOf]; omega
   · obtain rfl : k = L := by omega
     rw [Nat.sub_self, Nat.pow_zero, Nat.div_one, Nat.mul_one] at sq; rw [Nat.sub_self, Nat.pow_zero, Nat.div_one] at sr
     go_wp2_with (first
       | (go_at_call 71; ((with_reducible refine (rTrim sq).mono ?_); rintro e w6 ⟨A6, n6, c6, rfl, s6, k6, B⟩; replace sr := sr.below B; replace HB := Lib.hid (HB.out.trans (B.mono HB.out.size)); clear B))
       | (go_at_call 71; ((with_reducible refine (rTrim sr.rd).mono ?_); rintro e w7 ⟨A7, n7, c7, rfl, s7, k7, B⟩; replace s6 := s6.below B; replace HB := Lib.hid (HB.out.trans (B.mono HB.out.size)); clear B)))
     go_ret3
     have e6 := s6.len; have e7 := s7.len; exact ⟨A6, n6, c6, A7, n7, c7, rfl, s6, s7, by omega, by omega, HB.out⟩
theorem lit_pow2 (W : World) (s o : Nat) (ho : 2 ^ s = o) (hs : s < 32) : Rd (W.alloc (.cells #[.int .u32 (o : Int)] 54)) (some ⟨W.heap.size, 0, none⟩) 1 1 (2 ^ s) := by
 have hb : o < 4294967296 := by rw [← ho]; exact Nat.pow_lt_pow_right (n := 32) (by decide) hs
 exact ⟨_, _, lit1 W o hb, by rw [ho]; simp [val]⟩
theorem sl_drop {w : World} {b o n c : Nat} {xs : List Nat} (h : Sl w b (some ⟨b, o, none⟩) n c xs) {q : Nat} (hq : q < n) : Sl w b (some ⟨b, o + q, none⟩) (n - q) (c - q) (xs.drop q) := by
 obtain ⟨o', e, hc⟩ := h.at (by omega)
 injection e with e
 injection e with _ e
 subst e
 exact ⟨by rw [List.length_drop, h.len], by have := h.cap; omega, by have := h.big; omega, h.lim.drop q, fun _ => ⟨o + q, rfl, fun k hk => by rw [Nat.add_assoc, hc (q + k) (by omega), getD_drop]⟩⟩
theorem rShr_low {w : World} {A1 : Option Addr} {n c1 a : Nat} (z : Int) (h1 : Rd w A1 n c1 a) (hz : z < 1) : Calls Tryz.prog 114 #[.slice A1 n c1, .int .i64 z] w (P1 w n a) := by
 have HT := Lib.hid (rTrim h1); clear h1
 go_enter Tryz.func114, Tryz.ntmps114
 go_wp2_with (go_at_call 71; ((with_reducible refine HT.out.mono ?_); rintro e w6 ⟨A6, n6, c6, rfl, s6, k6, B⟩))
 go_ret
 exact ⟨A6, n6, c6, rfl, s6, k6, B⟩
theorem rShr_all {w : World} {A1 : Option Addr} {n c1 : Nat} (z : Int) (hz : 1 ≤ z) (hn : 32 * (n : Int) ≤ z) (hb : n ≤ 268435456) : Calls Tryz.prog 114 #[.slice A1 n c1, .int .i64 z] w fun e w' => e = .returned (.slice none 0 0) ∧ Below w.heap.size w w' := by
 go_enter Tryz.func114, Tryz.ntmps114
 go_wp2
 go_ret
 exact ⟨rfl, Below.refl _ _⟩
theorem rShr_mid {w : World} {A1 : Option Addr} {n c1 a : Nat} (z : Nat) (h1 : Rd w A1 n c1 a) (hn : n ≤ 268435456) (hz1 : 1 ≤ z) (hz : z < 32 * n) : Calls Tryz.prog 114 #[.slice A1 n c1, .int .i64 (z : Int)] w (P1 w n (a / 2 ^ z)) := by
 obtain ⟨b1, xs, h1, rfl⟩ := h1; have hl := Nat.le_trans (limbs_length_mono (Nat.div_le_self (val xs) (2 ^ z))) (by have := val_limbs_le h1.lim; rw [h1.len] at this; exact this); obtain ⟨o1, rfl, _⟩ := h1.at (by omega)
 have hq : (z : Int) / 32 = ((z / 32 : Nat) : Int) := by omega
 have hs : (z : Int) % 32 = ((z % 32 : Nat) : Int) := by omega
 have HP : Hid (2 ^ z = 4294967296 ^ (z / 32) * 2 ^ (z % 32)) := by show _ = _; rw [← pow_split, show 32 * (z / 32) + z % 32 = z by omega]
 have hs32 : z % 32 < 32 := Nat.mod_lt _ (by decide)
 have hqb : z / 32 < n := by omega
 revert hq hs HP hs32 hqb
 generalize z / 32 = q; generalize z % 32 = s
 intro hq hs HP hs32 hqb
 obtain ⟨o, ho⟩ : ∃ o, 2 ^ s = o := ⟨_, rfl⟩
 have eo : (2 : Int) ^ s = (o : Int) := by rw [← ho]; simp
 have bo : o < 4294967296 := by rw [← ho]; exact Nat.pow_lt_pow_right (n := 32) (by decide) hs32
 have HO := Lib.hid ho; clear ho; have hcap := h1.cap
 have hcne : ¬ (c1 = q) := by omega
 have HT := Lib.hid (rTrim ⟨b1, _, sl_drop h1 hqb, val_drop_div h1.lim q⟩); clear h1
 go_enter Tryz.func114, Tryz.ntmps114
 go_wp2_with (first
   | (go_at_call 71; ((with_reducible refine HT.out.mono ?_); rintro e w6 ⟨A6, n6, c6, rfl, s6, k6, B⟩; have HB := Lib.hid B; clear B))
   | (go_at_call 102; ((with_reducible refine (rDiv (s6.below (alloc_below w6 (.cells #[.int .u32 (o : Int)] 54))).rd (lit_pow2 w6 s o HO.out hs32) (by omega) (by omega) (Nat.pos_iff_ne_zero.1 (Nat.two_pow_pos s))).mono ?_); rintro e w7 ⟨A7, n7, c7, A8, n8, c8, rfl, s7, s8, k7, k8, B⟩; replace HB := Lib.hid ((HB.out.alloc HB.out.size (.cells #[.int .u32 (o : Int)] 54)).trans (B.mono (HB.out.alloc HB.out.size (.cells #[.int .u32 (o : Int)] 54)).size)); clear B)))
 go_ret
 rw [Nat.div_div_eq_div_mul, ← HP.out] at s7; exact ⟨A7, n7, c7, rfl, s7, by omega, HB.out⟩
theorem rShrP {w : World} {A1 : Option Addr} {n c1 a : Nat} (z : Int) (h1 : Rd w A1 n c1 a) (hn : n ≤ 268435456) : Calls Tryz.prog 114 #[.slice A1 n c1, .int .i64 z] w (P1 w n (a / 2 ^ z.toNat)) := by
 by_cases h0 : z < 1
 · rw [show z.toNat = 0 by omega, Nat.pow_zero, Nat.div_one]
   exact rShr_low z h1 h0
 · by_cases h2 : 32 * (n : Int) ≤ z
   · have e : a / 2 ^ z.toNat = 0 := by
       apply Nat.div_eq_of_lt
       have := h1.bound
       rw [pow32] at this; exact Nat.lt_of_lt_of_le this (Nat.pow_le_pow_right (by decide) (by omega))
     rw [e]; refine (rShr_all z (by omega) h2 hn).mono ?_; rintro e w' ⟨rfl, B⟩; exact ⟨none, 0, 0, rfl, Nm.zero, Nat.zero_le _, B⟩
   · obtain ⟨k, rfl⟩ := Int.eq_ofNat_of_zero_le (show 0 ≤ z by omega)
     rw [Int.toNat_natCast]; exact rShr_mid k h1 hn (by omega) (by omega)
theorem Own.ar {w : World} {g base : Nat} {l : List Nat} (h : Own w g l) (hl : Lim l) (hb : base ≤ g) (hn : l.length ≤ 1099511627776) : Ar w base (some ⟨g, 0, none⟩) l.length l.length l :=
 ⟨⟨by simp, Or.inr ⟨g, l.length, arr l, rfl, hb, h, Nat.le_refl _, by unfold maxLen; omega, by simp [arr], by show (l.map u32).take (l.length * 1) = _; rw [Nat.mul_one, List.take_of_length_le (by simp)]⟩⟩, hl⟩
theorem rShl_low {w : World} {A1 : Option Addr} {n c1 a : Nat} (z : Int) (h1 : Rd w A1 n c1 a) (hz : z < 1) : Calls Tryz.prog 37 #[.slice A1 n c1, .int .i64 z] w (P1 w n a) := by
 have HT := Lib.hid (rTrim h1); clear h1
 go_enter Tryz.func37, Tryz.ntmps37
 go_wp2_with (go_at_call 71; ((with_reducible refine HT.out.mono ?_); rintro e w6 ⟨A6, n6, c6, rfl, s6, k6, B⟩))
 go_ret
 exact ⟨A6, n6, c6, rfl, s6, k6, B⟩
theorem lit_pow (W : World) (s o : Nat) (ho : 2 ^ s = o) (hs : s < 32) : Rd (W.alloc (.cells #[.int .u32 (o : Int)] 54)) (some ⟨W.heap.size, 0, none⟩) 1 1 (2 ^ s) := by
 have hb : o < 4294967296 := by rw [← ho]; exact Nat.pow_lt_pow_right (n := 32) (by decide) hs
 exact ⟨_, _, lit1 W o hb, by rw [ho]; simp [val]⟩
theorem rShl {w : World} {A1 : Option Addr} {n c1 a : Nat} (z : Nat) (h1 : Rd w A1 n c1 a) (hn : n ≤ 134217728) (hz1 : 1 ≤ z) (hz : z ≤ 16777216) : Calls Tryz.prog 37 #[.slice A1 n c1, .int .i64 (z : Int)] w (P1 w (n + z / 32 + 1) (a * 2 ^ z)) := by
 obtain ⟨b1, xs, h1, rfl⟩ := h1
 have hq : (z : Int) / 32 = ((z / 32 : Nat) : Int) := by omega
 have hs : (z : Int) % 32 = ((z % 32 : Nat) : Int) := by omega
 have HP : Hid (2 ^ z = 4294967296 ^ (z / 32) * 2 ^ (z % 32)) := by show _ = _; rw [← pow_split, show 32 * (z / 32) + z % 32 = z by omega]
 have hs32 : z % 32 < 32 := Nat.mod_lt _ (by decide)
 have hqb : z / 32 ≤ 524288 := by omega
 revert hq hs HP hs32 hqb
 generalize z / 32 = q; generalize z % 32 = s
 intro hq hs HP hs32 hqb
 obtain ⟨o, ho⟩ : ∃ o, 2 ^ s = o := ⟨_, rfl⟩
 have eo : (2 : Int) ^ s = (o : Int) := by rw [← ho]; simp
 have bo : o < 4294967296 := by rw [← ho]; exact Nat.pow_lt_pow_right (n := 32) (by decide) hs32
 have HO := Lib.hid ho; clear ho
 have hmk := fun W => run_make32' q (q : Int) rfl (by omega) W
 have ar1 := (Own.new w (List.replicate q 0)).ar (base := w.heap.size) (Lim.replicate q) (Nat.le_refl _) (by simp; omega); rw [List.length_replicate] at ar1; have s1 := h1.below (alloc_below w (.cells (arr (List.replicate q 0)) 54))
 go_enter Tryz.func37, Tryz.ntmps37
 go_wp2_with (with_reducible refine wpList_app rfl (.tmp 16) (.tmp 17) 23 rfl Tryz.underlying23 rfl rfl ar1 s1 (by omega) (alloc_below w _).size ?_; intro A2 c2 w2 ha2 hb2)
 obtain ⟨g2, s2⟩ := ha2.slice (by omega); have hbl := (alloc_below w (.cells (arr (List.replicate q 0)) 54)).trans hb2; have hal := alloc_below w2 (.cells #[.int .u32 (o : Int)] 54)
 have r2 : Rd (w2.alloc (.cells #[.int .u32 (o : Int)] 54)) A2 (q + n) c2 (4294967296 ^ q * val xs) := ⟨g2, _, s2.below hal, by rw [val_append, val_zeros, List.length_replicate, Nat.zero_add]⟩
 have HM := Lib.hid (rMul r2 (lit_pow w2 s o HO.out hs32) (by omega) (by omega) (show 4294967296 ^ q * val xs * 2 ^ s = val xs * 2 ^ z by rw [HP.out]; grind))
 have HB := Lib.hid (hbl.trans (hal.mono hbl.size)); clear ha2 hb2 s2 hbl hal r2 hmk ar1 s1
 go_wp2_with (go_at_call 72; ((with_reducible refine HM.out.mono ?_); rintro e w6 ⟨A6, n6, c6, rfl, s6, k6, B⟩))
 go_ret
 exact ⟨A6, n6, c6, rfl, s6, by omega, HB.out.trans (B.mono HB.out.size)⟩
end Go.Proofs.YtmmallhniijdfaaGreatDoor
