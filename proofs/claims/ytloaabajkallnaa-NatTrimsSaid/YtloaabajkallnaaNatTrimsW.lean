/-
  The walk of NatTrims: for all arguments, the call answers true, and nothing that was there has turned.
-/
import Derived.Test.YtloaabajkallnaaLaw
import Derived.Test.YtloaabajkallnaaApp
namespace Go.Proofs.Ytloaabajkallnaa
open Go.RowKit
set_option linter.unusedVariables false

theorem vTrimL {w : World} {A1 : Option Addr} {n c1 a k : Nat} (h1 : Rd w A1 n c1 a) (hk : (limbs a).length = k) : Calls Try.prog 21 #[.slice A1 n c1] w (fun e w' => ∃ A c, e = .returned (.slice A k c) ∧ Nm w' A k c a ∧ Below w.heap.size w w') := by
  refine (vTrim h1).mono ?_
  rintro e w' ⟨A, m, c, rfl, hm, _, hb⟩
  obtain rfl : m = k := by rw [← hm.len]; exact hk
  exact ⟨A, c, rfl, hm, hb⟩

/-- A slice, with noughts behind it. -/
def TrimsInv (w : World) (xs : List Nat) (n k : Nat) (v : Value) (wr : World) : Prop :=
  ∃ A c, v = .slice A (n + k) c ∧ Go.Proofs.Ytloaabajkallnaa.Ar wr w.heap.size A (n + k) c (xs ++ List.replicate k 0) ∧ Below w.heap.size w wr

set_option maxRecDepth 100000 in
set_option maxHeartbeats 4000000 in
theorem natTrims_walk (a0 : Option Addr) (len0 cap0 : Nat) (z0 : List Int) (a1 : Option Addr) (len1 cap1 : Nat) (z1 : List Int) (a2 : Int) (w : World) (w0 : RowIn w a0 len0 cap0 z0) (w1 : RowIn w a1 len1 cap1 z1) (w2 : (Lit.int .i64 a2).wf = true) :
    Calls Try.prog 10 #[.slice a0 len0 cap0, .slice a1 len1 cap1, .int .i64 a2] w fun e w' => e = .returned (.bool true) ∧ Below w.heap.size w w' := by
  have l0 := w0.len
  have l1 := w1.len
  by_cases hf0 : len0 ≤ 20
  · have t0 : decide ((20 : Int) < len0) = false := by simp; omega
    by_cases hf1 : len1 ≤ 20
    · have t1 : decide ((20 : Int) < len1) = false := by simp; omega
      by_cases hn : 0 ≤ a2
      · by_cases hn2 : a2 ≤ 10
        · obtain ⟨a, sa⟩ := w0.rd (by omega)
          obtain ⟨b, sb⟩ := w1.rd (by omega)
          obtain ⟨s, rfl⟩ := Int.eq_ofNat_of_zero_le hn
          clear w0 w1 w2
          have hs10 : s ≤ 10 := by omega
          have t2 : decide ((s : Int) < 0) = false := by simp
          have t3 : decide ((10 : Int) < (s : Int)) = false := by simp; omega
          obtain ⟨k, hk⟩ : ∃ k, (limbs a).length = k := ⟨_, rfl⟩
          obtain ⟨z, hz⟩ : ∃ z : Int, ((blen a : Nat) : Int) = z := ⟨_, rfl⟩
          have HN := Lib.hid hk
          have HL := Lib.hid hz
          clear hk hz hn hn2
          go_enter Try.func10, Try.ntmps10
          go_wp2_with fail
          refine (awake_any _).mono ?_
          rintro e wa ⟨rfl, B⟩
          replace sa := sa.below B
          replace sb := sb.below B
          have HBa := Lib.hid B
          clear B
          obtain ⟨ba, xs, ha, hv⟩ := sa
          have HV := Lib.hid hv
          clear hv
          go_wp2_with (with_reducible refine wpList_app rfl (.const (.slice none 0 0)) (.tmp 38) 22 rfl Try.underlying22 rfl rfl (Ar.nil wa wa.heap.size) ha (by omega) (Nat.le_refl _) ?_; intro A2 c2 w2 ha2 hb2)
          rw [Nat.zero_add, List.nil_append] at ha2
          have HI : Hid (TrimsInv wa xs len0 0 (.slice A2 len0 c2) w2) := ⟨A2, c2, rfl, by simpa using ha2, hb2⟩
          clear ha2 hb2
          go_loopw [8, 9] (fun v i wr => ∃ j : Nat, j ≤ s ∧ i = .int .i64 j ∧ TrimsInv wa xs len0 j v wr) (fun _ i _ => s - (intOf i).toNat)
          case atStart => exact ⟨0, Nat.zero_le _, rfl, HI.out⟩
          case round =>
            clear HI
            obtain ⟨j, hj, rfl, A, c, rfl, har, hbl⟩ := hrel
            have HA := Lib.hid har
            have HBr := Lib.hid hbl
            clear har hbl
            by_cases hjs : j < s
            · have sl1 := lit1 wr 0 (by decide)
              go_wp2_with (with_reducible refine wpList_app rfl (.tmp 45) (.tmp 46) 22 rfl Try.underlying22 rfl rfl (HA.out.alloc _) sl1 (by omega) (HBr.out.alloc HBr.out.size _).size ?_; intro A3 c3 w3 ha3 hb3)
              have HI3 : Hid (TrimsInv wa xs len0 (j + 1) (.slice A3 (len0 + (j + 1)) c3) w3) := ⟨A3, c3, rfl, by rw [List.replicate_succ', ← List.append_assoc]; exact ha3, (HBr.out.alloc HBr.out.size _).trans hb3⟩
              clear ha3 hb3
              go_roundw
              case rel => exact ⟨j + 1, by omega, by go_num, HI3.out⟩
              case measure => simp [intOf]; omega
            · obtain rfl : j = s := by omega
              obtain ⟨gc, hsl⟩ := HA.out.slice (by omega)
              have sc : Rd wr A (len0 + j) c a := ⟨gc, _, hsl, by rw [val_append, val_zeros, Nat.mul_zero, Nat.add_zero]; exact HV.out⟩
              have sa : Rd wr a0 len0 cap0 a := ⟨ba, xs, ha.below HBr.out, HV.out⟩
              replace sb := sb.below HBr.out
              have HB := Lib.hid (HBa.out.trans (HBr.out.mono HBa.out.size))
              clear hsl HA HBr ha HV HBa
              by_cases hb : b = 0
              · have sb0 : Rd wr a1 len1 cap1 0 := hb ▸ sb
                clear hb
                go_wp2_with (first
                  | (go_at_call 27; ((with_reducible refine (vDiv0 sc sb0).mono ?_); rintro e w2 ⟨rfl, B⟩; replace sa := sa.below B; replace sb := sb.below B; replace sc := sc.below B; replace sb0 := sb0.below B; replace HB := Lib.hid (HB.out.trans (B.mono HB.out.size)); clear B))
                  | (go_at_call 27; ((with_reducible refine (vDiv0 sa sb0).mono ?_); rintro e w3 ⟨rfl, B⟩; replace sa := sa.below B; replace sb := sb.below B; replace sc := sc.below B; replace sb0 := sb0.below B; replace HB := Lib.hid (HB.out.trans (B.mono HB.out.size)); clear B))
                  | (go_at_call 23; ((with_reducible refine (vCmpE sa sc (cmpI_self a)).mono ?_); rintro e w4 ⟨rfl, B⟩; replace sa := sa.below B; replace sb := sb.below B; replace sc := sc.below B; replace sb0 := sb0.below B; replace HB := Lib.hid (HB.out.trans (B.mono HB.out.size)); clear B))
                  | (go_at_call 25; ((with_reducible refine (vLenE sc HL.out).mono ?_); rintro e w5 ⟨rfl, B⟩; replace sa := sa.below B; replace sb := sb.below B; replace sc := sc.below B; replace sb0 := sb0.below B; replace HB := Lib.hid (HB.out.trans (B.mono HB.out.size)); clear B))
                  | (go_at_call 25; ((with_reducible refine (vLenE sa HL.out).mono ?_); rintro e w6 ⟨rfl, B⟩; replace sa := sa.below B; replace sb := sb.below B; replace sc := sc.below B; replace sb0 := sb0.below B; replace HB := Lib.hid (HB.out.trans (B.mono HB.out.size)); clear B))
                  | (go_at_call 17; ((with_reducible refine (vAdd sc sb (by omega) (by omega)).mono ?_); rintro e w7 ⟨Ax, nx, cx, rfl, sx, kx, B⟩; replace sa := sa.below B; replace sb := sb.below B; replace sc := sc.below B; replace sb0 := sb0.below B; replace HB := Lib.hid (HB.out.trans (B.mono HB.out.size)); clear B))
                  | (go_at_call 17; ((with_reducible refine (vAdd sa sb (by omega) (by omega)).mono ?_); rintro e w8 ⟨Ay, ny, cy, rfl, sy, ky, B⟩; replace sa := sa.below B; replace sb := sb.below B; replace sc := sc.below B; replace sb0 := sb0.below B; replace sx := sx.below B; replace HB := Lib.hid (HB.out.trans (B.mono HB.out.size)); clear B))
                  | (go_at_call 23; ((with_reducible refine (vCmpE sx.rd sy.rd (cmpI_self (a + b))).mono ?_); rintro e w9 ⟨rfl, B⟩; replace sa := sa.below B; replace sb := sb.below B; replace sc := sc.below B; replace sb0 := sb0.below B; replace HB := Lib.hid (HB.out.trans (B.mono HB.out.size)); clear B))
                  | (go_at_call 19; ((with_reducible refine (vMul sc sb (by omega) (by omega)).mono ?_); rintro e w10 ⟨Av, nv, cv, rfl, sv, kv, B⟩; replace sa := sa.below B; replace sb := sb.below B; replace sc := sc.below B; replace sb0 := sb0.below B; replace HB := Lib.hid (HB.out.trans (B.mono HB.out.size)); clear B))
                  | (go_at_call 19; ((with_reducible refine (vMul sa sb (by omega) (by omega)).mono ?_); rintro e w11 ⟨Aw, nw, cw, rfl, sw, kw, B⟩; replace sa := sa.below B; replace sb := sb.below B; replace sc := sc.below B; replace sb0 := sb0.below B; replace sv := sv.below B; replace HB := Lib.hid (HB.out.trans (B.mono HB.out.size)); clear B))
                  | (go_at_call 23; ((with_reducible refine (vCmpE sv.rd sw.rd (cmpI_self (a * b))).mono ?_); rintro e w12 ⟨rfl, B⟩; replace sa := sa.below B; replace sb := sb.below B; replace sc := sc.below B; replace sb0 := sb0.below B; replace HB := Lib.hid (HB.out.trans (B.mono HB.out.size)); clear B))
                  | (go_at_call 23; ((with_reducible refine (vCmpE Nm.zero.rd Nm.zero.rd (cmpI_self 0)).mono ?_); rintro e w13 ⟨rfl, B⟩; replace sa := sa.below B; replace sb := sb.below B; replace sc := sc.below B; replace sb0 := sb0.below B; replace HB := Lib.hid (HB.out.trans (B.mono HB.out.size)); clear B))
                  | (go_at_call 21; ((with_reducible refine (vTrimL sc HN.out).mono ?_); rintro e w15 ⟨A1, c1, rfl, s1, B⟩; replace sa := sa.below B; replace sb := sb.below B; replace sc := sc.below B; replace sb0 := sb0.below B; replace HB := Lib.hid (HB.out.trans (B.mono HB.out.size)); clear B))
                  | (go_at_call 21; ((with_reducible refine (vTrimL sa HN.out).mono ?_); rintro e w16 ⟨A2, c2, rfl, s2, B⟩; replace sa := sa.below B; replace sb := sb.below B; replace sc := sc.below B; replace sb0 := sb0.below B; replace HB := Lib.hid (HB.out.trans (B.mono HB.out.size)); clear B)))
                go_ret
                exact ⟨rfl, HB.out⟩
              · skip
                go_wp2_with (first
                  | (go_at_call 27; ((with_reducible refine (vDiv sc sb (by omega) hb).mono ?_); rintro e w2 ⟨Aq, nq, cq, Ar, nr, cr, rfl, sq, sr, kq, kr, B⟩; replace sa := sa.below B; replace sb := sb.below B; replace sc := sc.below B; replace HB := Lib.hid (HB.out.trans (B.mono HB.out.size)); clear B))
                  | (go_at_call 27; ((with_reducible refine (vDiv sa sb (by omega) hb).mono ?_); rintro e w3 ⟨Ap, np, cp, Au, nu, cu, rfl, sp, su, kp, ku, B⟩; replace sa := sa.below B; replace sb := sb.below B; replace sc := sc.below B; replace sq := sq.below B; replace sr := sr.below B; replace HB := Lib.hid (HB.out.trans (B.mono HB.out.size)); clear B))
                  | (go_at_call 23; ((with_reducible refine (vCmpE sa sc (cmpI_self a)).mono ?_); rintro e w4 ⟨rfl, B⟩; replace sa := sa.below B; replace sb := sb.below B; replace sc := sc.below B; replace sq := sq.below B; replace sp := sp.below B; replace sr := sr.below B; replace su := su.below B; replace HB := Lib.hid (HB.out.trans (B.mono HB.out.size)); clear B))
                  | (go_at_call 25; ((with_reducible refine (vLenE sc HL.out).mono ?_); rintro e w5 ⟨rfl, B⟩; replace sa := sa.below B; replace sb := sb.below B; replace sc := sc.below B; replace sq := sq.below B; replace sp := sp.below B; replace sr := sr.below B; replace su := su.below B; replace HB := Lib.hid (HB.out.trans (B.mono HB.out.size)); clear B))
                  | (go_at_call 25; ((with_reducible refine (vLenE sa HL.out).mono ?_); rintro e w6 ⟨rfl, B⟩; replace sa := sa.below B; replace sb := sb.below B; replace sc := sc.below B; replace sq := sq.below B; replace sp := sp.below B; replace sr := sr.below B; replace su := su.below B; replace HB := Lib.hid (HB.out.trans (B.mono HB.out.size)); clear B))
                  | (go_at_call 17; ((with_reducible refine (vAdd sc sb (by omega) (by omega)).mono ?_); rintro e w7 ⟨Ax, nx, cx, rfl, sx, kx, B⟩; replace sa := sa.below B; replace sb := sb.below B; replace sc := sc.below B; replace sq := sq.below B; replace sp := sp.below B; replace sr := sr.below B; replace su := su.below B; replace HB := Lib.hid (HB.out.trans (B.mono HB.out.size)); clear B))
                  | (go_at_call 17; ((with_reducible refine (vAdd sa sb (by omega) (by omega)).mono ?_); rintro e w8 ⟨Ay, ny, cy, rfl, sy, ky, B⟩; replace sa := sa.below B; replace sb := sb.below B; replace sc := sc.below B; replace sq := sq.below B; replace sp := sp.below B; replace sr := sr.below B; replace su := su.below B; replace sx := sx.below B; replace HB := Lib.hid (HB.out.trans (B.mono HB.out.size)); clear B))
                  | (go_at_call 23; ((with_reducible refine (vCmpE sx.rd sy.rd (cmpI_self (a + b))).mono ?_); rintro e w9 ⟨rfl, B⟩; replace sa := sa.below B; replace sb := sb.below B; replace sc := sc.below B; replace sq := sq.below B; replace sp := sp.below B; replace sr := sr.below B; replace su := su.below B; replace HB := Lib.hid (HB.out.trans (B.mono HB.out.size)); clear B))
                  | (go_at_call 19; ((with_reducible refine (vMul sc sb (by omega) (by omega)).mono ?_); rintro e w10 ⟨Av, nv, cv, rfl, sv, kv, B⟩; replace sa := sa.below B; replace sb := sb.below B; replace sc := sc.below B; replace sq := sq.below B; replace sp := sp.below B; replace sr := sr.below B; replace su := su.below B; replace HB := Lib.hid (HB.out.trans (B.mono HB.out.size)); clear B))
                  | (go_at_call 19; ((with_reducible refine (vMul sa sb (by omega) (by omega)).mono ?_); rintro e w11 ⟨Aw, nw, cw, rfl, sw, kw, B⟩; replace sa := sa.below B; replace sb := sb.below B; replace sc := sc.below B; replace sq := sq.below B; replace sp := sp.below B; replace sr := sr.below B; replace su := su.below B; replace sv := sv.below B; replace HB := Lib.hid (HB.out.trans (B.mono HB.out.size)); clear B))
                  | (go_at_call 23; ((with_reducible refine (vCmpE sv.rd sw.rd (cmpI_self (a * b))).mono ?_); rintro e w12 ⟨rfl, B⟩; replace sa := sa.below B; replace sb := sb.below B; replace sc := sc.below B; replace sq := sq.below B; replace sp := sp.below B; replace sr := sr.below B; replace su := su.below B; replace HB := Lib.hid (HB.out.trans (B.mono HB.out.size)); clear B))
                  | (go_at_call 23; ((with_reducible refine (vCmpE sq.rd sp.rd (cmpI_self (a / b))).mono ?_); rintro e w13 ⟨rfl, B⟩; replace sa := sa.below B; replace sb := sb.below B; replace sc := sc.below B; replace sr := sr.below B; replace su := su.below B; replace HB := Lib.hid (HB.out.trans (B.mono HB.out.size)); clear B))
                  | (go_at_call 23; ((with_reducible refine (vCmpE sr.rd su.rd (cmpI_self (a % b))).mono ?_); rintro e w14 ⟨rfl, B⟩; replace sa := sa.below B; replace sb := sb.below B; replace sc := sc.below B; replace HB := Lib.hid (HB.out.trans (B.mono HB.out.size)); clear B))
                  | (go_at_call 21; ((with_reducible refine (vTrimL sc HN.out).mono ?_); rintro e w15 ⟨A1, c1, rfl, s1, B⟩; replace sa := sa.below B; replace sb := sb.below B; replace sc := sc.below B; replace HB := Lib.hid (HB.out.trans (B.mono HB.out.size)); clear B))
                  | (go_at_call 21; ((with_reducible refine (vTrimL sa HN.out).mono ?_); rintro e w16 ⟨A2, c2, rfl, s2, B⟩; replace sa := sa.below B; replace sb := sb.below B; replace sc := sc.below B; replace HB := Lib.hid (HB.out.trans (B.mono HB.out.size)); clear B)))
                go_ret
                exact ⟨rfl, HB.out⟩
        · have t2 : decide (a2 < 0) = false := by simp; omega
          have t3 : decide (10 < a2) = true := by simp; omega
          go_enter Try.func10, Try.ntmps10
          go_wp2_with (first
            | (go_at_call 12; ((with_reducible refine (awake_any _).mono ?_); rintro e w1 ⟨rfl, B⟩; have HB := Lib.hid B; clear B)))
          go_ret
          exact ⟨rfl, HB.out⟩
      · have t2 : decide (a2 < 0) = true := by simp; omega
        go_enter Try.func10, Try.ntmps10
        go_wp2_with (first
          | (go_at_call 12; ((with_reducible refine (awake_any _).mono ?_); rintro e w1 ⟨rfl, B⟩; have HB := Lib.hid B; clear B)))
        go_ret
        exact ⟨rfl, HB.out⟩
    · have t1 : decide ((20 : Int) < len1) = true := by simp; omega
      go_enter Try.func10, Try.ntmps10
      go_wp2_with (first
        | (go_at_call 12; ((with_reducible refine (awake_any _).mono ?_); rintro e w1 ⟨rfl, B⟩; have HB := Lib.hid B; clear B)))
      go_ret
      exact ⟨rfl, HB.out⟩
  · have t0 : decide ((20 : Int) < len0) = true := by simp; omega
    go_enter Try.func10, Try.ntmps10
    go_wp2_with (first
      | (go_at_call 12; ((with_reducible refine (awake_any _).mono ?_); rintro e w1 ⟨rfl, B⟩; have HB := Lib.hid B; clear B)))
    go_ret
    exact ⟨rfl, HB.out⟩
end Go.Proofs.Ytloaabajkallnaa
