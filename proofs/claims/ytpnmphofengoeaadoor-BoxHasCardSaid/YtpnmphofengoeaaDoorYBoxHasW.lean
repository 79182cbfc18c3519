/-
  The walk of BoxHas: for all arguments the call answers true, and nothing that was there has turned.
-/
import Derived.Test.YtpnmphofengoeaaDoorYAaz
import Derived.Test.YtpnmphofengoeaaDoorYAbd
import Derived.Test.YtpnmphofengoeaaDoorYBoxOrderW
namespace Go.Proofs.YtpnmphofengoeaaDoor
set_option maxHeartbeats 8000000
open Go.RowKit
set_option linter.unusedVariables false
set_option linter.unusedSimpArgs false
set_option maxRecDepth 100000

theorem kxHas_ne {w : World} {A B : Option Addr} {n c m d : Nat} (hnm : ¬ n = m) : Calls Tryd.prog 17 #[.slice A n c, .slice B m d] w (PB w false) := by
  have t1 : (((n : Nat) : Int) == ((m : Nat) : Int)) = false := by simp; omega
  refine (callsIn_wide (n := 4)).1 ?_; refine callsIn_of_wp_marks Tryd.func17 rfl trivial ?_ rfl; refine wpIn_wide.2 ?_; simp only [Tryd.ntmps17, List.size_toArray, List.length_cons, List.length_nil, Nat.reduceAdd, Nat.reduceSub, Array.replicate_succ, Array.replicate_zero, List.push_toArray, List.append_toArray, List.nil_append, List.cons_append]
  go_upto_region 1 with (fail)
  have X4 := Bo.new w #[.bool false] 4; have hB := bel1 w (.cells #[.bool false] 4); have c4 := X4.a 0 (.bool false) rfl; have z4 := X4.frozen 0; generalize hw1 : w.alloc (.cells #[.bool false] 4) = w1 at *; go_wp2; have c5 := (X4.set 0 (.bool false)).a 0 (.bool false) rfl; exact ⟨.bool false, by simp [results, Tryd.f17, go_sem, c5], rfl, hB.setCell (p := ⟨w.heap.size, 0, none⟩) (Nat.le_refl _) _⟩
theorem boxHas_fara (a0 : Option Addr) (len0 cap0 : Nat) (a1 : Option Addr) (len1 cap1 : Nat) (a2 : Option Addr) (len2 cap2 : Nat) (n3 : Int) (w : World) (hT : Tb w)  (h : decide ((20 : Int) < (len0 : Int)) = true) (p : 20 < (len0 : Int)) :
    Calls Tryd.prog 4 #[.slice a0 len0 cap0, .slice a1 len1 cap1, .slice a2 len2 cap2, .int .i64 n3] w (PB w true) := by
  go_enter Tryd.func4, Tryd.ntmps4
  have HB := Lib.hid (Below.refl w.heap.size w)
  go_wp2_with fail
  refine (awake14 hT).mono ?_; rintro ee w2 ⟨rfl, B⟩; replace hT := hT.below B; replace HB := Hqb HB B; clear B; go_wp2
  go_ret
  exact ⟨rfl, HB.out⟩
theorem boxHas_farb (a0 : Option Addr) (len0 cap0 : Nat) (a1 : Option Addr) (len1 cap1 : Nat) (a2 : Option Addr) (len2 cap2 : Nat) (n3 : Int) (w : World) (hT : Tb w) (h0 : decide ((20 : Int) < (len0 : Int)) = false) (p0 : ¬ 20 < (len0 : Int)) (h : decide ((20 : Int) < (len1 : Int)) = true) (p : 20 < (len1 : Int)) :
    Calls Tryd.prog 4 #[.slice a0 len0 cap0, .slice a1 len1 cap1, .slice a2 len2 cap2, .int .i64 n3] w (PB w true) := by
  go_enter Tryd.func4, Tryd.ntmps4
  have HB := Lib.hid (Below.refl w.heap.size w)
  go_wp2_with fail
  refine (awake14 hT).mono ?_; rintro ee w2 ⟨rfl, B⟩; replace hT := hT.below B; replace HB := Hqb HB B; clear B; go_wp2
  go_ret
  exact ⟨rfl, HB.out⟩
theorem boxHas_farc (a0 : Option Addr) (len0 cap0 : Nat) (a1 : Option Addr) (len1 cap1 : Nat) (a2 : Option Addr) (len2 cap2 : Nat) (n3 : Int) (w : World) (hT : Tb w) (h0 : decide ((20 : Int) < (len0 : Int)) = false) (p0 : ¬ 20 < (len0 : Int)) (h1 : decide ((20 : Int) < (len1 : Int)) = false) (p1 : ¬ 20 < (len1 : Int)) (h : ((len0 : Int) == (len1 : Int)) = false) (p : ¬ (len0 : Int) = (len1 : Int)) :
    Calls Tryd.prog 4 #[.slice a0 len0 cap0, .slice a1 len1 cap1, .slice a2 len2 cap2, .int .i64 n3] w (PB w true) := by
  go_enter Tryd.func4, Tryd.ntmps4
  have HB := Lib.hid (Below.refl w.heap.size w)
  go_wp2_with fail
  refine (awake14 hT).mono ?_; rintro ee w2 ⟨rfl, B⟩; replace hT := hT.below B; replace HB := Hqb HB B; clear B; go_wp2
  go_ret
  exact ⟨rfl, HB.out⟩
theorem boxHas_fard (a0 : Option Addr) (len0 cap0 : Nat) (a1 : Option Addr) (cap1 : Nat) (a2 : Option Addr) (len2 cap2 : Nat) (n3 : Int) (w : World) (hT : Tb w) (h0 : decide ((20 : Int) < (len0 : Int)) = false) (p0 : ¬ 20 < (len0 : Int)) (h1 : decide ((20 : Int) < (len0 : Int)) = false) (p1 : ¬ 20 < (len0 : Int)) (h2 : ((len0 : Int) == (len0 : Int)) = true) (p2 : (len0 : Int) = (len0 : Int)) (h : decide (n3 < 0) = true) (p : n3 < 0) :
    Calls Tryd.prog 4 #[.slice a0 len0 cap0, .slice a1 len0 cap1, .slice a2 len2 cap2, .int .i64 n3] w (PB w true) := by
  go_enter Tryd.func4, Tryd.ntmps4
  have HB := Lib.hid (Below.refl w.heap.size w)
  go_wp2_with fail
  refine (awake14 hT).mono ?_; rintro ee w2 ⟨rfl, B⟩; replace hT := hT.below B; replace HB := Hqb HB B; clear B; go_wp2
  go_ret
  exact ⟨rfl, HB.out⟩
theorem boxHas_fare (a0 : Option Addr) (len0 cap0 : Nat) (a1 : Option Addr) (cap1 : Nat) (a2 : Option Addr) (len2 cap2 : Nat) (n3 : Int) (w : World) (hT : Tb w) (h0 : decide ((20 : Int) < (len0 : Int)) = false) (p0 : ¬ 20 < (len0 : Int)) (h1 : decide ((20 : Int) < (len0 : Int)) = false) (p1 : ¬ 20 < (len0 : Int)) (h2 : ((len0 : Int) == (len0 : Int)) = true) (p2 : (len0 : Int) = (len0 : Int)) (h3 : decide (n3 < 0) = false) (p3 : 0 ≤ n3) (h : decide ((len0 : Int) ≤ n3) = true) (p : (len0 : Int) ≤ n3) :
    Calls Tryd.prog 4 #[.slice a0 len0 cap0, .slice a1 len0 cap1, .slice a2 len2 cap2, .int .i64 n3] w (PB w true) := by
  go_enter Tryd.func4, Tryd.ntmps4
  have HB := Lib.hid (Below.refl w.heap.size w)
  go_wp2_with fail
  refine (awake14 hT).mono ?_; rintro ee w2 ⟨rfl, B⟩; replace hT := hT.below B; replace HB := Hqb HB B; clear B; go_wp2
  go_ret
  exact ⟨rfl, HB.out⟩
theorem boxHas_n (a0 : Option Addr) (len0 cap0 : Nat) (a1 : Option Addr) (cap1 : Nat) (a2 : Option Addr) (len2 cap2 : Nat) (i : Nat) (n3 : Int) (hi : ((i : Nat) : Int) = n3) (w : World) (ra rb : List V9) (rp : List N4) (m x y : List Sp) (hT : Tb w) (qa : Iq w a0 len0 cap0 ra) (qb : Iq w a1 len0 cap1 rb) (qp : Nz w a2 len2 cap2 rp)
    (h0 : decide ((20 : Int) < (len0 : Int)) = false) (p0 : ¬ 20 < (len0 : Int)) (h1 : decide ((20 : Int) < (len0 : Int)) = false) (p1 : ¬ 20 < (len0 : Int)) (h2 : ((len0 : Int) == (len0 : Int)) = true) (p2 : (len0 : Int) = (len0 : Int)) (h3 : decide (n3 < 0) = false) (p3 : 0 ≤ n3) (h4 : decide ((len0 : Int) ≤ n3) = false) (p4 : n3 < (len0 : Int)) (i0 : len0 ≤ 20) (i1 : i < len0) (im : m.length = len0) (ix : x.length = len0) (iy : y.length = len0)
    (hm : bxMeet (ra.map rkV) (rb.map rkV) = m) (hx : bxLo (ra.map rkV) i = x) (hy : bxHi (ra.map rkV) i = y) (k0 : bxHas (ra.map rkV) (rp.map rkN) = false) (k1 : bxHas m (rp.map rkN) = false) (k3 : bxHas x (rp.map rkN) = false) (k4 : bxHas y (rp.map rkN) = false) :
    Calls Tryd.prog 4 #[.slice a0 len0 cap0, .slice a1 len0 cap1, .slice a2 len2 cap2, .int .i64 n3] w (PB w true) := by
  have HM := Lib.hid hm; have HX := Lib.hid hx; have HY := Lib.hid hy; have K0 := Lib.hid k0; have K1 := Lib.hid k1; have K3 := Lib.hid k3; have K4 := Lib.hid k4; clear hm hx hy k0 k1 k3 k4
  go_enter Tryd.func4, Tryd.ntmps4
  have HB := Lib.hid (Below.refl w.heap.size w)
  go_wp2_with fail
  refine (awake14 hT).mono ?_; rintro ee w2 ⟨rfl, B⟩; replace hT := hT.below B; replace qa := qa.below B; replace qb := qb.below B; replace qp := qp.below B; replace HB := Hqb HB B; clear B
  go_upto_region 4 with (fail)
  subst hi
  go_wp2_with fail
  refine (kxSplit_n hT qa (by omega) (by omega) HX.out HY.out ix iy).mono ?_; rintro ee w3 ⟨A7, c7, A8, c8, rfl, N7, N8, B⟩; replace hT := hT.below B; replace qa := qa.below B; replace qb := qb.below B; replace qp := qp.below B; replace HB := Hqb HB B; clear B; obtain ⟨r7, q7, rfl⟩ := N7.row1 (by omega); clear N7; obtain ⟨r8, q8, rfl⟩ := N8.row1 (by omega); clear N8
  go_wp2_with fail
  refine (kxHas qa qp K0.out).mono ?_; rintro ee w4 ⟨rfl, B⟩; replace hT := hT.below B; replace qa := qa.below B; replace qb := qb.below B; replace qp := qp.below B; replace q7 := q7.below B; replace q8 := q8.below B; replace HB := Hqb HB B; clear B
  go_wp2_with fail
  refine (kxMeet_n qa qb (by omega) HM.out im).mono ?_; rintro ee w5 ⟨A5, c5, rfl, N5, B⟩; replace hT := hT.below B; replace qa := qa.below B; replace qb := qb.below B; replace qp := qp.below B; replace q7 := q7.below B; replace q8 := q8.below B; replace HB := Hqb HB B; clear B; obtain ⟨r5, q5, rfl⟩ := N5.row1 (by omega); clear N5
  go_wp2_with fail
  refine (kxHas q5 qp K1.out).mono ?_; rintro ee w6 ⟨rfl, B⟩; replace hT := hT.below B; replace qa := qa.below B; replace qb := qb.below B; replace qp := qp.below B; replace q7 := q7.below B; replace q8 := q8.below B; replace q5 := q5.below B; replace HB := Hqb HB B; clear B
  go_wp2_with fail
  refine (kxHas q7 qp K3.out).mono ?_; rintro ee w8 ⟨rfl, B⟩; replace hT := hT.below B; replace qa := qa.below B; replace qb := qb.below B; replace qp := qp.below B; replace q7 := q7.below B; replace q8 := q8.below B; replace q5 := q5.below B; replace HB := Hqb HB B; clear B
  go_wp2_with fail
  refine (kxHas q8 qp K4.out).mono ?_; rintro ee w9 ⟨rfl, B⟩; replace hT := hT.below B; replace qa := qa.below B; replace qb := qb.below B; replace qp := qp.below B; replace q7 := q7.below B; replace q8 := q8.below B; replace q5 := q5.below B; replace HB := Hqb HB B; clear B; go_wp2
  go_ret
  exact ⟨rfl, HB.out⟩
theorem boxHas_tt (a0 : Option Addr) (len0 cap0 : Nat) (a1 : Option Addr) (cap1 : Nat) (a2 : Option Addr) (len2 cap2 : Nat) (i : Nat) (n3 : Int) (hi : ((i : Nat) : Int) = n3) (w : World) (ra rb : List V9) (rp : List N4) (m x y : List Sp) (hT : Tb w) (qa : Iq w a0 len0 cap0 ra) (qb : Iq w a1 len0 cap1 rb) (qp : Nz w a2 len2 cap2 rp)
    (h0 : decide ((20 : Int) < (len0 : Int)) = false) (p0 : ¬ 20 < (len0 : Int)) (h1 : decide ((20 : Int) < (len0 : Int)) = false) (p1 : ¬ 20 < (len0 : Int)) (h2 : ((len0 : Int) == (len0 : Int)) = true) (p2 : (len0 : Int) = (len0 : Int)) (h3 : decide (n3 < 0) = false) (p3 : 0 ≤ n3) (h4 : decide ((len0 : Int) ≤ n3) = false) (p4 : n3 < (len0 : Int)) (i0 : len0 ≤ 20) (i1 : i < len0) (im : m.length = len0) (ix : x.length = len0) (iy : y.length = len0)
    (hm : bxMeet (ra.map rkV) (rb.map rkV) = m) (hx : bxLo (ra.map rkV) i = x) (hy : bxHi (ra.map rkV) i = y) (k0 : bxHas (ra.map rkV) (rp.map rkN) = true) (k1 : bxHas m (rp.map rkN) = true) (k3 : bxHas x (rp.map rkN) = true) (k2 : bxHas (rb.map rkV) (rp.map rkN) = true) :
    Calls Tryd.prog 4 #[.slice a0 len0 cap0, .slice a1 len0 cap1, .slice a2 len2 cap2, .int .i64 n3] w (PB w true) := by
  have HM := Lib.hid hm; have HX := Lib.hid hx; have HY := Lib.hid hy; have K0 := Lib.hid k0; have K1 := Lib.hid k1; have K3 := Lib.hid k3; have K2 := Lib.hid k2; clear hm hx hy k0 k1 k3 k2
  go_enter Tryd.func4, Tryd.ntmps4
  have HB := Lib.hid (Below.refl w.heap.size w)
  go_wp2_with fail
  refine (awake14 hT).mono ?_; rintro ee w2 ⟨rfl, B⟩; replace hT := hT.below B; replace qa := qa.below B; replace qb := qb.below B; replace qp := qp.below B; replace HB := Hqb HB B; clear B
  go_upto_region 4 with (fail)
  subst hi
  go_wp2_with fail
  refine (kxSplit_n hT qa (by omega) (by omega) HX.out HY.out ix iy).mono ?_; rintro ee w3 ⟨A7, c7, A8, c8, rfl, N7, N8, B⟩; replace hT := hT.below B; replace qa := qa.below B; replace qb := qb.below B; replace qp := qp.below B; replace HB := Hqb HB B; clear B; obtain ⟨r7, q7, rfl⟩ := N7.row1 (by omega); clear N7; obtain ⟨r8, q8, rfl⟩ := N8.row1 (by omega); clear N8
  go_wp2_with fail
  refine (kxHas qa qp K0.out).mono ?_; rintro ee w4 ⟨rfl, B⟩; replace hT := hT.below B; replace qa := qa.below B; replace qb := qb.below B; replace qp := qp.below B; replace q7 := q7.below B; replace q8 := q8.below B; replace HB := Hqb HB B; clear B
  go_wp2_with fail
  refine (kxMeet_n qa qb (by omega) HM.out im).mono ?_; rintro ee w5 ⟨A5, c5, rfl, N5, B⟩; replace hT := hT.below B; replace qa := qa.below B; replace qb := qb.below B; replace qp := qp.below B; replace q7 := q7.below B; replace q8 := q8.below B; replace HB := Hqb HB B; clear B; obtain ⟨r5, q5, rfl⟩ := N5.row1 (by omega); clear N5
  go_wp2_with fail
  refine (kxHas q5 qp K1.out).mono ?_; rintro ee w6 ⟨rfl, B⟩; replace hT := hT.below B; replace qa := qa.below B; replace qb := qb.below B; replace qp := qp.below B; replace q7 := q7.below B; replace q8 := q8.below B; replace q5 := q5.below B; replace HB := Hqb HB B; clear B
  go_wp2_with fail
  refine (kxHas qb qp K2.out).mono ?_; rintro ee w7 ⟨rfl, B⟩; replace hT := hT.below B; replace qa := qa.below B; replace qb := qb.below B; replace qp := qp.below B; replace q7 := q7.below B; replace q8 := q8.below B; replace q5 := q5.below B; replace HB := Hqb HB B; clear B
  go_wp2_with fail
  refine (kxHas q7 qp K3.out).mono ?_; rintro ee w8 ⟨rfl, B⟩; replace hT := hT.below B; replace qa := qa.below B; replace qb := qb.below B; replace qp := qp.below B; replace q7 := q7.below B; replace q8 := q8.below B; replace q5 := q5.below B; replace HB := Hqb HB B; clear B; go_wp2
  go_ret
  exact ⟨rfl, HB.out⟩
theorem boxHas_tf (a0 : Option Addr) (len0 cap0 : Nat) (a1 : Option Addr) (cap1 : Nat) (a2 : Option Addr) (len2 cap2 : Nat) (i : Nat) (n3 : Int) (hi : ((i : Nat) : Int) = n3) (w : World) (ra rb : List V9) (rp : List N4) (m x y : List Sp) (hT : Tb w) (qa : Iq w a0 len0 cap0 ra) (qb : Iq w a1 len0 cap1 rb) (qp : Nz w a2 len2 cap2 rp)
    (h0 : decide ((20 : Int) < (len0 : Int)) = false) (p0 : ¬ 20 < (len0 : Int)) (h1 : decide ((20 : Int) < (len0 : Int)) = false) (p1 : ¬ 20 < (len0 : Int)) (h2 : ((len0 : Int) == (len0 : Int)) = true) (p2 : (len0 : Int) = (len0 : Int)) (h3 : decide (n3 < 0) = false) (p3 : 0 ≤ n3) (h4 : decide ((len0 : Int) ≤ n3) = false) (p4 : n3 < (len0 : Int)) (i0 : len0 ≤ 20) (i1 : i < len0) (im : m.length = len0) (ix : x.length = len0) (iy : y.length = len0)
    (hm : bxMeet (ra.map rkV) (rb.map rkV) = m) (hx : bxLo (ra.map rkV) i = x) (hy : bxHi (ra.map rkV) i = y) (k0 : bxHas (ra.map rkV) (rp.map rkN) = true) (k1 : bxHas m (rp.map rkN) = true) (k3 : bxHas x (rp.map rkN) = false) (k2 : bxHas (rb.map rkV) (rp.map rkN) = true) (k4 : bxHas y (rp.map rkN) = true) :
    Calls Tryd.prog 4 #[.slice a0 len0 cap0, .slice a1 len0 cap1, .slice a2 len2 cap2, .int .i64 n3] w (PB w true) := by
  have HM := Lib.hid hm; have HX := Lib.hid hx; have HY := Lib.hid hy; have K0 := Lib.hid k0; have K1 := Lib.hid k1; have K3 := Lib.hid k3; have K2 := Lib.hid k2; have K4 := Lib.hid k4; clear hm hx hy k0 k1 k3 k2 k4
  go_enter Tryd.func4, Tryd.ntmps4
  have HB := Lib.hid (Below.refl w.heap.size w)
  go_wp2_with fail
  refine (awake14 hT).mono ?_; rintro ee w2 ⟨rfl, B⟩; replace hT := hT.below B; replace qa := qa.below B; replace qb := qb.below B; replace qp := qp.below B; replace HB := Hqb HB B; clear B
  go_upto_region 4 with (fail)
  subst hi
  go_wp2_with fail
  refine (kxSplit_n hT qa (by omega) (by omega) HX.out HY.out ix iy).mono ?_; rintro ee w3 ⟨A7, c7, A8, c8, rfl, N7, N8, B⟩; replace hT := hT.below B; replace qa := qa.below B; replace qb := qb.below B; replace qp := qp.below B; replace HB := Hqb HB B; clear B; obtain ⟨r7, q7, rfl⟩ := N7.row1 (by omega); clear N7; obtain ⟨r8, q8, rfl⟩ := N8.row1 (by omega); clear N8
  go_wp2_with fail
  refine (kxHas qa qp K0.out).mono ?_; rintro ee w4 ⟨rfl, B⟩; replace hT := hT.below B; replace qa := qa.below B; replace qb := qb.below B; replace qp := qp.below B; replace q7 := q7.below B; replace q8 := q8.below B; replace HB := Hqb HB B; clear B
  go_wp2_with fail
  refine (kxMeet_n qa qb (by omega) HM.out im).mono ?_; rintro ee w5 ⟨A5, c5, rfl, N5, B⟩; replace hT := hT.below B; replace qa := qa.below B; replace qb := qb.below B; replace qp := qp.below B; replace q7 := q7.below B; replace q8 := q8.below B; replace HB := Hqb HB B; clear B; obtain ⟨r5, q5, rfl⟩ := N5.row1 (by omega); clear N5
  go_wp2_with fail
  refine (kxHas q5 qp K1.out).mono ?_; rintro ee w6 ⟨rfl, B⟩; replace hT := hT.below B; replace qa := qa.below B; replace qb := qb.below B; replace qp := qp.below B; replace q7 := q7.below B; replace q8 := q8.below B; replace q5 := q5.below B; replace HB := Hqb HB B; clear B
  go_wp2_with fail
  refine (kxHas qb qp K2.out).mono ?_; rintro ee w7 ⟨rfl, B⟩; replace hT := hT.below B; replace qa := qa.below B; replace qb := qb.below B; replace qp := qp.below B; replace q7 := q7.below B; replace q8 := q8.below B; replace q5 := q5.below B; replace HB := Hqb HB B; clear B
  go_wp2_with fail
  refine (kxHas q7 qp K3.out).mono ?_; rintro ee w8 ⟨rfl, B⟩; replace hT := hT.below B; replace qa := qa.below B; replace qb := qb.below B; replace qp := qp.below B; replace q7 := q7.below B; replace q8 := q8.below B; replace q5 := q5.below B; replace HB := Hqb HB B; clear B
  go_wp2_with fail
  refine (kxHas q8 qp K4.out).mono ?_; rintro ee w9 ⟨rfl, B⟩; replace hT := hT.below B; replace qa := qa.below B; replace qb := qb.below B; replace qp := qp.below B; replace q7 := q7.below B; replace q8 := q8.below B; replace q5 := q5.below B; replace HB := Hqb HB B; clear B; go_wp2
  go_ret
  exact ⟨rfl, HB.out⟩
theorem boxHas_ft (a0 : Option Addr) (len0 cap0 : Nat) (a1 : Option Addr) (cap1 : Nat) (a2 : Option Addr) (len2 cap2 : Nat) (i : Nat) (n3 : Int) (hi : ((i : Nat) : Int) = n3) (w : World) (ra rb : List V9) (rp : List N4) (m x y : List Sp) (hT : Tb w) (qa : Iq w a0 len0 cap0 ra) (qb : Iq w a1 len0 cap1 rb) (qp : Nz w a2 len2 cap2 rp)
    (h0 : decide ((20 : Int) < (len0 : Int)) = false) (p0 : ¬ 20 < (len0 : Int)) (h1 : decide ((20 : Int) < (len0 : Int)) = false) (p1 : ¬ 20 < (len0 : Int)) (h2 : ((len0 : Int) == (len0 : Int)) = true) (p2 : (len0 : Int) = (len0 : Int)) (h3 : decide (n3 < 0) = false) (p3 : 0 ≤ n3) (h4 : decide ((len0 : Int) ≤ n3) = false) (p4 : n3 < (len0 : Int)) (i0 : len0 ≤ 20) (i1 : i < len0) (im : m.length = len0) (ix : x.length = len0) (iy : y.length = len0)
    (hm : bxMeet (ra.map rkV) (rb.map rkV) = m) (hx : bxLo (ra.map rkV) i = x) (hy : bxHi (ra.map rkV) i = y) (k0 : bxHas (ra.map rkV) (rp.map rkN) = true) (k1 : bxHas m (rp.map rkN) = false) (k3 : bxHas x (rp.map rkN) = true) (k2 : bxHas (rb.map rkV) (rp.map rkN) = false) :
    Calls Tryd.prog 4 #[.slice a0 len0 cap0, .slice a1 len0 cap1, .slice a2 len2 cap2, .int .i64 n3] w (PB w true) := by
  have HM := Lib.hid hm; have HX := Lib.hid hx; have HY := Lib.hid hy; have K0 := Lib.hid k0; have K1 := Lib.hid k1; have K3 := Lib.hid k3; have K2 := Lib.hid k2; clear hm hx hy k0 k1 k3 k2
  go_enter Tryd.func4, Tryd.ntmps4
  have HB := Lib.hid (Below.refl w.heap.size w)
  go_wp2_with fail
  refine (awake14 hT).mono ?_; rintro ee w2 ⟨rfl, B⟩; replace hT := hT.below B; replace qa := qa.below B; replace qb := qb.below B; replace qp := qp.below B; replace HB := Hqb HB B; clear B
  go_upto_region 4 with (fail)
  subst hi
  go_wp2_with fail
  refine (kxSplit_n hT qa (by omega) (by omega) HX.out HY.out ix iy).mono ?_; rintro ee w3 ⟨A7, c7, A8, c8, rfl, N7, N8, B⟩; replace hT := hT.below B; replace qa := qa.below B; replace qb := qb.below B; replace qp := qp.below B; replace HB := Hqb HB B; clear B; obtain ⟨r7, q7, rfl⟩ := N7.row1 (by omega); clear N7; obtain ⟨r8, q8, rfl⟩ := N8.row1 (by omega); clear N8
  go_wp2_with fail
  refine (kxHas qa qp K0.out).mono ?_; rintro ee w4 ⟨rfl, B⟩; replace hT := hT.below B; replace qa := qa.below B; replace qb := qb.below B; replace qp := qp.below B; replace q7 := q7.below B; replace q8 := q8.below B; replace HB := Hqb HB B; clear B
  go_wp2_with fail
  refine (kxMeet_n qa qb (by omega) HM.out im).mono ?_; rintro ee w5 ⟨A5, c5, rfl, N5, B⟩; replace hT := hT.below B; replace qa := qa.below B; replace qb := qb.below B; replace qp := qp.below B; replace q7 := q7.below B; replace q8 := q8.below B; replace HB := Hqb HB B; clear B; obtain ⟨r5, q5, rfl⟩ := N5.row1 (by omega); clear N5
  go_wp2_with fail
  refine (kxHas q5 qp K1.out).mono ?_; rintro ee w6 ⟨rfl, B⟩; replace hT := hT.below B; replace qa := qa.below B; replace qb := qb.below B; replace qp := qp.below B; replace q7 := q7.below B; replace q8 := q8.below B; replace q5 := q5.below B; replace HB := Hqb HB B; clear B
  go_wp2_with fail
  refine (kxHas qb qp K2.out).mono ?_; rintro ee w7 ⟨rfl, B⟩; replace hT := hT.below B; replace qa := qa.below B; replace qb := qb.below B; replace qp := qp.below B; replace q7 := q7.below B; replace q8 := q8.below B; replace q5 := q5.below B; replace HB := Hqb HB B; clear B
  go_wp2_with fail
  refine (kxHas q7 qp K3.out).mono ?_; rintro ee w8 ⟨rfl, B⟩; replace hT := hT.below B; replace qa := qa.below B; replace qb := qb.below B; replace qp := qp.below B; replace q7 := q7.below B; replace q8 := q8.below B; replace q5 := q5.below B; replace HB := Hqb HB B; clear B; go_wp2
  go_ret
  exact ⟨rfl, HB.out⟩
theorem boxHas_ff (a0 : Option Addr) (len0 cap0 : Nat) (a1 : Option Addr) (cap1 : Nat) (a2 : Option Addr) (len2 cap2 : Nat) (i : Nat) (n3 : Int) (hi : ((i : Nat) : Int) = n3) (w : World) (ra rb : List V9) (rp : List N4) (m x y : List Sp) (hT : Tb w) (qa : Iq w a0 len0 cap0 ra) (qb : Iq w a1 len0 cap1 rb) (qp : Nz w a2 len2 cap2 rp)
    (h0 : decide ((20 : Int) < (len0 : Int)) = false) (p0 : ¬ 20 < (len0 : Int)) (h1 : decide ((20 : Int) < (len0 : Int)) = false) (p1 : ¬ 20 < (len0 : Int)) (h2 : ((len0 : Int) == (len0 : Int)) = true) (p2 : (len0 : Int) = (len0 : Int)) (h3 : decide (n3 < 0) = false) (p3 : 0 ≤ n3) (h4 : decide ((len0 : Int) ≤ n3) = false) (p4 : n3 < (len0 : Int)) (i0 : len0 ≤ 20) (i1 : i < len0) (im : m.length = len0) (ix : x.length = len0) (iy : y.length = len0)
    (hm : bxMeet (ra.map rkV) (rb.map rkV) = m) (hx : bxLo (ra.map rkV) i = x) (hy : bxHi (ra.map rkV) i = y) (k0 : bxHas (ra.map rkV) (rp.map rkN) = true) (k1 : bxHas m (rp.map rkN) = false) (k3 : bxHas x (rp.map rkN) = false) (k2 : bxHas (rb.map rkV) (rp.map rkN) = false) (k4 : bxHas y (rp.map rkN) = true) :
    Calls Tryd.prog 4 #[.slice a0 len0 cap0, .slice a1 len0 cap1, .slice a2 len2 cap2, .int .i64 n3] w (PB w true) := by
  have HM := Lib.hid hm; have HX := Lib.hid hx; have HY := Lib.hid hy; have K0 := Lib.hid k0; have K1 := Lib.hid k1; have K3 := Lib.hid k3; have K2 := Lib.hid k2; have K4 := Lib.hid k4; clear hm hx hy k0 k1 k3 k2 k4
  go_enter Tryd.func4, Tryd.ntmps4
  have HB := Lib.hid (Below.refl w.heap.size w)
  go_wp2_with fail
  refine (awake14 hT).mono ?_; rintro ee w2 ⟨rfl, B⟩; replace hT := hT.below B; replace qa := qa.below B; replace qb := qb.below B; replace qp := qp.below B; replace HB := Hqb HB B; clear B
  go_upto_region 4 with (fail)
  subst hi
  go_wp2_with fail
  refine (kxSplit_n hT qa (by omega) (by omega) HX.out HY.out ix iy).mono ?_; rintro ee w3 ⟨A7, c7, A8, c8, rfl, N7, N8, B⟩; replace hT := hT.below B; replace qa := qa.below B; replace qb := qb.below B; replace qp := qp.below B; replace HB := Hqb HB B; clear B; obtain ⟨r7, q7, rfl⟩ := N7.row1 (by omega); clear N7; obtain ⟨r8, q8, rfl⟩ := N8.row1 (by omega); clear N8
  go_wp2_with fail
  refine (kxHas qa qp K0.out).mono ?_; rintro ee w4 ⟨rfl, B⟩; replace hT := hT.below B; replace qa := qa.below B; replace qb := qb.below B; replace qp := qp.below B; replace q7 := q7.below B; replace q8 := q8.below B; replace HB := Hqb HB B; clear B
  go_wp2_with fail
  refine (kxMeet_n qa qb (by omega) HM.out im).mono ?_; rintro ee w5 ⟨A5, c5, rfl, N5, B⟩; replace hT := hT.below B; replace qa := qa.below B; replace qb := qb.below B; replace qp := qp.below B; replace q7 := q7.below B; replace q8 := q8.below B; replace HB := Hqb HB B; clear B; obtain ⟨r5, q5, rfl⟩ := N5.row1 (by omega); clear N5
  go_wp2_with fail
  refine (kxHas q5 qp K1.out).mono ?_; rintro ee w6 ⟨rfl, B⟩; replace hT := hT.below B; replace qa := qa.below B; replace qb := qb.below B; replace qp := qp.below B; replace q7 := q7.below B; replace q8 := q8.below B; replace q5 := q5.below B; replace HB := Hqb HB B; clear B
  go_wp2_with fail
  refine (kxHas qb qp K2.out).mono ?_; rintro ee w7 ⟨rfl, B⟩; replace hT := hT.below B; replace qa := qa.below B; replace qb := qb.below B; replace qp := qp.below B; replace q7 := q7.below B; replace q8 := q8.below B; replace q5 := q5.below B; replace HB := Hqb HB B; clear B
  go_wp2_with fail
  refine (kxHas q7 qp K3.out).mono ?_; rintro ee w8 ⟨rfl, B⟩; replace hT := hT.below B; replace qa := qa.below B; replace qb := qb.below B; replace qp := qp.below B; replace q7 := q7.below B; replace q8 := q8.below B; replace q5 := q5.below B; replace HB := Hqb HB B; clear B
  go_wp2_with fail
  refine (kxHas q8 qp K4.out).mono ?_; rintro ee w9 ⟨rfl, B⟩; replace hT := hT.below B; replace qa := qa.below B; replace qb := qb.below B; replace qp := qp.below B; replace q7 := q7.below B; replace q8 := q8.below B; replace q5 := q5.below B; replace HB := Hqb HB B; clear B; go_wp2
  go_ret
  exact ⟨rfl, HB.out⟩
theorem boxHas_z (a0 : Option Addr) (len0 cap0 : Nat) (a1 : Option Addr) (cap1 : Nat) (a2 : Option Addr) (len2 cap2 : Nat) (i : Nat) (n3 : Int) (hi : ((i : Nat) : Int) = n3) (w : World) (ra rb : List V9) (m x y : List Sp) (hT : Tb w) (qa : Iq w a0 len0 cap0 ra) (qb : Iq w a1 len0 cap1 rb) (hz : ¬ len0 = len2)
    (h0 : decide ((20 : Int) < (len0 : Int)) = false) (p0 : ¬ 20 < (len0 : Int)) (h1 : decide ((20 : Int) < (len0 : Int)) = false) (p1 : ¬ 20 < (len0 : Int)) (h2 : ((len0 : Int) == (len0 : Int)) = true) (p2 : (len0 : Int) = (len0 : Int)) (h3 : decide (n3 < 0) = false) (p3 : 0 ≤ n3) (h4 : decide ((len0 : Int) ≤ n3) = false) (p4 : n3 < (len0 : Int)) (i0 : len0 ≤ 20) (i1 : i < len0) (im : m.length = len0) (ix : x.length = len0) (iy : y.length = len0)
    (hm : bxMeet (ra.map rkV) (rb.map rkV) = m) (hx : bxLo (ra.map rkV) i = x) (hy : bxHi (ra.map rkV) i = y) :
    Calls Tryd.prog 4 #[.slice a0 len0 cap0, .slice a1 len0 cap1, .slice a2 len2 cap2, .int .i64 n3] w (PB w true) := by
  have HM := Lib.hid hm; have HX := Lib.hid hx; have HY := Lib.hid hy; clear hm hx hy
  go_enter Tryd.func4, Tryd.ntmps4
  have HB := Lib.hid (Below.refl w.heap.size w)
  go_wp2_with fail
  refine (awake14 hT).mono ?_; rintro ee w2 ⟨rfl, B⟩; replace hT := hT.below B; replace qa := qa.below B; replace qb := qb.below B; replace HB := Hqb HB B; clear B
  go_upto_region 4 with (fail)
  subst hi
  go_wp2_with fail
  refine (kxSplit_n hT qa (by omega) (by omega) HX.out HY.out ix iy).mono ?_; rintro ee w3 ⟨A7, c7, A8, c8, rfl, N7, N8, B⟩; replace hT := hT.below B; replace qa := qa.below B; replace qb := qb.below B; replace HB := Hqb HB B; clear B
  go_wp2_with fail
  refine (kxHas_ne hz).mono ?_; rintro ee w4 ⟨rfl, B⟩; replace hT := hT.below B; replace qa := qa.below B; replace qb := qb.below B; replace HB := Hqb HB B; clear B
  go_wp2_with fail
  refine (kxMeet_n qa qb (by omega) HM.out im).mono ?_; rintro ee w5 ⟨A5, c5, rfl, N5, B⟩; replace hT := hT.below B; replace qa := qa.below B; replace qb := qb.below B; replace HB := Hqb HB B; clear B
  go_wp2_with fail
  refine (kxHas_ne hz).mono ?_; rintro ee w6 ⟨rfl, B⟩; replace hT := hT.below B; replace qa := qa.below B; replace qb := qb.below B; replace HB := Hqb HB B; clear B
  go_wp2_with fail
  refine (kxHas_ne hz).mono ?_; rintro ee w8 ⟨rfl, B⟩; replace hT := hT.below B; replace qa := qa.below B; replace qb := qb.below B; replace HB := Hqb HB B; clear B
  go_wp2_with fail
  refine (kxHas_ne hz).mono ?_; rintro ee w9 ⟨rfl, B⟩; replace hT := hT.below B; replace qa := qa.below B; replace qb := qb.below B; replace HB := Hqb HB B; clear B; go_wp2
  go_ret
  exact ⟨rfl, HB.out⟩

theorem boxHas_walk (a0 : Option Addr) (len0 cap0 : Nat) (a1 : Option Addr) (len1 cap1 : Nat) (a2 : Option Addr) (len2 cap2 : Nat) (n3 : Int) (w : World) (hT : Tb w) (w0 : RowsI w a0 len0 cap0) (w1 : RowsI w a1 len1 cap1) (w2 : RowsN w a2 len2 cap2) (w3 : (Lit.int .i64 n3).wf = true) :
    Calls Tryd.prog 4 #[.slice a0 len0 cap0, .slice a1 len1 cap1, .slice a2 len2 cap2, .int .i64 n3] w fun e w' => e = .returned (.bool true) ∧ Below w.heap.size w w' := by
  by_cases h0 : len0 ≤ 20
  · by_cases h1 : len1 ≤ 20
    · by_cases h2 : len0 = len1
      · subst h2
        by_cases h3 : n3 < 0
        · exact boxHas_fard a0 len0 cap0 a1 cap1 a2 len2 cap2 n3 w hT (big_no h0) (by omega) (big_no h1) (by omega) ne_no rfl (decide_eq_true h3) h3
        · by_cases h4 : (len0 : Int) ≤ n3
          · exact boxHas_fare a0 len0 cap0 a1 cap1 a2 len2 cap2 n3 w hT (big_no h0) (by omega) (big_no h1) (by omega) ne_no rfl (decide_eq_false h3) (by omega) (decide_eq_true h4) h4
          · obtain ⟨i, rfl⟩ : ∃ i : Nat, n3 = ((i : Nat) : Int) := ⟨n3.toNat, by omega⟩
            have hi : i < len0 := by omega
            obtain ⟨l0, e0⟩ := w0.il (by omega); obtain ⟨l1, e1⟩ := w1.il (by omega); obtain ⟨ra, qa, rfl⟩ := e0.iq; obtain ⟨rb, qb, rfl⟩ := e1.iq; have oa := iq_ok qa; have ob := iq_ok qb
            have la : (ra.map rkV).length = len0 := by rw [List.length_map, qa.len]
            have lb : (rb.map rkV).length = len0 := by rw [List.length_map, qb.len]
            have le : (ra.map rkV).length = (rb.map rkV).length := by omega
            have li : i < (ra.map rkV).length := by omega
            have e1 := bxMeet_len le; have e3 := bxLo_len (ra.map rkV) i; have e4 := bxHi_len (ra.map rkV) i
            by_cases hz : len0 = len2
            rotate_left
            · exact boxHas_z a0 len0 cap0 a1 cap1 a2 len2 cap2 i _ rfl w ra rb _ _ _ hT qa qb hz (big_no h0) (by omega) (big_no h1) (by omega) ne_no rfl (decide_eq_false h3) (by omega) (decide_eq_false h4) (by omega) h0 hi (by omega) (by omega) (by omega) rfl rfl rfl
            obtain ⟨l2, e2⟩ := w2.nl (by omega); obtain ⟨rp, qp, rfl⟩ := e2.nq; have pp := nz_pll qp; have c1 := bxHas_meet oa ob pp le; have c2 := bxHas_halves oa pp li
            cases k0 : bxHas (ra.map rkV) (rp.map rkN)
            · rw [k0] at c1 c2; have c3 := Bool.or_eq_false_iff.1 c2.symm; exact boxHas_n a0 len0 cap0 a1 cap1 a2 len2 cap2 i _ rfl w ra rb rp _ _ _ hT qa qb qp (big_no h0) (by omega) (big_no h1) (by omega) ne_no rfl (decide_eq_false h3) (by omega) (decide_eq_false h4) (by omega) h0 hi (by omega) (by omega) (by omega) rfl rfl rfl k0 c1 c3.1 c3.2
            · rw [k0] at c1 c2
              cases k2 : bxHas (rb.map rkV) (rp.map rkN)
              · rw [k2] at c1
                cases k3 : bxHas (bxLo (ra.map rkV) i) (rp.map rkN)
                · rw [k3] at c2; exact boxHas_ff a0 len0 cap0 a1 cap1 a2 len2 cap2 i _ rfl w ra rb rp _ _ _ hT qa qb qp (big_no h0) (by omega) (big_no h1) (by omega) ne_no rfl (decide_eq_false h3) (by omega) (decide_eq_false h4) (by omega) h0 hi (by omega) (by omega) (by omega) rfl rfl rfl k0 c1 k3 k2 c2.symm
                · exact boxHas_ft a0 len0 cap0 a1 cap1 a2 len2 cap2 i _ rfl w ra rb rp _ _ _ hT qa qb qp (big_no h0) (by omega) (big_no h1) (by omega) ne_no rfl (decide_eq_false h3) (by omega) (decide_eq_false h4) (by omega) h0 hi (by omega) (by omega) (by omega) rfl rfl rfl k0 c1 k3 k2
              · rw [k2] at c1
                cases k3 : bxHas (bxLo (ra.map rkV) i) (rp.map rkN)
                · rw [k3] at c2; exact boxHas_tf a0 len0 cap0 a1 cap1 a2 len2 cap2 i _ rfl w ra rb rp _ _ _ hT qa qb qp (big_no h0) (by omega) (big_no h1) (by omega) ne_no rfl (decide_eq_false h3) (by omega) (decide_eq_false h4) (by omega) h0 hi (by omega) (by omega) (by omega) rfl rfl rfl k0 c1 k3 k2 c2.symm
                · exact boxHas_tt a0 len0 cap0 a1 cap1 a2 len2 cap2 i _ rfl w ra rb rp _ _ _ hT qa qb qp (big_no h0) (by omega) (big_no h1) (by omega) ne_no rfl (decide_eq_false h3) (by omega) (decide_eq_false h4) (by omega) h0 hi (by omega) (by omega) (by omega) rfl rfl rfl k0 c1 k3 k2
      · exact boxHas_farc a0 len0 cap0 a1 len1 cap1 a2 len2 cap2 n3 w hT (big_no h0) (by omega) (big_no h1) (by omega) (ne_yes h2) (ne_no2 h2)
    · exact boxHas_farb a0 len0 cap0 a1 len1 cap1 a2 len2 cap2 n3 w hT (big_no h0) (by omega) (big_yes h1) (by omega)
  · exact boxHas_fara a0 len0 cap0 a1 len1 cap1 a2 len2 cap2 n3 w hT (big_yes h0) (by omega)
end Go.Proofs.YtpnmphofengoeaaDoor
