/-
  The walk of BoxOrder: for all arguments the call answers true, and nothing that was there has turned.
-/
import Derived.Test.YtpnmphofengoeaaDoorYAaz
import Derived.Test.YtpnmphofengoeaaDoorYAbd
import Derived.Test.YtpnmphofengoeaaDoorYBoxSetsW
namespace Go.Proofs.YtpnmphofengoeaaDoor
set_option maxHeartbeats 8000000
open Go.RowKit
set_option linter.unusedVariables false
set_option linter.unusedSimpArgs false
set_option maxRecDepth 100000

theorem Ia.row1 {w : World} {b1 n c : Nat} {A : Option Addr} {l : List Sp} (h1 : Ia w b1 A n c l) (hn : n ≤ 100000) : ∃ r, Iq w A n c r ∧ r.map rkV = l := by
  obtain ⟨r1, o1, e, _⟩ := h1.io; exact ⟨r1, o1.iq (by omega), e⟩
def PLn2 (w : World) (n : Nat) (l1 l2 : List Sp) (e : Ending) (w' : World) : Prop := ∃ A1 c1 A2 c2, e = .returned (.tuple #[.slice A1 n c1, .slice A2 n c2]) ∧ Ia w' w.heap.size A1 n c1 l1 ∧ Ia w' w.heap.size A2 n c2 l2 ∧ Below w.heap.size w w'
theorem kxMeet_n {w : World} {A B : Option Addr} {n c m d k : Nat} {ra rb : List V9} {l : List Sp} (ha : Iq w A n c ra) (hb : Iq w B m d rb) (hn : n ≤ 100000) (hr : bxMeet (ra.map rkV) (rb.map rkV) = l) (hl : l.length = k) : Calls Tryd.prog 9 #[.slice A n c, .slice B m d] w (PL w k l) := by
  subst hl; exact kxMeet ha hb hn hr
theorem kxHull_n {w : World} {A B : Option Addr} {n c m d k : Nat} {ra rb : List V9} {l : List Sp} (ha : Iq w A n c ra) (hb : Iq w B m d rb) (hn : n ≤ 100000) (hm : m ≤ 100000) (hr : bxHull (ra.map rkV) (rb.map rkV) = l) (hl : l.length = k) : Calls Tryd.prog 11 #[.slice A n c, .slice B m d] w (PL w k l) := by
  subst hl; exact kxHull ha hb hn hm hr
theorem kxSplit_n {w : World} {A : Option Addr} {n c k : Nat} {r : List V9} {i : Nat} {l1 l2 : List Sp} (hT : Tb w) (h : Iq w A n c r) (hn : n ≤ 1000000) (hi : i < n) (h1 : bxLo (r.map rkV) i = l1) (h2 : bxHi (r.map rkV) i = l2) (e1 : l1.length = k) (e2 : l2.length = k) : Calls Tryd.prog 21 #[.slice A n c, .int .i64 ((i : Nat) : Int)] w (PLn2 w k l1 l2) := by
  refine (kxSplit hT h hn hi h1 h2).mono ?_; rintro ee w' ⟨A1, c1, A2, c2, rfl, i1, i2, B⟩; rw [e1] at i1; rw [e2] at i2; exact ⟨A1, c1, A2, c2, by rw [e1, e2], i1, i2, B⟩
theorem ne_no {n : Nat} : ((n : Int) == (n : Int)) = true := beq_self_eq_true _
theorem ne_no2 {n m : Nat} (h : ¬ n = m) : ¬ (n : Int) = (m : Int) := by omega
theorem ne_yes {n m : Nat} (h : ¬ n = m) : ((n : Int) == (m : Int)) = false := by
  rw [beq_eq_false_iff_ne]
  omega
theorem boxOrder_fara (a0 : Option Addr) (len0 cap0 : Nat) (a1 : Option Addr) (len1 cap1 : Nat) (n2 : Int) (w : World) (hT : Tb w)  (h : decide ((20 : Int) < (len0 : Int)) = true) (p : 20 < (len0 : Int)) :
    Calls Tryd.prog 5 #[.slice a0 len0 cap0, .slice a1 len1 cap1, .int .i64 n2] w (PB w true) := by
  go_enter Tryd.func5, Tryd.ntmps5
  have HB := Lib.hid (Below.refl w.heap.size w)
  go_wp2_with fail
  refine (awake14 hT).mono ?_; rintro ee w2 ⟨rfl, B⟩; replace hT := hT.below B; replace HB := Hqb HB B; clear B; go_wp2
  go_ret
  exact ⟨rfl, HB.out⟩
theorem boxOrder_farb (a0 : Option Addr) (len0 cap0 : Nat) (a1 : Option Addr) (len1 cap1 : Nat) (n2 : Int) (w : World) (hT : Tb w) (h0 : decide ((20 : Int) < (len0 : Int)) = false) (p0 : ¬ 20 < (len0 : Int)) (h : decide ((20 : Int) < (len1 : Int)) = true) (p : 20 < (len1 : Int)) :
    Calls Tryd.prog 5 #[.slice a0 len0 cap0, .slice a1 len1 cap1, .int .i64 n2] w (PB w true) := by
  go_enter Tryd.func5, Tryd.ntmps5
  have HB := Lib.hid (Below.refl w.heap.size w)
  go_wp2_with fail
  refine (awake14 hT).mono ?_; rintro ee w2 ⟨rfl, B⟩; replace hT := hT.below B; replace HB := Hqb HB B; clear B; go_wp2
  go_ret
  exact ⟨rfl, HB.out⟩
theorem boxOrder_farc (a0 : Option Addr) (len0 cap0 : Nat) (a1 : Option Addr) (len1 cap1 : Nat) (n2 : Int) (w : World) (hT : Tb w) (h0 : decide ((20 : Int) < (len0 : Int)) = false) (p0 : ¬ 20 < (len0 : Int)) (h1 : decide ((20 : Int) < (len1 : Int)) = false) (p1 : ¬ 20 < (len1 : Int)) (h : ((len0 : Int) == (len1 : Int)) = false) (p : ¬ (len0 : Int) = (len1 : Int)) :
    Calls Tryd.prog 5 #[.slice a0 len0 cap0, .slice a1 len1 cap1, .int .i64 n2] w (PB w true) := by
  go_enter Tryd.func5, Tryd.ntmps5
  have HB := Lib.hid (Below.refl w.heap.size w)
  go_wp2_with fail
  refine (awake14 hT).mono ?_; rintro ee w2 ⟨rfl, B⟩; replace hT := hT.below B; replace HB := Hqb HB B; clear B; go_wp2
  go_ret
  exact ⟨rfl, HB.out⟩
theorem boxOrder_fard (a0 : Option Addr) (len0 cap0 : Nat) (a1 : Option Addr) (cap1 : Nat) (n2 : Int) (w : World) (hT : Tb w) (h0 : decide ((20 : Int) < (len0 : Int)) = false) (p0 : ¬ 20 < (len0 : Int)) (h1 : decide ((20 : Int) < (len0 : Int)) = false) (p1 : ¬ 20 < (len0 : Int)) (h2 : ((len0 : Int) == (len0 : Int)) = true) (p2 : (len0 : Int) = (len0 : Int)) (h : decide (n2 < 0) = true) (p : n2 < 0) :
    Calls Tryd.prog 5 #[.slice a0 len0 cap0, .slice a1 len0 cap1, .int .i64 n2] w (PB w true) := by
  go_enter Tryd.func5, Tryd.ntmps5
  have HB := Lib.hid (Below.refl w.heap.size w)
  go_wp2_with fail
  refine (awake14 hT).mono ?_; rintro ee w2 ⟨rfl, B⟩; replace hT := hT.below B; replace HB := Hqb HB B; clear B; go_wp2
  go_ret
  exact ⟨rfl, HB.out⟩
theorem boxOrder_fare (a0 : Option Addr) (len0 cap0 : Nat) (a1 : Option Addr) (cap1 : Nat) (n2 : Int) (w : World) (hT : Tb w) (h0 : decide ((20 : Int) < (len0 : Int)) = false) (p0 : ¬ 20 < (len0 : Int)) (h1 : decide ((20 : Int) < (len0 : Int)) = false) (p1 : ¬ 20 < (len0 : Int)) (h2 : ((len0 : Int) == (len0 : Int)) = true) (p2 : (len0 : Int) = (len0 : Int)) (h3 : decide (n2 < 0) = false) (p3 : 0 ≤ n2) (h : decide ((len0 : Int) ≤ n2) = true) (p : (len0 : Int) ≤ n2) :
    Calls Tryd.prog 5 #[.slice a0 len0 cap0, .slice a1 len0 cap1, .int .i64 n2] w (PB w true) := by
  go_enter Tryd.func5, Tryd.ntmps5
  have HB := Lib.hid (Below.refl w.heap.size w)
  go_wp2_with fail
  refine (awake14 hT).mono ?_; rintro ee w2 ⟨rfl, B⟩; replace hT := hT.below B; replace HB := Hqb HB B; clear B; go_wp2
  go_ret
  exact ⟨rfl, HB.out⟩
theorem boxOrder_main (a0 : Option Addr) (len0 cap0 : Nat) (a1 : Option Addr) (cap1 : Nat) (i : Nat) (n2 : Int) (hi : ((i : Nat) : Int) = n2) (w : World) (ra rb : List V9) (m h x y u : List Sp) (hT : Tb w) (qa : Iq w a0 len0 cap0 ra) (qb : Iq w a1 len0 cap1 rb)
    (h0 : decide ((20 : Int) < (len0 : Int)) = false) (p0 : ¬ 20 < (len0 : Int)) (h1 : decide ((20 : Int) < (len0 : Int)) = false) (p1 : ¬ 20 < (len0 : Int)) (h2 : ((len0 : Int) == (len0 : Int)) = true) (p2 : (len0 : Int) = (len0 : Int)) (h3 : decide (n2 < 0) = false) (p3 : 0 ≤ n2) (h4 : decide ((len0 : Int) ≤ n2) = false) (p4 : n2 < (len0 : Int)) (i0 : len0 ≤ 20) (i1 : i < len0)
    (im : m.length = len0) (ih : h.length = len0) (ix : x.length = len0) (iy : y.length = len0) (iu : u.length = len0)
    (hm : bxMeet (ra.map rkV) (rb.map rkV) = m) (hh : bxHull (ra.map rkV) (rb.map rkV) = h) (hx : bxLo (ra.map rkV) i = x) (hy : bxHi (ra.map rkV) i = y) (hu : bxHull x y = u)
    (k0 : bxWit m (ra.map rkV) = true) (k1 : bxWit m (rb.map rkV) = true) (k2 : bxWit (ra.map rkV) h = true) (k3 : bxWit (rb.map rkV) h = true) (k4 : bxWit x (ra.map rkV) = true) (k5 : bxWit y (ra.map rkV) = true) (k6 : bxWit (ra.map rkV) u = true) :
    Calls Tryd.prog 5 #[.slice a0 len0 cap0, .slice a1 len0 cap1, .int .i64 n2] w (PB w true) := by
  have HM := Lib.hid hm; have HH := Lib.hid hh; have HX := Lib.hid hx; have HY := Lib.hid hy; have HU := Lib.hid hu; have KW0 := Lib.hid k0; have KW1 := Lib.hid k1; have KW2 := Lib.hid k2; have KW3 := Lib.hid k3; have KW4 := Lib.hid k4; have KW5 := Lib.hid k5; have KW6 := Lib.hid k6; clear hm hh hx hy hu k0 k1 k2 k3 k4 k5 k6
  go_enter Tryd.func5, Tryd.ntmps5
  have HB := Lib.hid (Below.refl w.heap.size w)
  go_wp2_with fail
  refine (awake14 hT).mono ?_; rintro ee w2 ⟨rfl, B⟩; replace hT := hT.below B; replace qa := qa.below B; replace qb := qb.below B; replace HB := Hqb HB B; clear B
  go_wp2_with fail
  refine (kxMeet_n qa qb (by omega) HM.out im).mono ?_; rintro ee w3 ⟨A5, c5, rfl, N5, B⟩; replace hT := hT.below B; replace qa := qa.below B; replace qb := qb.below B; replace HB := Hqb HB B; clear B; obtain ⟨r5, q5, rfl⟩ := N5.row1 (by omega); clear N5
  go_wp2_with fail
  refine (kxHull_n qa qb (by omega) (by omega) HH.out ih).mono ?_; rintro ee w4 ⟨A6, c6, rfl, N6, B⟩; replace hT := hT.below B; replace qa := qa.below B; replace qb := qb.below B; replace q5 := q5.below B; replace HB := Hqb HB B; clear B; obtain ⟨r6, q6, rfl⟩ := N6.row1 (by omega); clear N6; subst hi
  go_wp2_with fail
  refine (kxSplit_n hT qa (by omega) (by omega) HX.out HY.out ix iy).mono ?_; rintro ee w5 ⟨A7, c7, A8, c8, rfl, N7, N8, B⟩; replace hT := hT.below B; replace qa := qa.below B; replace qb := qb.below B; replace q5 := q5.below B; replace q6 := q6.below B; replace HB := Hqb HB B; clear B; obtain ⟨r7, q7, rfl⟩ := N7.row1 (by omega); clear N7; obtain ⟨r8, q8, rfl⟩ := N8.row1 (by omega); clear N8
  go_wp2_with fail
  refine (kxWithin q5 qa KW0.out).mono ?_; rintro ee w50 ⟨rfl, B⟩; replace hT := hT.below B; replace qa := qa.below B; replace qb := qb.below B; replace q5 := q5.below B; replace q6 := q6.below B; replace q7 := q7.below B; replace q8 := q8.below B; replace HB := Hqb HB B; clear B
  go_wp2_with fail
  refine (kxWithin q5 qb KW1.out).mono ?_; rintro ee w51 ⟨rfl, B⟩; replace hT := hT.below B; replace qa := qa.below B; replace qb := qb.below B; replace q5 := q5.below B; replace q6 := q6.below B; replace q7 := q7.below B; replace q8 := q8.below B; replace HB := Hqb HB B; clear B
  go_wp2_with fail
  refine (kxWithin qa q6 KW2.out).mono ?_; rintro ee w52 ⟨rfl, B⟩; replace hT := hT.below B; replace qa := qa.below B; replace qb := qb.below B; replace q5 := q5.below B; replace q6 := q6.below B; replace q7 := q7.below B; replace q8 := q8.below B; replace HB := Hqb HB B; clear B
  go_wp2_with fail
  refine (kxWithin qb q6 KW3.out).mono ?_; rintro ee w53 ⟨rfl, B⟩; replace hT := hT.below B; replace qa := qa.below B; replace qb := qb.below B; replace q5 := q5.below B; replace q6 := q6.below B; replace q7 := q7.below B; replace q8 := q8.below B; replace HB := Hqb HB B; clear B
  go_wp2_with fail
  refine (kxWithin q7 qa KW4.out).mono ?_; rintro ee w54 ⟨rfl, B⟩; replace hT := hT.below B; replace qa := qa.below B; replace qb := qb.below B; replace q5 := q5.below B; replace q6 := q6.below B; replace q7 := q7.below B; replace q8 := q8.below B; replace HB := Hqb HB B; clear B
  go_wp2_with fail
  refine (kxWithin q8 qa KW5.out).mono ?_; rintro ee w55 ⟨rfl, B⟩; replace hT := hT.below B; replace qa := qa.below B; replace qb := qb.below B; replace q5 := q5.below B; replace q6 := q6.below B; replace q7 := q7.below B; replace q8 := q8.below B; replace HB := Hqb HB B; clear B
  go_wp2_with fail
  refine (kxHull_n q7 q8 (by omega) (by omega) HU.out iu).mono ?_; rintro ee w60 ⟨A9, c9, rfl, N9, B⟩; replace hT := hT.below B; replace qa := qa.below B; replace qb := qb.below B; replace q5 := q5.below B; replace q6 := q6.below B; replace q7 := q7.below B; replace q8 := q8.below B; replace HB := Hqb HB B; clear B; obtain ⟨r9, q9, rfl⟩ := N9.row1 (by omega); clear N9
  go_wp2_with fail
  refine (kxWithin qa q9 KW6.out).mono ?_; rintro ee w56 ⟨rfl, B⟩; replace hT := hT.below B; replace qa := qa.below B; replace qb := qb.below B; replace q5 := q5.below B; replace q6 := q6.below B; replace q7 := q7.below B; replace q8 := q8.below B; replace q9 := q9.below B; replace HB := Hqb HB B; clear B; go_wp2
  go_ret
  exact ⟨rfl, HB.out⟩

theorem boxOrder_walk (a0 : Option Addr) (len0 cap0 : Nat) (a1 : Option Addr) (len1 cap1 : Nat) (n2 : Int) (w : World) (hT : Tb w) (w0 : RowsI w a0 len0 cap0) (w1 : RowsI w a1 len1 cap1) (w2 : (Lit.int .i64 n2).wf = true) :
    Calls Tryd.prog 5 #[.slice a0 len0 cap0, .slice a1 len1 cap1, .int .i64 n2] w fun e w' => e = .returned (.bool true) ∧ Below w.heap.size w w' := by
  by_cases h0 : len0 ≤ 20
  · by_cases h1 : len1 ≤ 20
    · by_cases h2 : len0 = len1
      · subst h2
        by_cases h3 : n2 < 0
        · exact boxOrder_fard a0 len0 cap0 a1 cap1 n2 w hT (big_no h0) (by omega) (big_no h1) (by omega) ne_no rfl (decide_eq_true h3) h3
        · by_cases h4 : (len0 : Int) ≤ n2
          · exact boxOrder_fare a0 len0 cap0 a1 cap1 n2 w hT (big_no h0) (by omega) (big_no h1) (by omega) ne_no rfl (decide_eq_false h3) (by omega) (decide_eq_true h4) h4
          · obtain ⟨i, rfl⟩ : ∃ i : Nat, n2 = ((i : Nat) : Int) := ⟨n2.toNat, by omega⟩
            have hi : i < len0 := by omega
            obtain ⟨l0, e0⟩ := w0.il (by omega); obtain ⟨l1, e1⟩ := w1.il (by omega); obtain ⟨ra, qa, rfl⟩ := e0.iq; obtain ⟨rb, qb, rfl⟩ := e1.iq; have oa := iq_ok qa; have ob := iq_ok qb
            have la : (ra.map rkV).length = len0 := by rw [List.length_map, qa.len]
            have lb : (rb.map rkV).length = len0 := by rw [List.length_map, qb.len]
            have le : (ra.map rkV).length = (rb.map rkV).length := by omega
            have li : i < (ra.map rkV).length := by omega
            have e1 := bxMeet_len le; have e2 := bxHull_len le; have e3 := bxLo_len (ra.map rkV) i; have e4 := bxHi_len (ra.map rkV) i; have e5 := bxHull_len (e3.trans e4.symm)
            exact boxOrder_main a0 len0 cap0 a1 cap1 i _ rfl w ra rb _ _ _ _ _ hT qa qb (big_no h0) (by omega) (big_no h1) (by omega) ne_no rfl (decide_eq_false h3) (by omega) (decide_eq_false h4) (by omega) h0 hi (by omega) (by omega) (by omega) (by omega) (by omega) rfl rfl rfl rfl rfl
              (bxWit_meet le).1 (bxWit_meet le).2 (bxWit_hull oa ob le).1 (bxWit_hull oa ob le).2 (bxWit_lo oa li).1 (bxWit_lo oa li).2 (bxHull_halves oa li)
      · exact boxOrder_farc a0 len0 cap0 a1 len1 cap1 n2 w hT (big_no h0) (by omega) (big_no h1) (by omega) (ne_yes h2) (ne_no2 h2)
    · exact boxOrder_farb a0 len0 cap0 a1 len1 cap1 n2 w hT (big_no h0) (by omega) (big_yes h1) (by omega)
  · exact boxOrder_fara a0 len0 cap0 a1 len1 cap1 n2 w hT (big_yes h0) (by omega)
end Go.Proofs.YtpnmphofengoeaaDoor
