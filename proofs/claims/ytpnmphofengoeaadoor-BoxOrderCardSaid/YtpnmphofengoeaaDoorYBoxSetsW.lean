/-
  The walk of BoxSets: for all arguments the call answers true, and nothing that was there has turned.
-/
import Derived.Test.YtpnmphofengoeaaDoorYAaz
import Derived.Test.YtpnmphofengoeaaDoorYAbd
namespace Go.Proofs.YtpnmphofengoeaaDoor
set_option maxHeartbeats 8000000
open Go.RowKit
set_option linter.unusedVariables false
set_option linter.unusedSimpArgs false
set_option maxRecDepth 100000

theorem nz_pll {w : World} {A : Option Addr} {n c : Nat} {q : List N4} (h : Nz w A n c q) : PlL (q.map rkN) := by
  intro x hx
  obtain ⟨⟨K, s, M, E⟩, hv, rfl⟩ := List.mem_map.1 hx; exact rk_bdn (h.2.2.2.1 _ hv) rfl
theorem iq_ok {w : World} {A : Option Addr} {n c : Nat} {r : List V9} (h : Iq w A n c r) : ∀ y ∈ r.map rkV, SpOk y := by
  intro x hx
  obtain ⟨v, hv, rfl⟩ := List.mem_map.1 hx; exact topV_ok (h.2.2.2.1 v hv)
theorem big_no {n : Nat} (h : n ≤ 20) : decide ((20 : Int) < (n : Int)) = false := decide_eq_false (by omega)
theorem big_yes {n : Nat} (h : ¬ n ≤ 20) : decide ((20 : Int) < (n : Int)) = true := decide_eq_true (by omega)
theorem boxSets_fara (a0 : Option Addr) (len0 cap0 : Nat) (a1 : Option Addr) (len1 cap1 : Nat) (a2 : Option Addr) (len2 cap2 : Nat) (w : World) (hT : Tb w) (h0 : decide ((20 : Int) < (len0 : Int)) = true) :
    Calls Tryd.prog 3 #[.slice a0 len0 cap0, .slice a1 len1 cap1, .slice a2 len2 cap2] w (PB w true) := by
  go_enter Tryd.func3, Tryd.ntmps3
  have HB := Lib.hid (Below.refl w.heap.size w)
  go_wp2_with fail
  refine (awake14 hT).mono ?_; rintro ee w2 ⟨rfl, B⟩; replace hT := hT.below B; replace HB := Hqb HB B; clear B; go_wp2
  go_ret
  exact ⟨rfl, HB.out⟩
theorem boxSets_farb (a0 : Option Addr) (len0 cap0 : Nat) (a1 : Option Addr) (len1 cap1 : Nat) (a2 : Option Addr) (len2 cap2 : Nat) (w : World) (hT : Tb w) (h0 : decide ((20 : Int) < (len0 : Int)) = false) (h1 : decide ((20 : Int) < (len1 : Int)) = true) :
    Calls Tryd.prog 3 #[.slice a0 len0 cap0, .slice a1 len1 cap1, .slice a2 len2 cap2] w (PB w true) := by
  go_enter Tryd.func3, Tryd.ntmps3
  have HB := Lib.hid (Below.refl w.heap.size w)
  go_wp2_with fail
  refine (awake14 hT).mono ?_; rintro ee w2 ⟨rfl, B⟩; replace hT := hT.below B; replace HB := Hqb HB B; clear B; go_wp2
  go_ret
  exact ⟨rfl, HB.out⟩
theorem boxSets_farc (a0 : Option Addr) (len0 cap0 : Nat) (a1 : Option Addr) (len1 cap1 : Nat) (a2 : Option Addr) (len2 cap2 : Nat) (w : World) (hT : Tb w) (h0 : decide ((20 : Int) < (len0 : Int)) = false) (h1 : decide ((20 : Int) < (len1 : Int)) = false) (h2 : decide ((20 : Int) < (len2 : Int)) = true) :
    Calls Tryd.prog 3 #[.slice a0 len0 cap0, .slice a1 len1 cap1, .slice a2 len2 cap2] w (PB w true) := by
  go_enter Tryd.func3, Tryd.ntmps3
  have HB := Lib.hid (Below.refl w.heap.size w)
  go_wp2_with fail
  refine (awake14 hT).mono ?_; rintro ee w2 ⟨rfl, B⟩; replace hT := hT.below B; replace HB := Hqb HB B; clear B; go_wp2
  go_ret
  exact ⟨rfl, HB.out⟩
theorem boxSets_main (a0 : Option Addr) (len0 cap0 : Nat) (a1 : Option Addr) (len1 cap1 : Nat) (a2 : Option Addr) (len2 cap2 : Nat) (w : World) (ra rb : List V9) (rp : List N4) (m h e : List Sp) (b1 b2 b3 : Bool) (hT : Tb w) (qa : Iq w a0 len0 cap0 ra) (qb : Iq w a1 len1 cap1 rb) (qp : Nz w a2 len2 cap2 rp) (np : Nl w a2 len2 cap2 (rp.map rkN))
    (h0 : decide ((20 : Int) < (len0 : Int)) = false) (h1 : decide ((20 : Int) < (len1 : Int)) = false) (h2 : decide ((20 : Int) < (len2 : Int)) = false) (i0 : len0 ≤ 20) (i1 : len1 ≤ 20) (im : m.length ≤ 100000) (ih : h.length ≤ 100000)
    (hm : bxMeet (ra.map rkV) (rb.map rkV) = m) (hh : bxHull (ra.map rkV) (rb.map rkV) = h) (he : bxFair (ra.map rkV) = e)
    (g1 : bxEmp (ra.map rkV) = b1) (g2 : bxHas (ra.map rkV) (rp.map rkN) = b2) (g3 : bxWit (ra.map rkV) (rb.map rkV) = b3) :
    Calls Tryd.prog 3 #[.slice a0 len0 cap0, .slice a1 len1 cap1, .slice a2 len2 cap2] w (PB w true) := by
  have HM := Lib.hid hm; have HH := Lib.hid hh; have HE := Lib.hid he; have G1 := Lib.hid g1; have G2 := Lib.hid g2; have G3 := Lib.hid g3; clear hm hh he g1 g2 g3
  go_enter Tryd.func3, Tryd.ntmps3
  have HB := Lib.hid (Below.refl w.heap.size w)
  go_wp2_with fail
  refine (awake14 hT).mono ?_; rintro ee w2 ⟨rfl, B⟩; replace hT := hT.below B; replace qa := qa.below B; replace qb := qb.below B; replace qp := qp.below B; replace np := np.below B; replace HB := Hqb HB B; clear B
  go_wp2_with fail
  refine (kxMeet qa qb (by omega) HM.out).mono ?_; rintro ee w3 ⟨A5, c5, rfl, N5, B⟩; replace hT := hT.below B; replace qa := qa.below B; replace qb := qb.below B; replace qp := qp.below B; replace np := np.below B; replace HB := Hqb HB B; clear B
  go_wp2_with fail
  refine (jxMeet qa.il qb.il (by omega) HM.out).mono ?_; rintro ee w4 ⟨A6, c6, rfl, N6, B⟩; replace hT := hT.below B; replace qa := qa.below B; replace qb := qb.below B; replace qp := qp.below B; replace np := np.below B; replace N5 := N5.below B; replace HB := Hqb HB B; clear B; obtain ⟨r1, k1, j1⟩ := N5.row N6 (by omega); clear N5 N6
  go_wp2_with fail
  refine (jxSame k1 j1).mono ?_; rintro ee w5 ⟨rfl, B⟩; replace hT := hT.below B; replace qa := qa.below B; replace qb := qb.below B; replace qp := qp.below B; replace np := np.below B; replace k1 := k1.below B; replace j1 := j1.below B; replace HB := Hqb HB B; clear B; clear k1 j1
  go_wp2_with fail
  refine (kxHull qa qb (by omega) (by omega) HH.out).mono ?_; rintro ee w6 ⟨A7, c7, rfl, N7, B⟩; replace hT := hT.below B; replace qa := qa.below B; replace qb := qb.below B; replace qp := qp.below B; replace np := np.below B; replace HB := Hqb HB B; clear B
  go_wp2_with fail
  refine (jxHull qa.il qb.il (by omega) HH.out).mono ?_; rintro ee w7 ⟨A8, c8, rfl, N8, B⟩; replace hT := hT.below B; replace qa := qa.below B; replace qb := qb.below B; replace qp := qp.below B; replace np := np.below B; replace N7 := N7.below B; replace HB := Hqb HB B; clear B; obtain ⟨r2, k2, j2⟩ := N7.row N8 (by omega); clear N7 N8
  go_wp2_with fail
  refine (jxSame k2 j2).mono ?_; rintro ee w8 ⟨rfl, B⟩; replace hT := hT.below B; replace qa := qa.below B; replace qb := qb.below B; replace qp := qp.below B; replace np := np.below B; replace k2 := k2.below B; replace j2 := j2.below B; replace HB := Hqb HB B; clear B; clear k2 j2
  go_wp2_with fail
  refine (kxFair qa (by omega) HE.out).mono ?_; rintro ee w9 ⟨A9, c9, rfl, N9, B⟩; replace hT := hT.below B; replace qa := qa.below B; replace qb := qb.below B; replace qp := qp.below B; replace np := np.below B; replace HB := Hqb HB B; clear B
  go_wp2_with fail
  refine (jxFair qa.il (by omega) HE.out).mono ?_; rintro ee wA ⟨A10, c10, rfl, N10, B⟩; replace hT := hT.below B; replace qa := qa.below B; replace qb := qb.below B; replace qp := qp.below B; replace np := np.below B; replace N9 := N9.below B; replace HB := Hqb HB B; clear B; obtain ⟨r3, k3, j3⟩ := N9.row N10 (by omega); clear N9 N10
  go_wp2_with fail
  refine (jxSame k3 j3).mono ?_; rintro ee wB ⟨rfl, B⟩; replace hT := hT.below B; replace qa := qa.below B; replace qb := qb.below B; replace qp := qp.below B; replace np := np.below B; replace k3 := k3.below B; replace j3 := j3.below B; replace HB := Hqb HB B; clear B; clear k3 j3
  go_wp2_with fail
  refine (kxEmpty qa.il G1.out).mono ?_; rintro ee wC ⟨rfl, B⟩; replace hT := hT.below B; replace qa := qa.below B; replace qb := qb.below B; replace qp := qp.below B; replace np := np.below B; replace HB := Hqb HB B; clear B
  go_wp2_with fail
  refine (jxEmpty qa.il G1.out).mono ?_; rintro ee wD ⟨rfl, B⟩; replace hT := hT.below B; replace qa := qa.below B; replace qb := qb.below B; replace qp := qp.below B; replace np := np.below B; replace HB := Hqb HB B; clear B
  have q1 : (b1 == b1) = true := by cases b1 <;> rfl
  have q2 : (b2 == b2) = true := by cases b2 <;> rfl
  have q3 : (b3 == b3) = true := by cases b3 <;> rfl
  go_wp2_with fail
  refine (kxHas qa qp G2.out).mono ?_; rintro ee wE ⟨rfl, B⟩; replace hT := hT.below B; replace qa := qa.below B; replace qb := qb.below B; replace qp := qp.below B; replace np := np.below B; replace HB := Hqb HB B; clear B
  go_wp2_with fail
  refine (jxHas qa.il np G2.out).mono ?_; rintro ee wF ⟨rfl, B⟩; replace hT := hT.below B; replace qa := qa.below B; replace qb := qb.below B; replace qp := qp.below B; replace np := np.below B; replace HB := Hqb HB B; clear B
  go_wp2_with fail
  refine (kxWithin qa qb G3.out).mono ?_; rintro ee wG ⟨rfl, B⟩; replace hT := hT.below B; replace qa := qa.below B; replace qb := qb.below B; replace qp := qp.below B; replace np := np.below B; replace HB := Hqb HB B; clear B
  go_wp2_with fail
  refine (jxWithin qa.il qb.il G3.out).mono ?_; rintro ee wH ⟨rfl, B⟩; replace hT := hT.below B; replace qa := qa.below B; replace qb := qb.below B; replace qp := qp.below B; replace np := np.below B; replace HB := Hqb HB B; clear B; go_wp2
  go_ret
  exact ⟨rfl, HB.out⟩

theorem boxSets_walk (a0 : Option Addr) (len0 cap0 : Nat) (a1 : Option Addr) (len1 cap1 : Nat) (a2 : Option Addr) (len2 cap2 : Nat) (w : World) (hT : Tb w) (w0 : RowsI w a0 len0 cap0) (w1 : RowsI w a1 len1 cap1) (w2 : RowsN w a2 len2 cap2) :
    Calls Tryd.prog 3 #[.slice a0 len0 cap0, .slice a1 len1 cap1, .slice a2 len2 cap2] w fun e w' => e = .returned (.bool true) ∧ Below w.heap.size w w' := by
  by_cases h0 : len0 ≤ 20
  · by_cases h1 : len1 ≤ 20
    · by_cases h2 : len2 ≤ 20
      · obtain ⟨l0, e0⟩ := w0.il (by omega); obtain ⟨l1, e1⟩ := w1.il (by omega); obtain ⟨l2, e2⟩ := w2.nl (by omega); obtain ⟨ra, qa, rfl⟩ := e0.iq; obtain ⟨rb, qb, rfl⟩ := e1.iq; obtain ⟨rp, qp, rfl⟩ := e2.nq; have la := qa.len; have lb := qb.len; refine boxSets_main a0 len0 cap0 a1 len1 cap1 a2 len2 cap2 w ra rb rp _ _ _ _ _ _ hT qa qb qp e2 (big_no h0) (big_no h1) (big_no h2) h0 h1 ?_ ?_ rfl rfl rfl rfl rfl rfl
        · by_cases c : (ra.map rkV).length = (rb.map rkV).length
          · rw [bxMeet_len c, List.length_map]
            omega
          · rw [show bxMeet (ra.map rkV) (rb.map rkV) = [] from if_neg c]
            exact Nat.zero_le _
        · by_cases c : (ra.map rkV).length = (rb.map rkV).length
          · rw [bxHull_len c, List.length_map]
            omega
          · rw [show bxHull (ra.map rkV) (rb.map rkV) = [] from if_neg c]
            exact Nat.zero_le _
      · exact boxSets_farc a0 len0 cap0 a1 len1 cap1 a2 len2 cap2 w hT (big_no h0) (big_no h1) (big_yes h2)
    · exact boxSets_farb a0 len0 cap0 a1 len1 cap1 a2 len2 cap2 w hT (big_no h0) (big_yes h1)
  · exact boxSets_fara a0 len0 cap0 a1 len1 cap1 a2 len2 cap2 w hT (big_yes h0)
end Go.Proofs.YtpnmphofengoeaaDoor
