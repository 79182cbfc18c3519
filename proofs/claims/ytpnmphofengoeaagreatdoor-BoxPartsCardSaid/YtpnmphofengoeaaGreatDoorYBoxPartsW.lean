/-
  The walk of BoxParts: for all arguments the call answers true, and nothing that was there has turned.
-/
import Derived.Test.YtpnmphofengoeaaGreatDoorYPba
import Derived.Test.YtpnmphofengoeaaGreatDoorYPbd
namespace Go.Proofs.YtpnmphofengoeaaGreatDoor
set_option maxHeartbeats 8000000
open Go.RowKit
set_option linter.unusedVariables false
set_option linter.unusedSimpArgs false
set_option maxRecDepth 100000

theorem iq_ok {w : World} {A : Option Addr} {n c : Nat} {r : List V9} (h : Iq w A n c r) : ∀ y ∈ r.map rkV, SpOk y := by
  intro x hx
  obtain ⟨v, hv, rfl⟩ := List.mem_map.1 hx; exact topV_ok (h.2.2.2.1 v hv)
theorem big_no {n : Nat} (h : n ≤ 20) : decide ((20 : Int) < (n : Int)) = false := decide_eq_false (by omega)
theorem big_yes {n : Nat} (h : ¬ n ≤ 20) : decide ((20 : Int) < (n : Int)) = true := decide_eq_true (by omega)
theorem Ia.row1 {w : World} {b1 n c : Nat} {A : Option Addr} {l : List Sp} (h1 : Ia w b1 A n c l) (hn : n ≤ 100000) : ∃ r, Iq w A n c r ∧ r.map rkV = l := by
  obtain ⟨r1, o1, e, _⟩ := h1.io; exact ⟨r1, o1.iq (by omega), e⟩
def PLn2 (w : World) (n : Nat) (l1 l2 : List Sp) (e : Ending) (w' : World) : Prop := ∃ A1 c1 A2 c2, e = .returned (.tuple #[.slice A1 n c1, .slice A2 n c2]) ∧ Ia w' w.heap.size A1 n c1 l1 ∧ Ia w' w.heap.size A2 n c2 l2 ∧ Below w.heap.size w w'
theorem kxMeet_n {w : World} {A B : Option Addr} {n c m d k : Nat} {ra rb : List V9} {l : List Sp} (ha : Iq w A n c ra) (hb : Iq w B m d rb) (hn : n ≤ 100000) (hr : bxMeet (ra.map rkV) (rb.map rkV) = l) (hl : l.length = k) : Calls Tryz.prog 12 #[.slice A n c, .slice B m d] w (PL w k l) := by
  subst hl; exact kxMeet ha hb hn hr
theorem kxSplit_n {w : World} {A : Option Addr} {n c k : Nat} {r : List V9} {i : Nat} {l1 l2 : List Sp} (hT : Tb w) (h : Iq w A n c r) (hn : n ≤ 1000000) (hi : i < n) (h1 : bxLo (r.map rkV) i = l1) (h2 : bxHi (r.map rkV) i = l2) (e1 : l1.length = k) (e2 : l2.length = k) : Calls Tryz.prog 6 #[.slice A n c, .int .i64 ((i : Nat) : Int)] w (PLn2 w k l1 l2) := by
  refine (kxSplit hT h hn hi h1 h2).mono ?_; rintro ee w' ⟨A1, c1, A2, c2, rfl, i1, i2, B⟩; rw [e1] at i1; rw [e2] at i2; exact ⟨A1, c1, A2, c2, by rw [e1, e2], i1, i2, B⟩
theorem ne_no {n : Nat} : ((n : Int) == (n : Int)) = true := beq_self_eq_true _
theorem ne_no2 {n m : Nat} (h : ¬ n = m) : ¬ (n : Int) = (m : Int) := by omega
theorem ne_yes {n m : Nat} (h : ¬ n = m) : ((n : Int) == (m : Int)) = false := by
  rw [beq_eq_false_iff_ne]
  omega
theorem jxSplit_n {w : World} {A : Option Addr} {n c k : Nat} {r : List V9} {i : Nat} {l1 l2 : List Sp} (h : Iq w A n c r) (hn : n ≤ 100000) (hN : NearS ((r.map rkV).getD i none)) (hi : i < n) (h1 : bxLo (r.map rkV) i = l1) (h2 : bxHi (r.map rkV) i = l2) (e1 : l1.length = k) (e2 : l2.length = k) : Calls Tryz.prog 7 #[.slice A n c, .int .i64 ((i : Nat) : Int)] w (PLn2 w k l1 l2) := by
  refine (jxSplit h hn hN hi h1 h2).mono ?_; rintro ee w' ⟨A1, c1, A2, c2, rfl, i1, i2, B⟩; rw [e1] at i1; rw [e2] at i2; exact ⟨A1, c1, A2, c2, by rw [e1, e2], i1, i2, B⟩
theorem few_all {w : World} {A : Option Addr} {n c : Nat} {r : List V9} (h : Iq w A n c r) (hq : r.all fewV = true) : ∀ k, k < n → FzI ((r.map rkV).getD k none) 1600 := by
  intro k hk
  have hl := h.len; obtain ⟨v, hv⟩ : ∃ v, r[k]? = some v := ⟨r[k]'(by omega), List.getElem?_eq_getElem (by omega)⟩; have hm := List.mem_of_getElem? hv; rw [List.getD_eq_getElem?_getD, List.getElem?_map, hv]; exact fewV_fz (h.top v hm) (List.all_eq_true.1 hq v hm)
theorem boxParts_far (a0 : Option Addr) (len0 cap0 : Nat) (n1 : Int) (w : World) (hT : Tb w) (h0 : decide ((20 : Int) < (len0 : Int)) = true) :
    Calls Tryz.prog 3 #[.slice a0 len0 cap0, .int .i64 n1] w (PB w true) := by
  go_enter Tryz.func3, Tryz.ntmps3
  have HB := Lib.hid (Below.refl w.heap.size w)
  go_wp2_with fail
  refine (awake14 hT).mono ?_; rintro ee w2 ⟨rfl, B⟩; replace hT := hT.below B; replace HB := Hqb HB B; clear B
  go_wp2_with fail
  refine (lxFew_no h0).mono ?_; rintro ee w3 ⟨rfl, B⟩; replace hT := hT.below B; replace HB := Hqb HB B; clear B; go_wp2
  go_ret
  exact ⟨rfl, HB.out⟩
theorem boxParts_few (a0 : Option Addr) (len0 cap0 : Nat) (n1 : Int) (w : World) (rb : List V9) (hT : Tb w) (qb : Iq w a0 len0 cap0 rb) (h0 : decide ((20 : Int) < (len0 : Int)) = false) (hq : rb.all fewV = false) :
    Calls Tryz.prog 3 #[.slice a0 len0 cap0, .int .i64 n1] w (PB w true) := by
  have HQ := Lib.hid hq; clear hq
  go_enter Tryz.func3, Tryz.ntmps3
  have HB := Lib.hid (Below.refl w.heap.size w)
  go_wp2_with fail
  refine (awake14 hT).mono ?_; rintro ee w2 ⟨rfl, B⟩; replace hT := hT.below B; replace qb := qb.below B; replace HB := Hqb HB B; clear B
  go_wp2_with fail
  refine (lxFew qb h0 HQ.out).mono ?_; rintro ee w3 ⟨rfl, B⟩; replace hT := hT.below B; replace qb := qb.below B; replace HB := Hqb HB B; clear B; go_wp2
  go_ret
  exact ⟨rfl, HB.out⟩
theorem boxParts_no (a0 : Option Addr) (len0 cap0 : Nat) (n1 : Int) (w : World) (rb : List V9) (z : Int) (hT : Tb w) (qb : Iq w a0 len0 cap0 rb) (h0 : decide ((20 : Int) < (len0 : Int)) = false) (hq : rb.all fewV = true) (hi : n1 < 0 ∨ (len0 : Int) ≤ n1) (hz : bxWidest (rb.map rkV) = z) :
    Calls Tryz.prog 3 #[.slice a0 len0 cap0, .int .i64 n1] w (PB w true) := by
  have HNN := Lib.hid (few_all qb hq); have HI := Lib.hid hi
  have qz : (z == z) = true := beq_self_eq_true z
  have HQ := Lib.hid hq; have HW := Lib.hid hz; clear hi hq hz
  go_enter Tryz.func3, Tryz.ntmps3
  have HB := Lib.hid (Below.refl w.heap.size w)
  go_wp2_with fail
  refine (awake14 hT).mono ?_; rintro ee w2 ⟨rfl, B⟩; replace hT := hT.below B; replace qb := qb.below B; replace HB := Hqb HB B; clear B
  go_wp2_with fail
  refine (lxFew qb h0 HQ.out).mono ?_; rintro ee w3 ⟨rfl, B⟩; replace hT := hT.below B; replace qb := qb.below B; replace HB := Hqb HB B; clear B
  go_wp2_with fail
  refine ((show Calls _ _ _ _ (PLn2 _ 0 [] []) from kxSplit_no HI.out)).mono ?_
  rintro ee w4 ⟨A1, c1, A2, c2, rfl, N1, N2, B⟩; replace hT := hT.below B; replace qb := qb.below B; replace HB := Hqb HB B; clear B
  go_wp2_with fail
  refine ((show Calls _ _ _ _ (PLn2 _ 0 [] []) from jxSplit_no HI.out)).mono ?_
  rintro ee w5 ⟨A3, c3, A4, c4, rfl, N3, N4, B⟩; replace hT := hT.below B; replace qb := qb.below B; replace N1 := N1.below B; replace N2 := N2.below B; replace HB := Hqb HB B; clear B; obtain ⟨r1, k1, j1⟩ := N1.row N3 (by omega); clear N1 N3; obtain ⟨r2, k2, j2⟩ := N2.row N4 (by omega); clear N2 N4
  go_wp2_with fail
  refine (jxSame k1 j1).mono ?_; rintro ee w6 ⟨rfl, B⟩; replace hT := hT.below B; replace qb := qb.below B; replace k1 := k1.below B; replace j1 := j1.below B; replace k2 := k2.below B; replace j2 := j2.below B; replace HB := Hqb HB B; clear B
  go_wp2_with fail
  refine (jxSame k2 j2).mono ?_; rintro ee w7 ⟨rfl, B⟩; replace hT := hT.below B; replace qb := qb.below B; replace k1 := k1.below B; replace j1 := j1.below B; replace k2 := k2.below B; replace j2 := j2.below B; replace HB := Hqb HB B; clear B
  go_wp2_with fail
  refine (kxWidest hT qb.il HW.out).mono ?_; rintro ee w8 ⟨rfl, B⟩; replace hT := hT.below B; replace qb := qb.below B; replace k1 := k1.below B; replace j1 := j1.below B; replace k2 := k2.below B; replace j2 := j2.below B; replace HB := Hqb HB B; clear B
  go_wp2_with fail
  refine (jxWidest qb.il HNN.out HW.out).mono ?_; rintro ee w9 ⟨rfl, B⟩; replace hT := hT.below B; replace qb := qb.below B; replace k1 := k1.below B; replace j1 := j1.below B; replace k2 := k2.below B; replace j2 := j2.below B; replace HB := Hqb HB B; clear B; go_wp2
  go_ret
  exact ⟨rfl, HB.out⟩
theorem boxParts_main (a0 : Option Addr) (len0 cap0 : Nat) (i : Nat) (w : World) (rb : List V9) (x y : List Sp) (z : Int) (hT : Tb w) (qb : Iq w a0 len0 cap0 rb) (h0 : decide ((20 : Int) < (len0 : Int)) = false) (k0 : len0 ≤ 20) (hq : rb.all fewV = true) (hi : i < len0) (hz : bxWidest (rb.map rkV) = z)
    (hx : bxLo (rb.map rkV) i = x) (hy : bxHi (rb.map rkV) i = y) (ix : x.length = len0) (iy : y.length = len0) :
    Calls Tryz.prog 3 #[.slice a0 len0 cap0, .int .i64 ((i : Nat) : Int)] w (PB w true) := by
  have HNN := Lib.hid (few_all qb hq); have HNS := Lib.hid (few_all qb hq i hi).s14
  have qz : (z == z) = true := beq_self_eq_true z
  have HQ := Lib.hid hq; have HW := Lib.hid hz; have HX := Lib.hid hx; have HY := Lib.hid hy; clear hq hz hx hy
  go_enter Tryz.func3, Tryz.ntmps3
  have HB := Lib.hid (Below.refl w.heap.size w)
  go_wp2_with fail
  refine (awake14 hT).mono ?_; rintro ee w2 ⟨rfl, B⟩; replace hT := hT.below B; replace qb := qb.below B; replace HB := Hqb HB B; clear B
  go_wp2_with fail
  refine (lxFew qb h0 HQ.out).mono ?_; rintro ee w3 ⟨rfl, B⟩; replace hT := hT.below B; replace qb := qb.below B; replace HB := Hqb HB B; clear B
  go_wp2_with fail
  refine (kxSplit_n hT qb (by omega) hi HX.out HY.out ix iy).mono ?_; rintro ee w4 ⟨A1, c1, A2, c2, rfl, N1, N2, B⟩; replace hT := hT.below B; replace qb := qb.below B; replace HB := Hqb HB B; clear B
  go_wp2_with fail
  refine (jxSplit_n qb (by omega) HNS.out hi HX.out HY.out ix iy).mono ?_; rintro ee w5 ⟨A3, c3, A4, c4, rfl, N3, N4, B⟩; replace hT := hT.below B; replace qb := qb.below B; replace N1 := N1.below B; replace N2 := N2.below B; replace HB := Hqb HB B; clear B; obtain ⟨r1, k1, j1⟩ := N1.row N3 (by omega); clear N1 N3; obtain ⟨r2, k2, j2⟩ := N2.row N4 (by omega); clear N2 N4
  go_wp2_with fail
  refine (jxSame k1 j1).mono ?_; rintro ee w6 ⟨rfl, B⟩; replace hT := hT.below B; replace qb := qb.below B; replace k1 := k1.below B; replace j1 := j1.below B; replace k2 := k2.below B; replace j2 := j2.below B; replace HB := Hqb HB B; clear B
  go_wp2_with fail
  refine (jxSame k2 j2).mono ?_; rintro ee w7 ⟨rfl, B⟩; replace hT := hT.below B; replace qb := qb.below B; replace k1 := k1.below B; replace j1 := j1.below B; replace k2 := k2.below B; replace j2 := j2.below B; replace HB := Hqb HB B; clear B
  go_wp2_with fail
  refine (kxWidest hT qb.il HW.out).mono ?_; rintro ee w8 ⟨rfl, B⟩; replace hT := hT.below B; replace qb := qb.below B; replace k1 := k1.below B; replace j1 := j1.below B; replace k2 := k2.below B; replace j2 := j2.below B; replace HB := Hqb HB B; clear B
  go_wp2_with fail
  refine (jxWidest qb.il HNN.out HW.out).mono ?_; rintro ee w9 ⟨rfl, B⟩; replace hT := hT.below B; replace qb := qb.below B; replace k1 := k1.below B; replace j1 := j1.below B; replace k2 := k2.below B; replace j2 := j2.below B; replace HB := Hqb HB B; clear B; go_wp2
  go_ret
  exact ⟨rfl, HB.out⟩

theorem boxParts_walk (a0 : Option Addr) (len0 cap0 : Nat) (n1 : Int) (w : World) (hT : Tb w) (w0 : RowsI w a0 len0 cap0) (w1 : (Lit.int .i64 n1).wf = true) :
    Calls Tryz.prog 3 #[.slice a0 len0 cap0, .int .i64 n1] w fun e w' => e = .returned (.bool true) ∧ Below w.heap.size w w' := by
  by_cases h0 : len0 ≤ 20
  · obtain ⟨l0, e0⟩ := w0.il (by omega); obtain ⟨rb, qb, rfl⟩ := e0.iq
    cases hq : rb.all fewV
    · exact boxParts_few a0 len0 cap0 n1 w rb hT qb (big_no h0) hq
    · by_cases h1 : n1 < 0 ∨ (len0 : Int) ≤ n1
      · exact boxParts_no a0 len0 cap0 n1 w rb _ hT qb (big_no h0) hq h1 rfl
      · obtain ⟨i, rfl⟩ : ∃ i : Nat, n1 = ((i : Nat) : Int) := ⟨n1.toNat, by omega⟩
        have hlm : (rb.map rkV).length = len0 := by rw [List.length_map, qb.len]
        exact boxParts_main a0 len0 cap0 i w rb _ _ _ hT qb (big_no h0) h0 hq (by omega) rfl rfl rfl (by rw [bxLo_len, hlm]) (by rw [bxHi_len, hlm])
  · exact boxParts_far a0 len0 cap0 n1 w hT (big_yes h0)
end Go.Proofs.YtpnmphofengoeaaGreatDoor
