/-
  The walk of DySums: for all arguments, where the table lies as it was laid, the call answers true, and nothing that was there has turned.
-/
import Derived.Test.YteoeoppkefcmdaaDoorZa
import Derived.Test.YteoeoppkefcmdaaDoorZb
import Derived.Test.YteoeoppkefcmdaaDoorZc
import Derived.Test.YteoeoppkefcmdaaDoorZd
namespace Go.Proofs.YteoeoppkefcmdaaDoor
open Go.RowKit
set_option linter.unusedVariables false

/-- A slice of n numbers that came in; one of at most 20 limbs reads as a number. -/
def Dq (w : World) (A : Option Addr) (n c : Nat) : Prop :=
  n ≤ c ∧ n ≤ 1099511627776 ∧ (0 < n → ∃ b o, A = some ⟨b, o, none⟩ ∧ ∀ k, k < n → ∃ s B m d e, w.cell? ⟨b, o + k * 3, none⟩ = some (.bool s) ∧ w.cell? ⟨b, o + k * 3 + 1, none⟩ = some (.slice B m d) ∧ w.cell? ⟨b, o + k * 3 + 2, none⟩ = some (.int .i64 e) ∧ m ≤ 9223372036854775807 ∧ (m ≤ 20 → ∃ v, Rd w B m d v))
theorem Dq.below {w w' : World} {A : Option Addr} {n c : Nat} (h : Dq w A n c) (hb : Below w.heap.size w w') : Dq w' A n c := by
  obtain ⟨h2, h3, h4⟩ := h
  refine ⟨h2, h3, fun hn => ?_⟩
  obtain ⟨b, o, e, hc⟩ := h4 hn
  refine ⟨b, o, e, fun k hk => ?_⟩
  obtain ⟨s, B, m, d, x, c0, c1, c2, hm, hw⟩ := hc k hk
  refine ⟨s, B, m, d, x, (hb.cell (p := ⟨b, _, none⟩) (block_lt_of_cell c0)).trans c0, (hb.cell (p := ⟨b, _, none⟩) (block_lt_of_cell c1)).trans c1, (hb.cell (p := ⟨b, _, none⟩) (block_lt_of_cell c2)).trans c2, hm, fun h20 => ?_⟩
  obtain ⟨v, hv⟩ := hw h20
  exact ⟨v, hv.below hb⟩
theorem RowsD.dq {w : World} {a : Option Addr} {len cap : Nat} (h : RowsD w a len cap) (hl : len ≤ 1099511627776) : Dq w a len cap := by
  rcases h with ⟨rfl, rfl, rfl⟩ | ⟨x, rfl, h1, h2, h3⟩
  · exact ⟨Nat.le_refl _, by decide, fun h => absurd h (by decide)⟩
  · refine ⟨h1, hl, fun hn => ?_⟩
    obtain ⟨bk, off, spot⟩ := x
    have hs : spot = none := by
      obtain ⟨s, b, n, c, zs, e, e0, _⟩ := h3 0 hn
      unfold World.cell? at e0
      rcases spot with _ | s
      · rfl
      · simp [Addr.add] at e0
        split at e0 <;> simp at e0
    subst hs
    refine ⟨bk, off, rfl, fun k hk => ?_⟩
    obtain ⟨s, b, n, c, zs, e, e0, e1, e2, hr⟩ := h3 k hk
    rw [Addr.add_mid] at e0 e1 e2
    exact ⟨s, b, n, c, e, e0, by rw [Nat.add_assoc]; exact e1, by rw [Nat.add_assoc]; exact e2, hr.len, fun h20 => hr.rd (by omega)⟩
/-- The first k are small. -/
def FewTo (w : World) (b o k : Nat) : Prop := ∀ j, j < k → ∀ B m d e, w.cell? ⟨b, o + j * 3 + 1, none⟩ = some (.slice B m d) → w.cell? ⟨b, o + j * 3 + 2, none⟩ = some (.int .i64 e) → fewB m e = true
theorem FewTo.zero (w : World) (b o : Nat) : FewTo w b o 0 := fun j hj => absurd hj (Nat.not_lt_zero _)
theorem FewTo.succ {w : World} {b o k : Nat} (h : FewTo w b o k) {B : Option Addr} {m d : Nat} {e : Int} (c1 : w.cell? ⟨b, o + k * 3 + 1, none⟩ = some (.slice B m d)) (c2 : w.cell? ⟨b, o + k * 3 + 2, none⟩ = some (.int .i64 e)) (hf : fewB m e = true) : FewTo w b o (k + 1) := by
  intro j hj B' m' d' e' h1 h2
  rcases Nat.lt_or_ge j k with q | q
  · exact h j q B' m' d' e' h1 h2
  · obtain rfl : j = k := by omega
    rw [c1] at h1
    rw [c2] at h2
    cases h1
    cases h2
    exact hf
theorem Dq.dl {w : World} {A : Option Addr} {n c b o : Nat} (h : Dq w A n c) (e : 0 < n → A = some ⟨b, o, none⟩) (hu : 0 < n → FewTo w b o n) : ∃ l η, η = 1640 ∧ Dl w A n c 20 l ∧ ∀ p ∈ l, Fit η (mk p.1 p.2) := by
  obtain ⟨h2, h3, h4⟩ := h
  obtain ⟨η, hη⟩ : ∃ η, η = 1640 := ⟨_, rfl⟩
  rcases Nat.eq_zero_or_pos n with rfl | hn
  · exact ⟨[], η, hη, ⟨rfl, h2, h3, fun h => absurd h (by decide)⟩, fun p hp => by cases hp⟩
  · obtain ⟨b', o', e', hc⟩ := h4 hn
    have e2 := e hn
    rw [e'] at e2
    cases e2
    have hu := hu hn
    have hex : ∀ k, ∃ p : Int × Int, k < n → ∃ s B m d, w.cell? ⟨b, o + k * 3, none⟩ = some (.bool s) ∧ w.cell? ⟨b, o + k * 3 + 1, none⟩ = some (.slice B m d) ∧ w.cell? ⟨b, o + k * 3 + 2, none⟩ = some (.int .i64 p.2) ∧ Wr w s B m d p.1 ∧ fewB m p.2 = true := by
      intro k
      by_cases hk : k < n
      · obtain ⟨s, B, m, d, x, c0, c1, c2, _, hv⟩ := hc k hk
        have hm := hu k hk B m d x c1 c2
        obtain ⟨v, hv⟩ := hv (fewB_true hm).1
        exact ⟨(sg s v, x), fun _ => ⟨s, B, m, d, c0, c1, c2, hv.wr s, hm⟩⟩
      · exact ⟨(0, 0), fun h => absurd h hk⟩
    obtain ⟨f, hf⟩ := Classical.axiomOfChoice hex
    refine ⟨(List.range n).map f, η, hη, ⟨by simp, h2, h3, fun _ => ⟨b, o, e', fun k hk => ?_⟩⟩, fun p hp => ?_⟩
    · obtain ⟨s, B, m, d, c0, c1, c2, hw, hm⟩ := hf k hk
      have hg : ((List.range n).map f).getD k (0, 0) = f k := by
        rw [List.getD_eq_getElem?_getD]
        simp [hk]
      rw [hg]
      exact ⟨s, B, m, d, c0, c1, c2, hw, (fewB_true hm).1⟩
    · obtain ⟨k, hk, rfl⟩ := List.mem_map.1 hp
      obtain ⟨s, B, m, d, c0, c1, c2, hw, hm⟩ := hf k (List.mem_range.1 hk)
      obtain ⟨η', hη', fit⟩ := raw_fit' hw hm
      rw [show η = η' by omega]
      exact fit

set_option maxRecDepth 100000 in
set_option maxHeartbeats 8000000 in
theorem dySums_main (s0 : Bool) (a0 : Option Addr) (len0 cap0 : Nat) (e0 : Int) (s1 : Bool) (a1 : Option Addr) (len1 cap1 : Nat) (e1 : Int) (a2 : Option Addr) (len2 cap2 : Nat) (w : World) (x0 x1 : Int) (hT : Tab w) (h0 : Wr w s0 a0 len0 cap0 x0) (h1 : Wr w s1 a1 len1 cap1 x1) (h2 : Dq w a2 len2 cap2) (f0 : fewB len0 e0 = true) (f1 : fewB len1 e1 = true) (k2 : len2 ≤ 6) :
    Calls Tryd.prog 4 #[.agg #[.bool s0, .slice a0 len0 cap0, .int .i64 e0], .agg #[.bool s1, .slice a1 len1 cap1, .int .i64 e1], .slice a2 len2 cap2] w (PB w true) := by
  have t2 : decide ((6 : Int) < len2) = false := by simp; omega
  obtain ⟨j0, _, _⟩ := fewB_true f0
  obtain ⟨j1, _, _⟩ := fewB_true f1
  have HF0 := Lib.hid f0
  have HF1 := Lib.hid f1
  obtain ⟨η, hη, fP⟩ := raw_fit' h0 f0
  obtain ⟨η1, hη1, fQ⟩ := raw_fit' h1 f1
  obtain ⟨P, hP⟩ : ∃ P, mk x0 e0 = P := ⟨_, rfl⟩
  obtain ⟨Q, hQ⟩ : ∃ Q, mk x1 e1 = Q := ⟨_, rfl⟩
  rw [hP] at fP
  rw [hQ, show η1 = η by omega] at fQ
  have nN : mk (ng Q).1 (ng Q).2 = ng Q := ng_nf fQ.nf
  obtain ⟨fD, vD, cD⟩ := two_fit (h := η) (a := (x0, e0)) (b := ng Q) (by omega) (by rw [hP]; exact fP) (by rw [nN]; exact fQ.neg)
  rw [smd_two, nN, hP, vl_ng] at vD
  rw [smd_two, nN, hP] at fD
  have hnear : Near P (ng Q) := fP.near fQ.neg (by omega)
  obtain ⟨D, hD⟩ : ∃ x, pl P (ng Q) = x := ⟨_, rfl⟩
  rw [hD] at fD vD
  obtain ⟨fM, _⟩ := ml_fit (by omega) fP fQ
  obtain ⟨M, hM⟩ : ∃ x, ml P Q = x := ⟨_, rfl⟩
  rw [hM] at fM
  obtain ⟨φ, hφ⟩ : ∃ x, flr P.1 P.2 = x := ⟨_, rfl⟩
  obtain ⟨κ, hκ⟩ : ∃ x, cmpI (vl P) (vl Q) = x := ⟨_, rfl⟩
  have hκD : cmpI D.1 0 = κ := by
    rw [← vl_sign, vD, ← hκ, ← Int.sub_eq_add_neg]
    exact cmpI_sub
  have bκ : (κ == κ) = true := by simp
  have hneg : mk (-x0) e0 = (-P.1, P.2) := by rw [mk_neg, hP]
  obtain ⟨bb, oo, haddr⟩ : ∃ b o, 0 < len2 → a2 = some ⟨b, o, none⟩ := by
    rcases Nat.eq_zero_or_pos len2 with e | e
    · exact ⟨0, 0, fun h => by omega⟩
    · obtain ⟨b, o, e, _⟩ := h2.2.2 e
      exact ⟨b, o, fun _ => e⟩
  have HA := Lib.hid haddr
  have HP := Lib.hid hP
  have HQ := Lib.hid hQ
  have HD := Lib.hid hD
  have HM := Lib.hid hM
  have Hφ := Lib.hid hφ
  have Hκ := Lib.hid hκ
  have HκD := Lib.hid hκD
  have HN1 : Hid ((mk (-x0) e0).1 = -P.1) := Lib.hid (by rw [hneg])
  have HN2 : Hid ((mk (-x0) e0).2 = P.2) := Lib.hid (by rw [hneg])
  have HcD := Lib.hid cD
  have HNr := Lib.hid hnear
  have HLD := Lib.hid (fD.lm (by omega))
  have HLM := Lib.hid (fM.lm (by omega))
  clear f0 f1 hη hη1 fP fQ hP hQ nN fD vD cD hnear hD fM hM hφ hκ hκD hneg haddr
  go_enter Tryd.func4, Tryd.ntmps4
  go_upto_region 1 with (fail)
  have X0 := (Bo.newAt w (g := w.heap.size) (by simp) #[.bool s0, .slice a0 len0 cap0, .int .i64 e0] 27).below (bel1 _ (.cells #[.bool s1, .slice a1 len1 cap1, .int .i64 e1] 27))
  have X1 := (Bo.newAt (w.alloc (.cells #[.bool s0, .slice a0 len0 cap0, .int .i64 e0] 27)) (g := w.heap.size + 1) (by simp) #[.bool s1, .slice a1 len1 cap1, .int .i64 e1] 27)
  have HB := Lib.hid (bel2 w (.cells #[.bool s0, .slice a0 len0 cap0, .int .i64 e0] 27) (.cells #[.bool s1, .slice a1 len1 cap1, .int .i64 e1] 27))
  replace hT := hT.below HB.out
  replace h0 := h0.below HB.out
  replace h1 := h1.below HB.out
  replace h2 := h2.below HB.out
  generalize hW1 : ((w.alloc (.cells #[.bool s0, .slice a0 len0 cap0, .int .i64 e0] 27)).alloc (.cells #[.bool s1, .slice a1 len1 cap1, .int .i64 e1] 27)) = w1 at *
  clear hW1
  go_wp2_with fail
  refine (awake3 _ hT).mono ?_
  rintro ee w2 ⟨rfl, B⟩
  replace X0 := X0.below B
  replace X1 := X1.below B
  replace hT := hT.below B
  replace h0 := h0.below B
  replace h1 := h1.below B
  replace h2 := h2.below B
  replace HB := Lib.hid (bt HB.out B)
  clear B
  have xX00 := X0.at (i := 0) (v := .bool s0) rfl
  have xX01 := X0.at (i := 1) (v := .slice a0 len0 cap0) rfl
  have xX02 := X0.at (i := 2) (v := .int .i64 e0) rfl
  go_wp2_with fail
  refine (few3E _ HF0.out).mono ?_
  rintro ee w3 ⟨rfl, B⟩
  clear xX00 xX01 xX02
  replace X0 := X0.below B
  replace X1 := X1.below B
  replace hT := hT.below B
  replace h0 := h0.below B
  replace h1 := h1.below B
  replace h2 := h2.below B
  replace HB := Lib.hid (bt HB.out B)
  clear B
  have xX10 := X1.at (i := 0) (v := .bool s1) rfl
  have xX11 := X1.at (i := 1) (v := .slice a1 len1 cap1) rfl
  have xX12 := X1.at (i := 2) (v := .int .i64 e1) rfl
  go_wp2_with fail
  refine (few3E _ HF1.out).mono ?_
  rintro ee w4 ⟨rfl, B⟩
  clear xX10 xX11 xX12
  replace X0 := X0.below B
  replace X1 := X1.below B
  replace hT := hT.below B
  replace h0 := h0.below B
  replace h1 := h1.below B
  replace h2 := h2.below B
  replace HB := Lib.hid (bt HB.out B)
  clear B
  have xX00 := X0.at (i := 0) (v := .bool s0) rfl
  have xX01 := X0.at (i := 1) (v := .slice a0 len0 cap0) rfl
  have xX02 := X0.at (i := 2) (v := .int .i64 e0) rfl
  have xX10 := X1.at (i := 0) (v := .bool s1) rfl
  have xX11 := X1.at (i := 1) (v := .slice a1 len1 cap1) rfl
  have xX12 := X1.at (i := 2) (v := .int .i64 e1) rfl
  go_wp2
  clear xX00 xX01 xX02 xX10 xX11 xX12
  have hcap := h2.1
  go_loopw [10] (fun i wr => ∃ k : Nat, k ≤ len2 ∧ i = .int .i64 k ∧ FewTo w4 bb oo k ∧ Below w4.heap.size w4 wr) (fun i _ => len2 - (intOf i).toNat)
  case atStart => exact ⟨0, Nat.zero_le _, rfl, FewTo.zero _ _ _, Below.refl _ _⟩
  case round =>
    obtain ⟨k, hk, rfl, hU, hB⟩ := hrel
    have HU := Lib.hid hU
    have HB4 := Lib.hid hB
    clear hU
    by_cases hlt : k < len2
    · obtain ⟨b, o, e, hcell⟩ := h2.2.2 (by omega)
      have e2 := HA.out (by omega)
      rw [e] at e2
      cases e2
      subst e
      obtain ⟨s, B, m, d, x, c0, c1, c2, hm, _⟩ := hcell k hlt
      have d0 := (hB.cell (p := ⟨bb, _, none⟩) (block_lt_of_cell c0)).trans c0
      have d1 := (hB.cell (p := ⟨bb, _, none⟩) (block_lt_of_cell c1)).trans c1
      have d2 := (hB.cell (p := ⟨bb, _, none⟩) (block_lt_of_cell c2)).trans c2
      clear hcell hB
      have i1 : (k : Int) < len2 := by omega
      have i2 : (0 : Int) ≤ k := by omega
      by_cases hfew : fewB m x = true
      · have HN : Hid (FewTo w4 bb oo (k + 1)) := Lib.hid (HU.out.succ c1 c2 hfew)
        have HW := Lib.hid hfew
        clear hfew c0 c1 c2
        go_wp2_with fail
        refine (few3E _ HW.out).mono ?_
        rintro ee w5 ⟨rfl, B5⟩
        have HB5 := Lib.hid (bt HB4.out B5)
        clear B5 d0 d1 d2
        go_wp2
        go_roundw
        case rel => exact ⟨k + 1, by omega, by go_num, HN.out, HB5.out⟩
        case measure => simp [intOf]; omega
      · have HW : Hid (fewB m x = false) := Lib.hid (by simpa using hfew)
        clear hfew c0 c1 c2
        go_wp2_with fail
        refine (few3E _ HW.out).mono ?_
        rintro ee w5 ⟨rfl, B5⟩
        have HB5 := Lib.hid (bt HB4.out B5)
        clear B5 d0 d1 d2
        go_wp2
        go_ret
        exact ⟨rfl, bt HB.out HB5.out⟩
    · obtain rfl : k = len2 := by omega
      obtain ⟨l, θ, hθ, hl, hfit⟩ := h2.dl HA.out (fun _ => HU.out)
      have hlen := hl.1
      have hC : Can l := can_of_fit (h := θ) (by omega) hfit
      have hLZ : Lm (smd l).1 := by
        have := smd_fit l (h := θ) (by omega) hfit l.length (Nat.le_refl _)
        rw [List.take_of_length_le (Nat.le_refl _)] at this
        exact this.lm (by omega)
      obtain ⟨Z, hZ⟩ : ∃ x, smd l = x := ⟨_, rfl⟩
      have HZ1 := Lib.hid (congrArg Prod.fst hZ)
      have HZ2 := Lib.hid (congrArg Prod.snd hZ)
      have HC := Lib.hid hC
      clear h2 HU HA hθ hfit hlen hC hLZ hZ HB4
      replace X0 := X0.below hB
      replace X1 := X1.below hB
      replace hT := hT.below hB
      replace h0 := h0.below hB
      replace h1 := h1.below hB
      replace hl := hl.below hB
      replace HB := Lib.hid (bt HB.out hB)
      clear hB
      go_wp2_with fail
      refine (dAdd hT hl (by omega) HC.out HZ1.out HZ2.out).mono ?_
      rintro ee w5 ⟨s5, A5, n5, c5, rfl, p5, k5, B⟩
      replace X0 := X0.below B
      replace X1 := X1.below B
      replace hT := hT.below B
      replace h0 := h0.below B
      replace h1 := h1.below B
      replace hl := hl.below B
      replace HB := Lib.hid (bt HB.out B)
      clear B
      go_wp2_with fail
      refine (q3Add hl (by omega) HC.out HZ1.out HZ2.out).mono ?_
      rintro ee w6 ⟨s6, A6, n6, c6, rfl, p6, k6, B⟩
      replace X0 := X0.below B
      replace X1 := X1.below B
      replace hT := hT.below B
      replace h0 := h0.below B
      replace h1 := h1.below B
      replace hl := hl.below B
      replace p5 := p5.below B
      replace HB := Lib.hid (bt HB.out B)
      clear B
      go_wp2_with fail
      refine (q3Alike p5 p6).mono ?_
      rintro ee w7 ⟨rfl, B⟩
      replace X0 := X0.below B
      replace X1 := X1.below B
      replace hT := hT.below B
      replace h0 := h0.below B
      replace h1 := h1.below B
      replace hl := hl.below B
      replace p5 := p5.below B
      replace p6 := p6.below B
      replace HB := Lib.hid (bt HB.out B)
      clear B
      clear hl p5 p6
      go_upto_region 13 with (fail)
      refine Jo.region_joint (T := [0, 1, 2, 3, 4, 5, 6, 7]) (ds := [some 56, some 57, some 58, some 59, some 60, some 61, some 62, some 13]) (ls := [[], [], [0, 1], [], [], [3, 4], [2, 5], [6]]) (k := 8) (L := [(some 56, 0), (some 57, 1), (some 58, 2), (some 59, 3), (some 60, 4), (some 61, 5), (some 62, 6), (some 13, 7)]) (fuel := 0) (J := fun wj => Below (World.heap w7).size w7 wj)
        (F := [Jo.Fact.eq (.agg #[.bool s0, .slice a0 len0 cap0, .int .i64 e0]), Jo.Fact.eq (.agg #[.bool s1, .slice a1 len1 cap1, .int .i64 e1]), Jo.Fact.dy D.1 D.2 20000, Jo.Fact.eq (.agg #[.bool s0, .slice a0 len0 cap0, .int .i64 e0]), Jo.Fact.eq (.agg #[.bool s1, .slice a1 len1 cap1, .int .i64 e1]), Jo.Fact.dy D.1 D.2 (len0 + len1 + 20010), Jo.Fact.eq (.bool true), Jo.Fact.eq (.bool true)])
        (by kernel_rfl) (by kernel_rfl) (by decide) rfl rfl (fun _ _ h b => bt h b) ((Below.refl _ _).drew) ?_ (fun vs w8 hJ hd => ?_)
      · refine Jo.jcons (i := 0) (o := ⟨some 56, _, _, _, _, _⟩) (di := some 56) (L := []) (f := Jo.Fact.eq (.agg #[.bool s0, .slice a0 len0 cap0, .int .i64 e0])) rfl rfl rfl rfl (fun vs wj hJ hd K hK => ?_) ?_
        · clear hd
          simp only [Jo.putl, List.foldl_nil, Act.put, List.setIfInBounds_toArray, List.set_cons_zero, List.set_cons_succ] at hK ⊢
          have xX00 : World.cell? wj ⟨w.heap.size, 0, none⟩ = some (.bool s0) := (X0.below hJ).cell 0
          have xX01 : World.cell? wj ⟨w.heap.size, 1, none⟩ = some (.slice a0 len0 cap0) := (X0.below hJ).cell 1
          have xX02 : World.cell? wj ⟨w.heap.size, 2, none⟩ = some (.int .i64 e0) := (X0.below hJ).cell 2
          go_simp
          exact hK.out _ _ rfl (Below.refl _ _)
        refine Jo.jcons (i := 1) (o := ⟨some 57, _, _, _, _, _⟩) (di := some 57) (L := []) (f := Jo.Fact.eq (.agg #[.bool s1, .slice a1 len1 cap1, .int .i64 e1])) rfl rfl rfl rfl (fun vs wj hJ hd K hK => ?_) ?_
        · clear hd
          simp only [Jo.putl, List.foldl_nil, Act.put, List.setIfInBounds_toArray, List.set_cons_zero, List.set_cons_succ] at hK ⊢
          have xX10 : World.cell? wj ⟨w.heap.size + 1, 0, none⟩ = some (.bool s1) := (X1.below hJ).cell 0
          have xX11 : World.cell? wj ⟨w.heap.size + 1, 1, none⟩ = some (.slice a1 len1 cap1) := (X1.below hJ).cell 1
          have xX12 : World.cell? wj ⟨w.heap.size + 1, 2, none⟩ = some (.int .i64 e1) := (X1.below hJ).cell 2
          go_simp
          exact hK.out _ _ rfl (Below.refl _ _)
        refine Jo.jcons (i := 2) (o := ⟨some 58, _, _, _, _, _⟩) (di := some 58) (L := [(some 56, 0), (some 57, 1)]) (f := Jo.Fact.dy D.1 D.2 20000) rfl rfl rfl rfl (fun vs wj hJ hd K hK => ?_) ?_
        · have d0 : (Jo.Fact.eq (.agg #[.bool s0, .slice a0 len0 cap0, .int .i64 e0])).P (vs 0) wj := hd 0 (by decide)
          have d1 : (Jo.Fact.eq (.agg #[.bool s1, .slice a1 len1 cap1, .int .i64 e1])).P (vs 1) wj := hd 1 (by decide)
          clear hd
          simp only [Jo.putl, List.foldl_cons, List.foldl_nil, Act.put, List.setIfInBounds_toArray, List.set_cons_zero, List.set_cons_succ] at hK ⊢
          generalize vs 0 = u0 at hK d0 ⊢
          generalize vs 1 = u1 at hK d1 ⊢
          replace d0 : u0 = _ := d0
          subst d0
          replace d1 : u1 = _ := d1
          subst d1
          go_simp
          refine (dSub (hT.below hJ) (h0.below hJ) (h1.below hJ) (by omega) (by omega) (by rw [HQ.out]; exact HcD.out) (by rw [HP.out, HQ.out, HD.out]) (by rw [HP.out, HQ.out, HD.out])).mono ?_
          rintro ee wk ⟨s8, A8, n8, c8, rfl, p8, k8, B⟩
          exact hK.out _ _ ⟨s8, A8, n8, c8, rfl, p8, k8⟩ B
        refine Jo.jcons (i := 3) (o := ⟨some 59, _, _, _, _, _⟩) (di := some 59) (L := []) (f := Jo.Fact.eq (.agg #[.bool s0, .slice a0 len0 cap0, .int .i64 e0])) rfl rfl rfl rfl (fun vs wj hJ hd K hK => ?_) ?_
        · clear hd
          simp only [Jo.putl, List.foldl_nil, Act.put, List.setIfInBounds_toArray, List.set_cons_zero, List.set_cons_succ] at hK ⊢
          have xX00 : World.cell? wj ⟨w.heap.size, 0, none⟩ = some (.bool s0) := (X0.below hJ).cell 0
          have xX01 : World.cell? wj ⟨w.heap.size, 1, none⟩ = some (.slice a0 len0 cap0) := (X0.below hJ).cell 1
          have xX02 : World.cell? wj ⟨w.heap.size, 2, none⟩ = some (.int .i64 e0) := (X0.below hJ).cell 2
          go_simp
          exact hK.out _ _ rfl (Below.refl _ _)
        refine Jo.jcons (i := 4) (o := ⟨some 60, _, _, _, _, _⟩) (di := some 60) (L := []) (f := Jo.Fact.eq (.agg #[.bool s1, .slice a1 len1 cap1, .int .i64 e1])) rfl rfl rfl rfl (fun vs wj hJ hd K hK => ?_) ?_
        · clear hd
          simp only [Jo.putl, List.foldl_nil, Act.put, List.setIfInBounds_toArray, List.set_cons_zero, List.set_cons_succ] at hK ⊢
          have xX10 : World.cell? wj ⟨w.heap.size + 1, 0, none⟩ = some (.bool s1) := (X1.below hJ).cell 0
          have xX11 : World.cell? wj ⟨w.heap.size + 1, 1, none⟩ = some (.slice a1 len1 cap1) := (X1.below hJ).cell 1
          have xX12 : World.cell? wj ⟨w.heap.size + 1, 2, none⟩ = some (.int .i64 e1) := (X1.below hJ).cell 2
          go_simp
          exact hK.out _ _ rfl (Below.refl _ _)
        refine Jo.jcons (i := 5) (o := ⟨some 61, _, _, _, _, _⟩) (di := some 61) (L := [(some 59, 3), (some 60, 4)]) (f := Jo.Fact.dy D.1 D.2 (len0 + len1 + 20010)) rfl rfl rfl rfl (fun vs wj hJ hd K hK => ?_) ?_
        · have d3 : (Jo.Fact.eq (.agg #[.bool s0, .slice a0 len0 cap0, .int .i64 e0])).P (vs 3) wj := hd 3 (by decide)
          have d4 : (Jo.Fact.eq (.agg #[.bool s1, .slice a1 len1 cap1, .int .i64 e1])).P (vs 4) wj := hd 4 (by decide)
          clear hd
          simp only [Jo.putl, List.foldl_cons, List.foldl_nil, Act.put, List.setIfInBounds_toArray, List.set_cons_zero, List.set_cons_succ] at hK ⊢
          generalize vs 3 = u3 at hK d3 ⊢
          generalize vs 4 = u4 at hK d4 ⊢
          replace d3 : u3 = _ := d3
          subst d3
          replace d4 : u4 = _ := d4
          subst d4
          go_simp
          refine (q3Sub (h0.below hJ) (h1.below hJ) (by omega) (by omega) (by rw [HP.out, HQ.out]; exact HNr.out) (by rw [HP.out, HQ.out, HD.out]) (by rw [HP.out, HQ.out, HD.out])).mono ?_
          rintro ee wk ⟨s9, A9, n9, c9, rfl, p9, k9, B⟩
          exact hK.out _ _ ⟨s9, A9, n9, c9, rfl, p9, k9⟩ B
        refine Jo.jcons (i := 6) (o := ⟨some 62, _, _, _, _, _⟩) (di := some 62) (L := [(some 58, 2), (some 61, 5)]) (f := Jo.Fact.eq (.bool true)) rfl rfl rfl rfl (fun vs wj hJ hd K hK => ?_) ?_
        · have d2 : (Jo.Fact.dy D.1 D.2 20000).P (vs 2) wj := hd 2 (by decide)
          have d5 : (Jo.Fact.dy D.1 D.2 (len0 + len1 + 20010)).P (vs 5) wj := hd 5 (by decide)
          clear hd
          simp only [Jo.putl, List.foldl_cons, List.foldl_nil, Act.put, List.setIfInBounds_toArray, List.set_cons_zero, List.set_cons_succ] at hK ⊢
          generalize vs 2 = u2 at hK d2 ⊢
          generalize vs 5 = u5 at hK d5 ⊢
          obtain ⟨s8, A8, n8, c8, rfl, p8, k8⟩ := d2
          obtain ⟨s9, A9, n9, c9, rfl, p9, k9⟩ := d5
          go_simp
          refine (q3Alike p8 p9).mono ?_
          rintro ee wk ⟨rfl, B⟩
          exact hK.out _ _ rfl B
        refine Jo.jcons (i := 7) (o := ⟨some 13, _, _, _, _, _⟩) (di := some 13) (L := [(some 62, 6)]) (f := Jo.Fact.eq (.bool true)) rfl rfl rfl rfl (fun vs wj hJ hd K hK => ?_) ?_
        · have d6 : (Jo.Fact.eq (.bool true)).P (vs 6) wj := hd 6 (by decide)
          clear hd
          simp only [Jo.putl, List.foldl_cons, List.foldl_nil, Act.put, List.setIfInBounds_toArray, List.set_cons_zero, List.set_cons_succ] at hK ⊢
          generalize vs 6 = u6 at hK d6 ⊢
          replace d6 : u6 = _ := d6
          subst d6
          go_simp
          exact hK.out _ _ rfl (Below.refl _ _)
        exact Jo.Steps.nil
      have d0 : (Jo.Fact.eq (.agg #[.bool s0, .slice a0 len0 cap0, .int .i64 e0])).P (vs 0) w8 := hd 0 (by decide)
      have d1 : (Jo.Fact.eq (.agg #[.bool s1, .slice a1 len1 cap1, .int .i64 e1])).P (vs 1) w8 := hd 1 (by decide)
      have d2 : (Jo.Fact.dy D.1 D.2 20000).P (vs 2) w8 := hd 2 (by decide)
      have d3 : (Jo.Fact.eq (.agg #[.bool s0, .slice a0 len0 cap0, .int .i64 e0])).P (vs 3) w8 := hd 3 (by decide)
      have d4 : (Jo.Fact.eq (.agg #[.bool s1, .slice a1 len1 cap1, .int .i64 e1])).P (vs 4) w8 := hd 4 (by decide)
      have d5 : (Jo.Fact.dy D.1 D.2 (len0 + len1 + 20010)).P (vs 5) w8 := hd 5 (by decide)
      have d6 : (Jo.Fact.eq (.bool true)).P (vs 6) w8 := hd 6 (by decide)
      have d7 : (Jo.Fact.eq (.bool true)).P (vs 7) w8 := hd 7 (by decide)
      clear hd
      simp only [Jo.putl, List.foldl_cons, List.foldl_nil, Act.put, List.setIfInBounds_toArray, List.set_cons_zero, List.set_cons_succ]
      generalize vs 0 = u0 at d0 ⊢
      generalize vs 1 = u1 at d1 ⊢
      generalize vs 2 = u2 at d2 ⊢
      generalize vs 3 = u3 at d3 ⊢
      generalize vs 4 = u4 at d4 ⊢
      generalize vs 5 = u5 at d5 ⊢
      generalize vs 6 = u6 at d6 ⊢
      generalize vs 7 = u7 at d7 ⊢
      clear vs
      replace d0 : u0 = _ := d0
      subst d0
      replace d1 : u1 = _ := d1
      subst d1
      obtain ⟨s8, A8, n8, c8, rfl, _, _⟩ := d2
      replace d3 : u3 = _ := d3
      subst d3
      replace d4 : u4 = _ := d4
      subst d4
      obtain ⟨s9, A9, n9, c9, rfl, _, _⟩ := d5
      replace d6 : u6 = _ := d6
      subst d6
      replace d7 : u7 = _ := d7
      subst d7
      replace X0 := X0.below hJ
      replace X1 := X1.below hJ
      replace hT := hT.below hJ
      replace h0 := h0.below hJ
      replace h1 := h1.below hJ
      replace HB := Lib.hid (bt HB.out hJ)
      refine Jo.jdone (by kernel_rfl) ?_
      go_upto_region 14 with (fail)
      refine Jo.region_joint (T := [0, 1, 2, 3, 4, 5, 6, 7]) (ds := [some 63, some 64, some 65, some 66, some 67, some 68, some 69, some 14]) (ls := [[], [], [0, 1], [], [], [3, 4], [2, 5], [6]]) (k := 8) (L := [(some 63, 0), (some 64, 1), (some 65, 2), (some 66, 3), (some 67, 4), (some 68, 5), (some 69, 6), (some 14, 7)]) (fuel := 0) (J := fun wj => Below (World.heap w8).size w8 wj)
        (F := [Jo.Fact.eq (.agg #[.bool s0, .slice a0 len0 cap0, .int .i64 e0]), Jo.Fact.eq (.agg #[.bool s1, .slice a1 len1 cap1, .int .i64 e1]), Jo.Fact.dy M.1 M.2 (1 + 2 * 20000), Jo.Fact.eq (.agg #[.bool s0, .slice a0 len0 cap0, .int .i64 e0]), Jo.Fact.eq (.agg #[.bool s1, .slice a1 len1 cap1, .int .i64 e1]), Jo.Fact.dy M.1 M.2 (len0 + len1), Jo.Fact.eq (.bool true), Jo.Fact.eq (.bool true)])
        (by kernel_rfl) (by kernel_rfl) (by decide) rfl rfl (fun _ _ h b => bt h b) ((Below.refl _ _).drew) ?_ (fun vs w9 hJ hd => ?_)
      · refine Jo.jcons (i := 0) (o := ⟨some 63, _, _, _, _, _⟩) (di := some 63) (L := []) (f := Jo.Fact.eq (.agg #[.bool s0, .slice a0 len0 cap0, .int .i64 e0])) rfl rfl rfl rfl (fun vs wj hJ hd K hK => ?_) ?_
        · clear hd
          simp only [Jo.putl, List.foldl_nil, Act.put, List.setIfInBounds_toArray, List.set_cons_zero, List.set_cons_succ] at hK ⊢
          have xX00 : World.cell? wj ⟨w.heap.size, 0, none⟩ = some (.bool s0) := (X0.below hJ).cell 0
          have xX01 : World.cell? wj ⟨w.heap.size, 1, none⟩ = some (.slice a0 len0 cap0) := (X0.below hJ).cell 1
          have xX02 : World.cell? wj ⟨w.heap.size, 2, none⟩ = some (.int .i64 e0) := (X0.below hJ).cell 2
          go_simp
          exact hK.out _ _ rfl (Below.refl _ _)
        refine Jo.jcons (i := 1) (o := ⟨some 64, _, _, _, _, _⟩) (di := some 64) (L := []) (f := Jo.Fact.eq (.agg #[.bool s1, .slice a1 len1 cap1, .int .i64 e1])) rfl rfl rfl rfl (fun vs wj hJ hd K hK => ?_) ?_
        · clear hd
          simp only [Jo.putl, List.foldl_nil, Act.put, List.setIfInBounds_toArray, List.set_cons_zero, List.set_cons_succ] at hK ⊢
          have xX10 : World.cell? wj ⟨w.heap.size + 1, 0, none⟩ = some (.bool s1) := (X1.below hJ).cell 0
          have xX11 : World.cell? wj ⟨w.heap.size + 1, 1, none⟩ = some (.slice a1 len1 cap1) := (X1.below hJ).cell 1
          have xX12 : World.cell? wj ⟨w.heap.size + 1, 2, none⟩ = some (.int .i64 e1) := (X1.below hJ).cell 2
          go_simp
          exact hK.out _ _ rfl (Below.refl _ _)
        refine Jo.jcons (i := 2) (o := ⟨some 65, _, _, _, _, _⟩) (di := some 65) (L := [(some 63, 0), (some 64, 1)]) (f := Jo.Fact.dy M.1 M.2 (1 + 2 * 20000)) rfl rfl rfl rfl (fun vs wj hJ hd K hK => ?_) ?_
        · have d0 : (Jo.Fact.eq (.agg #[.bool s0, .slice a0 len0 cap0, .int .i64 e0])).P (vs 0) wj := hd 0 (by decide)
          have d1 : (Jo.Fact.eq (.agg #[.bool s1, .slice a1 len1 cap1, .int .i64 e1])).P (vs 1) wj := hd 1 (by decide)
          clear hd
          simp only [Jo.putl, List.foldl_cons, List.foldl_nil, Act.put, List.setIfInBounds_toArray, List.set_cons_zero, List.set_cons_succ] at hK ⊢
          generalize vs 0 = u0 at hK d0 ⊢
          generalize vs 1 = u1 at hK d1 ⊢
          replace d0 : u0 = _ := d0
          subst d0
          replace d1 : u1 = _ := d1
          subst d1
          go_simp
          refine (dMul (hT.below hJ) (h0.below hJ) (h1.below hJ) (by omega) (by omega) (by rw [HP.out, HQ.out, HM.out]) (by rw [HP.out, HQ.out, HM.out])).mono ?_
          rintro ee wk ⟨s10, A10, n10, c10, rfl, p10, k10, B⟩
          exact hK.out _ _ ⟨s10, A10, n10, c10, rfl, p10, k10⟩ B
        refine Jo.jcons (i := 3) (o := ⟨some 66, _, _, _, _, _⟩) (di := some 66) (L := []) (f := Jo.Fact.eq (.agg #[.bool s0, .slice a0 len0 cap0, .int .i64 e0])) rfl rfl rfl rfl (fun vs wj hJ hd K hK => ?_) ?_
        · clear hd
          simp only [Jo.putl, List.foldl_nil, Act.put, List.setIfInBounds_toArray, List.set_cons_zero, List.set_cons_succ] at hK ⊢
          have xX00 : World.cell? wj ⟨w.heap.size, 0, none⟩ = some (.bool s0) := (X0.below hJ).cell 0
          have xX01 : World.cell? wj ⟨w.heap.size, 1, none⟩ = some (.slice a0 len0 cap0) := (X0.below hJ).cell 1
          have xX02 : World.cell? wj ⟨w.heap.size, 2, none⟩ = some (.int .i64 e0) := (X0.below hJ).cell 2
          go_simp
          exact hK.out _ _ rfl (Below.refl _ _)
        refine Jo.jcons (i := 4) (o := ⟨some 67, _, _, _, _, _⟩) (di := some 67) (L := []) (f := Jo.Fact.eq (.agg #[.bool s1, .slice a1 len1 cap1, .int .i64 e1])) rfl rfl rfl rfl (fun vs wj hJ hd K hK => ?_) ?_
        · clear hd
          simp only [Jo.putl, List.foldl_nil, Act.put, List.setIfInBounds_toArray, List.set_cons_zero, List.set_cons_succ] at hK ⊢
          have xX10 : World.cell? wj ⟨w.heap.size + 1, 0, none⟩ = some (.bool s1) := (X1.below hJ).cell 0
          have xX11 : World.cell? wj ⟨w.heap.size + 1, 1, none⟩ = some (.slice a1 len1 cap1) := (X1.below hJ).cell 1
          have xX12 : World.cell? wj ⟨w.heap.size + 1, 2, none⟩ = some (.int .i64 e1) := (X1.below hJ).cell 2
          go_simp
          exact hK.out _ _ rfl (Below.refl _ _)
        refine Jo.jcons (i := 5) (o := ⟨some 68, _, _, _, _, _⟩) (di := some 68) (L := [(some 66, 3), (some 67, 4)]) (f := Jo.Fact.dy M.1 M.2 (len0 + len1)) rfl rfl rfl rfl (fun vs wj hJ hd K hK => ?_) ?_
        · have d3 : (Jo.Fact.eq (.agg #[.bool s0, .slice a0 len0 cap0, .int .i64 e0])).P (vs 3) wj := hd 3 (by decide)
          have d4 : (Jo.Fact.eq (.agg #[.bool s1, .slice a1 len1 cap1, .int .i64 e1])).P (vs 4) wj := hd 4 (by decide)
          clear hd
          simp only [Jo.putl, List.foldl_cons, List.foldl_nil, Act.put, List.setIfInBounds_toArray, List.set_cons_zero, List.set_cons_succ] at hK ⊢
          generalize vs 3 = u3 at hK d3 ⊢
          generalize vs 4 = u4 at hK d4 ⊢
          replace d3 : u3 = _ := d3
          subst d3
          replace d4 : u4 = _ := d4
          subst d4
          go_simp
          refine (q3Mul (N := M.1) (E := M.2) (h0.below hJ) (h1.below hJ) (by omega) (by omega) (by rw [HP.out, HQ.out]; exact congrArg Prod.fst HM.out) (by rw [HP.out, HQ.out]; exact congrArg Prod.snd HM.out)).mono ?_
          rintro ee wk ⟨s11, A11, n11, c11, rfl, p11, k11, B⟩
          exact hK.out _ _ ⟨s11, A11, n11, c11, rfl, p11, k11⟩ B
        refine Jo.jcons (i := 6) (o := ⟨some 69, _, _, _, _, _⟩) (di := some 69) (L := [(some 65, 2), (some 68, 5)]) (f := Jo.Fact.eq (.bool true)) rfl rfl rfl rfl (fun vs wj hJ hd K hK => ?_) ?_
        · have d2 : (Jo.Fact.dy M.1 M.2 (1 + 2 * 20000)).P (vs 2) wj := hd 2 (by decide)
          have d5 : (Jo.Fact.dy M.1 M.2 (len0 + len1)).P (vs 5) wj := hd 5 (by decide)
          clear hd
          simp only [Jo.putl, List.foldl_cons, List.foldl_nil, Act.put, List.setIfInBounds_toArray, List.set_cons_zero, List.set_cons_succ] at hK ⊢
          generalize vs 2 = u2 at hK d2 ⊢
          generalize vs 5 = u5 at hK d5 ⊢
          obtain ⟨s10, A10, n10, c10, rfl, p10, k10⟩ := d2
          obtain ⟨s11, A11, n11, c11, rfl, p11, k11⟩ := d5
          go_simp
          refine (q3Alike p10 p11).mono ?_
          rintro ee wk ⟨rfl, B⟩
          exact hK.out _ _ rfl B
        refine Jo.jcons (i := 7) (o := ⟨some 14, _, _, _, _, _⟩) (di := some 14) (L := [(some 69, 6)]) (f := Jo.Fact.eq (.bool true)) rfl rfl rfl rfl (fun vs wj hJ hd K hK => ?_) ?_
        · have d6 : (Jo.Fact.eq (.bool true)).P (vs 6) wj := hd 6 (by decide)
          clear hd
          simp only [Jo.putl, List.foldl_cons, List.foldl_nil, Act.put, List.setIfInBounds_toArray, List.set_cons_zero, List.set_cons_succ] at hK ⊢
          generalize vs 6 = u6 at hK d6 ⊢
          replace d6 : u6 = _ := d6
          subst d6
          go_simp
          exact hK.out _ _ rfl (Below.refl _ _)
        exact Jo.Steps.nil
      have d0 : (Jo.Fact.eq (.agg #[.bool s0, .slice a0 len0 cap0, .int .i64 e0])).P (vs 0) w9 := hd 0 (by decide)
      have d1 : (Jo.Fact.eq (.agg #[.bool s1, .slice a1 len1 cap1, .int .i64 e1])).P (vs 1) w9 := hd 1 (by decide)
      have d2 : (Jo.Fact.dy M.1 M.2 (1 + 2 * 20000)).P (vs 2) w9 := hd 2 (by decide)
      have d3 : (Jo.Fact.eq (.agg #[.bool s0, .slice a0 len0 cap0, .int .i64 e0])).P (vs 3) w9 := hd 3 (by decide)
      have d4 : (Jo.Fact.eq (.agg #[.bool s1, .slice a1 len1 cap1, .int .i64 e1])).P (vs 4) w9 := hd 4 (by decide)
      have d5 : (Jo.Fact.dy M.1 M.2 (len0 + len1)).P (vs 5) w9 := hd 5 (by decide)
      have d6 : (Jo.Fact.eq (.bool true)).P (vs 6) w9 := hd 6 (by decide)
      have d7 : (Jo.Fact.eq (.bool true)).P (vs 7) w9 := hd 7 (by decide)
      clear hd
      simp only [Jo.putl, List.foldl_cons, List.foldl_nil, Act.put, List.setIfInBounds_toArray, List.set_cons_zero, List.set_cons_succ]
      generalize vs 0 = u0 at d0 ⊢
      generalize vs 1 = u1 at d1 ⊢
      generalize vs 2 = u2 at d2 ⊢
      generalize vs 3 = u3 at d3 ⊢
      generalize vs 4 = u4 at d4 ⊢
      generalize vs 5 = u5 at d5 ⊢
      generalize vs 6 = u6 at d6 ⊢
      generalize vs 7 = u7 at d7 ⊢
      clear vs
      replace d0 : u0 = _ := d0
      subst d0
      replace d1 : u1 = _ := d1
      subst d1
      obtain ⟨s10, A10, n10, c10, rfl, _, _⟩ := d2
      replace d3 : u3 = _ := d3
      subst d3
      replace d4 : u4 = _ := d4
      subst d4
      obtain ⟨s11, A11, n11, c11, rfl, _, _⟩ := d5
      replace d6 : u6 = _ := d6
      subst d6
      replace d7 : u7 = _ := d7
      subst d7
      replace X0 := X0.below hJ
      replace X1 := X1.below hJ
      replace hT := hT.below hJ
      replace h0 := h0.below hJ
      replace h1 := h1.below hJ
      replace HB := Lib.hid (bt HB.out hJ)
      refine Jo.jdone (by kernel_rfl) ?_
      go_upto_region 15 with (fail)
      refine Jo.region_joint (T := [0, 1, 2, 3, 4, 5]) (ds := [some 70, some 71, some 72, some 73, some 74, some 15]) (ls := [[], [0], [], [2], [1, 3], [4]]) (k := 6) (L := [(some 70, 0), (some 71, 1), (some 72, 2), (some 73, 3), (some 74, 4), (some 15, 5)]) (fuel := 0) (J := fun wj => Below (World.heap w9).size w9 wj)
        (F := [Jo.Fact.eq (.agg #[.bool s0, .slice a0 len0 cap0, .int .i64 e0]), Jo.Fact.dy (-P.1) P.2 len0, Jo.Fact.eq (.agg #[.bool s0, .slice a0 len0 cap0, .int .i64 e0]), Jo.Fact.dy (-P.1) P.2 len0, Jo.Fact.eq (.bool true), Jo.Fact.eq (.bool true)])
        (by kernel_rfl) (by kernel_rfl) (by decide) rfl rfl (fun _ _ h b => bt h b) ((Below.refl _ _).drew) ?_ (fun vs w10 hJ hd => ?_)
      · refine Jo.jcons (i := 0) (o := ⟨some 70, _, _, _, _, _⟩) (di := some 70) (L := []) (f := Jo.Fact.eq (.agg #[.bool s0, .slice a0 len0 cap0, .int .i64 e0])) rfl rfl rfl rfl (fun vs wj hJ hd K hK => ?_) ?_
        · clear hd
          simp only [Jo.putl, List.foldl_nil, Act.put, List.setIfInBounds_toArray, List.set_cons_zero, List.set_cons_succ] at hK ⊢
          have xX00 : World.cell? wj ⟨w.heap.size, 0, none⟩ = some (.bool s0) := (X0.below hJ).cell 0
          have xX01 : World.cell? wj ⟨w.heap.size, 1, none⟩ = some (.slice a0 len0 cap0) := (X0.below hJ).cell 1
          have xX02 : World.cell? wj ⟨w.heap.size, 2, none⟩ = some (.int .i64 e0) := (X0.below hJ).cell 2
          go_simp
          exact hK.out _ _ rfl (Below.refl _ _)
        refine Jo.jcons (i := 1) (o := ⟨some 71, _, _, _, _, _⟩) (di := some 71) (L := [(some 70, 0)]) (f := Jo.Fact.dy (-P.1) P.2 len0) rfl rfl rfl rfl (fun vs wj hJ hd K hK => ?_) ?_
        · have d0 : (Jo.Fact.eq (.agg #[.bool s0, .slice a0 len0 cap0, .int .i64 e0])).P (vs 0) wj := hd 0 (by decide)
          clear hd
          simp only [Jo.putl, List.foldl_cons, List.foldl_nil, Act.put, List.setIfInBounds_toArray, List.set_cons_zero, List.set_cons_succ] at hK ⊢
          generalize vs 0 = u0 at hK d0 ⊢
          replace d0 : u0 = _ := d0
          subst d0
          go_simp
          refine (dNeg (hT.below hJ) (h0.below hJ) (by omega) (by rw [HP.out]) (by rw [HP.out])).mono ?_
          rintro ee wk ⟨s12, A12, n12, c12, rfl, p12, k12, B⟩
          exact hK.out _ _ ⟨s12, A12, n12, c12, rfl, p12, k12⟩ B
        refine Jo.jcons (i := 2) (o := ⟨some 72, _, _, _, _, _⟩) (di := some 72) (L := []) (f := Jo.Fact.eq (.agg #[.bool s0, .slice a0 len0 cap0, .int .i64 e0])) rfl rfl rfl rfl (fun vs wj hJ hd K hK => ?_) ?_
        · clear hd
          simp only [Jo.putl, List.foldl_nil, Act.put, List.setIfInBounds_toArray, List.set_cons_zero, List.set_cons_succ] at hK ⊢
          have xX00 : World.cell? wj ⟨w.heap.size, 0, none⟩ = some (.bool s0) := (X0.below hJ).cell 0
          have xX01 : World.cell? wj ⟨w.heap.size, 1, none⟩ = some (.slice a0 len0 cap0) := (X0.below hJ).cell 1
          have xX02 : World.cell? wj ⟨w.heap.size, 2, none⟩ = some (.int .i64 e0) := (X0.below hJ).cell 2
          go_simp
          exact hK.out _ _ rfl (Below.refl _ _)
        refine Jo.jcons (i := 3) (o := ⟨some 73, _, _, _, _, _⟩) (di := some 73) (L := [(some 72, 2)]) (f := Jo.Fact.dy (-P.1) P.2 len0) rfl rfl rfl rfl (fun vs wj hJ hd K hK => ?_) ?_
        · have d2 : (Jo.Fact.eq (.agg #[.bool s0, .slice a0 len0 cap0, .int .i64 e0])).P (vs 2) wj := hd 2 (by decide)
          clear hd
          simp only [Jo.putl, List.foldl_cons, List.foldl_nil, Act.put, List.setIfInBounds_toArray, List.set_cons_zero, List.set_cons_succ] at hK ⊢
          generalize vs 2 = u2 at hK d2 ⊢
          replace d2 : u2 = _ := d2
          subst d2
          go_simp
          refine (q3Neg (h0.below hJ) (by omega) HN1.out HN2.out).mono ?_
          rintro ee wk ⟨s13, A13, n13, c13, rfl, p13, k13, B⟩
          exact hK.out _ _ ⟨s13, A13, n13, c13, rfl, p13, k13⟩ B
        refine Jo.jcons (i := 4) (o := ⟨some 74, _, _, _, _, _⟩) (di := some 74) (L := [(some 71, 1), (some 73, 3)]) (f := Jo.Fact.eq (.bool true)) rfl rfl rfl rfl (fun vs wj hJ hd K hK => ?_) ?_
        · have d1 : (Jo.Fact.dy (-P.1) P.2 len0).P (vs 1) wj := hd 1 (by decide)
          have d3 : (Jo.Fact.dy (-P.1) P.2 len0).P (vs 3) wj := hd 3 (by decide)
          clear hd
          simp only [Jo.putl, List.foldl_cons, List.foldl_nil, Act.put, List.setIfInBounds_toArray, List.set_cons_zero, List.set_cons_succ] at hK ⊢
          generalize vs 1 = u1 at hK d1 ⊢
          generalize vs 3 = u3 at hK d3 ⊢
          obtain ⟨s12, A12, n12, c12, rfl, p12, k12⟩ := d1
          obtain ⟨s13, A13, n13, c13, rfl, p13, k13⟩ := d3
          go_simp
          refine (q3Alike p12 p13).mono ?_
          rintro ee wk ⟨rfl, B⟩
          exact hK.out _ _ rfl B
        refine Jo.jcons (i := 5) (o := ⟨some 15, _, _, _, _, _⟩) (di := some 15) (L := [(some 74, 4)]) (f := Jo.Fact.eq (.bool true)) rfl rfl rfl rfl (fun vs wj hJ hd K hK => ?_) ?_
        · have d4 : (Jo.Fact.eq (.bool true)).P (vs 4) wj := hd 4 (by decide)
          clear hd
          simp only [Jo.putl, List.foldl_cons, List.foldl_nil, Act.put, List.setIfInBounds_toArray, List.set_cons_zero, List.set_cons_succ] at hK ⊢
          generalize vs 4 = u4 at hK d4 ⊢
          replace d4 : u4 = _ := d4
          subst d4
          go_simp
          exact hK.out _ _ rfl (Below.refl _ _)
        exact Jo.Steps.nil
      have d0 : (Jo.Fact.eq (.agg #[.bool s0, .slice a0 len0 cap0, .int .i64 e0])).P (vs 0) w10 := hd 0 (by decide)
      have d1 : (Jo.Fact.dy (-P.1) P.2 len0).P (vs 1) w10 := hd 1 (by decide)
      have d2 : (Jo.Fact.eq (.agg #[.bool s0, .slice a0 len0 cap0, .int .i64 e0])).P (vs 2) w10 := hd 2 (by decide)
      have d3 : (Jo.Fact.dy (-P.1) P.2 len0).P (vs 3) w10 := hd 3 (by decide)
      have d4 : (Jo.Fact.eq (.bool true)).P (vs 4) w10 := hd 4 (by decide)
      have d5 : (Jo.Fact.eq (.bool true)).P (vs 5) w10 := hd 5 (by decide)
      clear hd
      simp only [Jo.putl, List.foldl_cons, List.foldl_nil, Act.put, List.setIfInBounds_toArray, List.set_cons_zero, List.set_cons_succ]
      generalize vs 0 = u0 at d0 ⊢
      generalize vs 1 = u1 at d1 ⊢
      generalize vs 2 = u2 at d2 ⊢
      generalize vs 3 = u3 at d3 ⊢
      generalize vs 4 = u4 at d4 ⊢
      generalize vs 5 = u5 at d5 ⊢
      clear vs
      replace d0 : u0 = _ := d0
      subst d0
      obtain ⟨s12, A12, n12, c12, rfl, _, _⟩ := d1
      replace d2 : u2 = _ := d2
      subst d2
      obtain ⟨s13, A13, n13, c13, rfl, _, _⟩ := d3
      replace d4 : u4 = _ := d4
      subst d4
      replace d5 : u5 = _ := d5
      subst d5
      replace X0 := X0.below hJ
      replace X1 := X1.below hJ
      replace hT := hT.below hJ
      replace h0 := h0.below hJ
      replace h1 := h1.below hJ
      replace HB := Lib.hid (bt HB.out hJ)
      refine Jo.jdone (by kernel_rfl) ?_
      go_upto_region 16 with (fail)
      refine Jo.region_joint (T := [0, 1, 2, 3, 4, 5]) (ds := [some 75, some 76, some 77, some 78, some 79, some 16]) (ls := [[], [0], [], [2], [1, 3], [4]]) (k := 6) (L := [(some 75, 0), (some 76, 1), (some 77, 2), (some 78, 3), (some 79, 4), (some 16, 5)]) (fuel := 0) (J := fun wj => Below (World.heap w10).size w10 wj)
        (F := [Jo.Fact.eq (.agg #[.bool s0, .slice a0 len0 cap0, .int .i64 e0]), Jo.Fact.wn φ (len0 + 131100), Jo.Fact.eq (.agg #[.bool s0, .slice a0 len0 cap0, .int .i64 e0]), Jo.Fact.wn φ (len0 + 131100), Jo.Fact.eq (.bool true), Jo.Fact.eq (.bool true)])
        (by kernel_rfl) (by kernel_rfl) (by decide) rfl rfl (fun _ _ h b => bt h b) ((Below.refl _ _).drew) ?_ (fun vs w11 hJ hd => ?_)
      · refine Jo.jcons (i := 0) (o := ⟨some 75, _, _, _, _, _⟩) (di := some 75) (L := []) (f := Jo.Fact.eq (.agg #[.bool s0, .slice a0 len0 cap0, .int .i64 e0])) rfl rfl rfl rfl (fun vs wj hJ hd K hK => ?_) ?_
        · clear hd
          simp only [Jo.putl, List.foldl_nil, Act.put, List.setIfInBounds_toArray, List.set_cons_zero, List.set_cons_succ] at hK ⊢
          have xX00 : World.cell? wj ⟨w.heap.size, 0, none⟩ = some (.bool s0) := (X0.below hJ).cell 0
          have xX01 : World.cell? wj ⟨w.heap.size, 1, none⟩ = some (.slice a0 len0 cap0) := (X0.below hJ).cell 1
          have xX02 : World.cell? wj ⟨w.heap.size, 2, none⟩ = some (.int .i64 e0) := (X0.below hJ).cell 2
          go_simp
          exact hK.out _ _ rfl (Below.refl _ _)
        refine Jo.jcons (i := 1) (o := ⟨some 76, _, _, _, _, _⟩) (di := some 76) (L := [(some 75, 0)]) (f := Jo.Fact.wn φ (len0 + 131100)) rfl rfl rfl rfl (fun vs wj hJ hd K hK => ?_) ?_
        · have d0 : (Jo.Fact.eq (.agg #[.bool s0, .slice a0 len0 cap0, .int .i64 e0])).P (vs 0) wj := hd 0 (by decide)
          clear hd
          simp only [Jo.putl, List.foldl_cons, List.foldl_nil, Act.put, List.setIfInBounds_toArray, List.set_cons_zero, List.set_cons_succ] at hK ⊢
          generalize vs 0 = u0 at hK d0 ⊢
          replace d0 : u0 = _ := d0
          subst d0
          go_simp
          refine (dFloor (hT.below hJ) (h0.below hJ) (by omega) (r := φ) (by rw [HP.out]; exact Hφ.out)).mono ?_
          rintro ee wk ⟨s14, A14, n14, c14, rfl, p14, k14, B⟩
          exact hK.out _ _ ⟨s14, A14, n14, c14, rfl, p14, k14⟩ B
        refine Jo.jcons (i := 2) (o := ⟨some 77, _, _, _, _, _⟩) (di := some 77) (L := []) (f := Jo.Fact.eq (.agg #[.bool s0, .slice a0 len0 cap0, .int .i64 e0])) rfl rfl rfl rfl (fun vs wj hJ hd K hK => ?_) ?_
        · clear hd
          simp only [Jo.putl, List.foldl_nil, Act.put, List.setIfInBounds_toArray, List.set_cons_zero, List.set_cons_succ] at hK ⊢
          have xX00 : World.cell? wj ⟨w.heap.size, 0, none⟩ = some (.bool s0) := (X0.below hJ).cell 0
          have xX01 : World.cell? wj ⟨w.heap.size, 1, none⟩ = some (.slice a0 len0 cap0) := (X0.below hJ).cell 1
          have xX02 : World.cell? wj ⟨w.heap.size, 2, none⟩ = some (.int .i64 e0) := (X0.below hJ).cell 2
          go_simp
          exact hK.out _ _ rfl (Below.refl _ _)
        refine Jo.jcons (i := 3) (o := ⟨some 78, _, _, _, _, _⟩) (di := some 78) (L := [(some 77, 2)]) (f := Jo.Fact.wn φ (len0 + 131100)) rfl rfl rfl rfl (fun vs wj hJ hd K hK => ?_) ?_
        · have d2 : (Jo.Fact.eq (.agg #[.bool s0, .slice a0 len0 cap0, .int .i64 e0])).P (vs 2) wj := hd 2 (by decide)
          clear hd
          simp only [Jo.putl, List.foldl_cons, List.foldl_nil, Act.put, List.setIfInBounds_toArray, List.set_cons_zero, List.set_cons_succ] at hK ⊢
          generalize vs 2 = u2 at hK d2 ⊢
          replace d2 : u2 = _ := d2
          subst d2
          go_simp
          refine (q3Floor (h0.below hJ) (by omega) (r := φ) (by rw [HP.out]; exact Hφ.out)).mono ?_
          rintro ee wk ⟨s15, A15, n15, c15, rfl, p15, k15, B⟩
          exact hK.out _ _ ⟨s15, A15, n15, c15, rfl, p15, k15⟩ B
        refine Jo.jcons (i := 4) (o := ⟨some 79, _, _, _, _, _⟩) (di := some 79) (L := [(some 76, 1), (some 78, 3)]) (f := Jo.Fact.eq (.bool true)) rfl rfl rfl rfl (fun vs wj hJ hd K hK => ?_) ?_
        · have d1 : (Jo.Fact.wn φ (len0 + 131100)).P (vs 1) wj := hd 1 (by decide)
          have d3 : (Jo.Fact.wn φ (len0 + 131100)).P (vs 3) wj := hd 3 (by decide)
          clear hd
          simp only [Jo.putl, List.foldl_cons, List.foldl_nil, Act.put, List.setIfInBounds_toArray, List.set_cons_zero, List.set_cons_succ] at hK ⊢
          generalize vs 1 = u1 at hK d1 ⊢
          generalize vs 3 = u3 at hK d3 ⊢
          obtain ⟨s14, A14, n14, c14, rfl, p14, k14⟩ := d1
          obtain ⟨s15, A15, n15, c15, rfl, p15, k15⟩ := d3
          go_simp
          refine (qAlike p14 p15).mono ?_
          rintro ee wk ⟨rfl, B⟩
          exact hK.out _ _ rfl B
        refine Jo.jcons (i := 5) (o := ⟨some 16, _, _, _, _, _⟩) (di := some 16) (L := [(some 79, 4)]) (f := Jo.Fact.eq (.bool true)) rfl rfl rfl rfl (fun vs wj hJ hd K hK => ?_) ?_
        · have d4 : (Jo.Fact.eq (.bool true)).P (vs 4) wj := hd 4 (by decide)
          clear hd
          simp only [Jo.putl, List.foldl_cons, List.foldl_nil, Act.put, List.setIfInBounds_toArray, List.set_cons_zero, List.set_cons_succ] at hK ⊢
          generalize vs 4 = u4 at hK d4 ⊢
          replace d4 : u4 = _ := d4
          subst d4
          go_simp
          exact hK.out _ _ rfl (Below.refl _ _)
        exact Jo.Steps.nil
      have d0 : (Jo.Fact.eq (.agg #[.bool s0, .slice a0 len0 cap0, .int .i64 e0])).P (vs 0) w11 := hd 0 (by decide)
      have d1 : (Jo.Fact.wn φ (len0 + 131100)).P (vs 1) w11 := hd 1 (by decide)
      have d2 : (Jo.Fact.eq (.agg #[.bool s0, .slice a0 len0 cap0, .int .i64 e0])).P (vs 2) w11 := hd 2 (by decide)
      have d3 : (Jo.Fact.wn φ (len0 + 131100)).P (vs 3) w11 := hd 3 (by decide)
      have d4 : (Jo.Fact.eq (.bool true)).P (vs 4) w11 := hd 4 (by decide)
      have d5 : (Jo.Fact.eq (.bool true)).P (vs 5) w11 := hd 5 (by decide)
      clear hd
      simp only [Jo.putl, List.foldl_cons, List.foldl_nil, Act.put, List.setIfInBounds_toArray, List.set_cons_zero, List.set_cons_succ]
      generalize vs 0 = u0 at d0 ⊢
      generalize vs 1 = u1 at d1 ⊢
      generalize vs 2 = u2 at d2 ⊢
      generalize vs 3 = u3 at d3 ⊢
      generalize vs 4 = u4 at d4 ⊢
      generalize vs 5 = u5 at d5 ⊢
      clear vs
      replace d0 : u0 = _ := d0
      subst d0
      obtain ⟨s14, A14, n14, c14, rfl, _, _⟩ := d1
      replace d2 : u2 = _ := d2
      subst d2
      obtain ⟨s15, A15, n15, c15, rfl, _, _⟩ := d3
      replace d4 : u4 = _ := d4
      subst d4
      replace d5 : u5 = _ := d5
      subst d5
      replace X0 := X0.below hJ
      replace X1 := X1.below hJ
      replace hT := hT.below hJ
      replace h0 := h0.below hJ
      replace h1 := h1.below hJ
      replace HB := Lib.hid (bt HB.out hJ)
      refine Jo.jdone (by kernel_rfl) ?_
      go_upto_region 17 with (fail)
      refine Jo.region_joint (T := [0, 1, 2, 3, 4, 5, 6, 7, 8, 9, 10, 11, 12, 13, 14, 15, 16, 17, 18, 19, 20, 21, 22]) (ds := [some 80, some 81, some 82, some 83, some 84, some 85, some 86, some 87, some 88, some 89, some 90, some 91, some 92, some 93, some 94, some 95, some 96, some 97, some 98, some 99, some 100, some 101, some 6]) (ls := [[], [0], [1], [1, 2], [3], [4], [4, 5], [6], [7], [7, 8], [9], [10], [10, 11], [12], [13], [13], [13, 14, 15], [13], [13], [13, 17, 18], [13, 16, 19], [13, 20], [21]]) (k := 23) (L := [(some 80, 0), (some 81, 1), (some 82, 2), (some 83, 3), (some 84, 4), (some 85, 5), (some 86, 6), (some 87, 7), (some 88, 8), (some 89, 9), (some 90, 10), (some 91, 11), (some 92, 12), (some 93, 13), (some 94, 14), (some 95, 15), (some 96, 16), (some 97, 17), (some 98, 18), (some 99, 19), (some 100, 20), (some 101, 21), (some 6, 22)]) (fuel := 0) (J := fun wj => Below (World.heap w11).size w11 wj)
        (F := [Jo.Fact.eq (.bool true), Jo.Fact.eq (.bool true), Jo.Fact.eq (.bool true), Jo.Fact.eq (.bool true), Jo.Fact.eq (.bool true), Jo.Fact.eq (.bool true), Jo.Fact.eq (.bool true), Jo.Fact.eq (.bool true), Jo.Fact.eq (.bool true), Jo.Fact.eq (.bool true), Jo.Fact.eq (.bool true), Jo.Fact.eq (.bool true), Jo.Fact.eq (.bool true), Jo.Fact.eq (.bool true), Jo.Fact.eq (.agg #[.bool s0, .slice a0 len0 cap0, .int .i64 e0]), Jo.Fact.eq (.agg #[.bool s1, .slice a1 len1 cap1, .int .i64 e1]), Jo.Fact.eq (.int .i64 κ), Jo.Fact.eq (.agg #[.bool s0, .slice a0 len0 cap0, .int .i64 e0]), Jo.Fact.eq (.agg #[.bool s1, .slice a1 len1 cap1, .int .i64 e1]), Jo.Fact.eq (.int .i64 κ), Jo.Fact.eq (.bool true), Jo.Fact.eq (.bool true), Jo.Fact.eq (.bool true)])
        (by kernel_rfl) (by kernel_rfl) (by decide) rfl rfl (fun _ _ h b => bt h b) ((Below.refl _ _).drew) ?_ (fun vs w12 hJ hd => ?_)
      · refine Jo.jcons (i := 0) (o := ⟨some 80, _, _, _, _, _⟩) (di := some 80) (L := []) (f := Jo.Fact.eq (.bool true)) rfl rfl rfl rfl (fun vs wj hJ hd K hK => ?_) ?_
        · clear hd
          simp only [Jo.putl, List.foldl_nil, Act.put, List.setIfInBounds_toArray, List.set_cons_zero, List.set_cons_succ] at hK ⊢
          go_simp
          exact hK.out _ _ rfl (Below.refl _ _)
        refine Jo.jcons (i := 1) (o := ⟨some 81, _, _, _, _, _⟩) (di := some 81) (L := [(some 80, 0)]) (f := Jo.Fact.eq (.bool true)) rfl rfl rfl rfl (fun vs wj hJ hd K hK => ?_) ?_
        · have d0 : (Jo.Fact.eq (.bool true)).P (vs 0) wj := hd 0 (by decide)
          clear hd
          simp only [Jo.putl, List.foldl_cons, List.foldl_nil, Act.put, List.setIfInBounds_toArray, List.set_cons_zero, List.set_cons_succ] at hK ⊢
          generalize vs 0 = u0 at hK d0 ⊢
          replace d0 : u0 = _ := d0
          subst d0
          go_simp
          exact hK.out _ _ rfl (Below.refl _ _)
        refine Jo.jcons (i := 2) (o := ⟨some 82, _, _, _, _, _⟩) (di := some 82) (L := [(some 81, 1)]) (f := Jo.Fact.eq (.bool true)) rfl rfl rfl rfl (fun vs wj hJ hd K hK => ?_) ?_
        · have d1 : (Jo.Fact.eq (.bool true)).P (vs 1) wj := hd 1 (by decide)
          clear hd
          simp only [Jo.putl, List.foldl_cons, List.foldl_nil, Act.put, List.setIfInBounds_toArray, List.set_cons_zero, List.set_cons_succ] at hK ⊢
          generalize vs 1 = u1 at hK d1 ⊢
          replace d1 : u1 = _ := d1
          subst d1
          go_simp
          exact hK.out _ _ rfl (Below.refl _ _)
        refine Jo.jcons (i := 3) (o := ⟨some 83, _, _, _, _, _⟩) (di := some 83) (L := [(some 81, 1), (some 82, 2)]) (f := Jo.Fact.eq (.bool true)) rfl rfl rfl rfl (fun vs wj hJ hd K hK => ?_) ?_
        · have d1 : (Jo.Fact.eq (.bool true)).P (vs 1) wj := hd 1 (by decide)
          have d2 : (Jo.Fact.eq (.bool true)).P (vs 2) wj := hd 2 (by decide)
          clear hd
          simp only [Jo.putl, List.foldl_cons, List.foldl_nil, Act.put, List.setIfInBounds_toArray, List.set_cons_zero, List.set_cons_succ] at hK ⊢
          generalize vs 1 = u1 at hK d1 ⊢
          generalize vs 2 = u2 at hK d2 ⊢
          replace d1 : u1 = _ := d1
          subst d1
          replace d2 : u2 = _ := d2
          subst d2
          go_simp
          exact hK.out _ _ rfl (Below.refl _ _)
        refine Jo.jcons (i := 4) (o := ⟨some 84, _, _, _, _, _⟩) (di := some 84) (L := [(some 83, 3)]) (f := Jo.Fact.eq (.bool true)) rfl rfl rfl rfl (fun vs wj hJ hd K hK => ?_) ?_
        · have d3 : (Jo.Fact.eq (.bool true)).P (vs 3) wj := hd 3 (by decide)
          clear hd
          simp only [Jo.putl, List.foldl_cons, List.foldl_nil, Act.put, List.setIfInBounds_toArray, List.set_cons_zero, List.set_cons_succ] at hK ⊢
          generalize vs 3 = u3 at hK d3 ⊢
          replace d3 : u3 = _ := d3
          subst d3
          go_simp
          exact hK.out _ _ rfl (Below.refl _ _)
        refine Jo.jcons (i := 5) (o := ⟨some 85, _, _, _, _, _⟩) (di := some 85) (L := [(some 84, 4)]) (f := Jo.Fact.eq (.bool true)) rfl rfl rfl rfl (fun vs wj hJ hd K hK => ?_) ?_
        · have d4 : (Jo.Fact.eq (.bool true)).P (vs 4) wj := hd 4 (by decide)
          clear hd
          simp only [Jo.putl, List.foldl_cons, List.foldl_nil, Act.put, List.setIfInBounds_toArray, List.set_cons_zero, List.set_cons_succ] at hK ⊢
          generalize vs 4 = u4 at hK d4 ⊢
          replace d4 : u4 = _ := d4
          subst d4
          go_simp
          exact hK.out _ _ rfl (Below.refl _ _)
        refine Jo.jcons (i := 6) (o := ⟨some 86, _, _, _, _, _⟩) (di := some 86) (L := [(some 84, 4), (some 85, 5)]) (f := Jo.Fact.eq (.bool true)) rfl rfl rfl rfl (fun vs wj hJ hd K hK => ?_) ?_
        · have d4 : (Jo.Fact.eq (.bool true)).P (vs 4) wj := hd 4 (by decide)
          have d5 : (Jo.Fact.eq (.bool true)).P (vs 5) wj := hd 5 (by decide)
          clear hd
          simp only [Jo.putl, List.foldl_cons, List.foldl_nil, Act.put, List.setIfInBounds_toArray, List.set_cons_zero, List.set_cons_succ] at hK ⊢
          generalize vs 4 = u4 at hK d4 ⊢
          generalize vs 5 = u5 at hK d5 ⊢
          replace d4 : u4 = _ := d4
          subst d4
          replace d5 : u5 = _ := d5
          subst d5
          go_simp
          exact hK.out _ _ rfl (Below.refl _ _)
        refine Jo.jcons (i := 7) (o := ⟨some 87, _, _, _, _, _⟩) (di := some 87) (L := [(some 86, 6)]) (f := Jo.Fact.eq (.bool true)) rfl rfl rfl rfl (fun vs wj hJ hd K hK => ?_) ?_
        · have d6 : (Jo.Fact.eq (.bool true)).P (vs 6) wj := hd 6 (by decide)
          clear hd
          simp only [Jo.putl, List.foldl_cons, List.foldl_nil, Act.put, List.setIfInBounds_toArray, List.set_cons_zero, List.set_cons_succ] at hK ⊢
          generalize vs 6 = u6 at hK d6 ⊢
          replace d6 : u6 = _ := d6
          subst d6
          go_simp
          exact hK.out _ _ rfl (Below.refl _ _)
        refine Jo.jcons (i := 8) (o := ⟨some 88, _, _, _, _, _⟩) (di := some 88) (L := [(some 87, 7)]) (f := Jo.Fact.eq (.bool true)) rfl rfl rfl rfl (fun vs wj hJ hd K hK => ?_) ?_
        · have d7 : (Jo.Fact.eq (.bool true)).P (vs 7) wj := hd 7 (by decide)
          clear hd
          simp only [Jo.putl, List.foldl_cons, List.foldl_nil, Act.put, List.setIfInBounds_toArray, List.set_cons_zero, List.set_cons_succ] at hK ⊢
          generalize vs 7 = u7 at hK d7 ⊢
          replace d7 : u7 = _ := d7
          subst d7
          go_simp
          exact hK.out _ _ rfl (Below.refl _ _)
        refine Jo.jcons (i := 9) (o := ⟨some 89, _, _, _, _, _⟩) (di := some 89) (L := [(some 87, 7), (some 88, 8)]) (f := Jo.Fact.eq (.bool true)) rfl rfl rfl rfl (fun vs wj hJ hd K hK => ?_) ?_
        · have d7 : (Jo.Fact.eq (.bool true)).P (vs 7) wj := hd 7 (by decide)
          have d8 : (Jo.Fact.eq (.bool true)).P (vs 8) wj := hd 8 (by decide)
          clear hd
          simp only [Jo.putl, List.foldl_cons, List.foldl_nil, Act.put, List.setIfInBounds_toArray, List.set_cons_zero, List.set_cons_succ] at hK ⊢
          generalize vs 7 = u7 at hK d7 ⊢
          generalize vs 8 = u8 at hK d8 ⊢
          replace d7 : u7 = _ := d7
          subst d7
          replace d8 : u8 = _ := d8
          subst d8
          go_simp
          exact hK.out _ _ rfl (Below.refl _ _)
        refine Jo.jcons (i := 10) (o := ⟨some 90, _, _, _, _, _⟩) (di := some 90) (L := [(some 89, 9)]) (f := Jo.Fact.eq (.bool true)) rfl rfl rfl rfl (fun vs wj hJ hd K hK => ?_) ?_
        · have d9 : (Jo.Fact.eq (.bool true)).P (vs 9) wj := hd 9 (by decide)
          clear hd
          simp only [Jo.putl, List.foldl_cons, List.foldl_nil, Act.put, List.setIfInBounds_toArray, List.set_cons_zero, List.set_cons_succ] at hK ⊢
          generalize vs 9 = u9 at hK d9 ⊢
          replace d9 : u9 = _ := d9
          subst d9
          go_simp
          exact hK.out _ _ rfl (Below.refl _ _)
        refine Jo.jcons (i := 11) (o := ⟨some 91, _, _, _, _, _⟩) (di := some 91) (L := [(some 90, 10)]) (f := Jo.Fact.eq (.bool true)) rfl rfl rfl rfl (fun vs wj hJ hd K hK => ?_) ?_
        · have d10 : (Jo.Fact.eq (.bool true)).P (vs 10) wj := hd 10 (by decide)
          clear hd
          simp only [Jo.putl, List.foldl_cons, List.foldl_nil, Act.put, List.setIfInBounds_toArray, List.set_cons_zero, List.set_cons_succ] at hK ⊢
          generalize vs 10 = u10 at hK d10 ⊢
          replace d10 : u10 = _ := d10
          subst d10
          go_simp
          exact hK.out _ _ rfl (Below.refl _ _)
        refine Jo.jcons (i := 12) (o := ⟨some 92, _, _, _, _, _⟩) (di := some 92) (L := [(some 90, 10), (some 91, 11)]) (f := Jo.Fact.eq (.bool true)) rfl rfl rfl rfl (fun vs wj hJ hd K hK => ?_) ?_
        · have d10 : (Jo.Fact.eq (.bool true)).P (vs 10) wj := hd 10 (by decide)
          have d11 : (Jo.Fact.eq (.bool true)).P (vs 11) wj := hd 11 (by decide)
          clear hd
          simp only [Jo.putl, List.foldl_cons, List.foldl_nil, Act.put, List.setIfInBounds_toArray, List.set_cons_zero, List.set_cons_succ] at hK ⊢
          generalize vs 10 = u10 at hK d10 ⊢
          generalize vs 11 = u11 at hK d11 ⊢
          replace d10 : u10 = _ := d10
          subst d10
          replace d11 : u11 = _ := d11
          subst d11
          go_simp
          exact hK.out _ _ rfl (Below.refl _ _)
        refine Jo.jcons (i := 13) (o := ⟨some 93, _, _, _, _, _⟩) (di := some 93) (L := [(some 92, 12)]) (f := Jo.Fact.eq (.bool true)) rfl rfl rfl rfl (fun vs wj hJ hd K hK => ?_) ?_
        · have d12 : (Jo.Fact.eq (.bool true)).P (vs 12) wj := hd 12 (by decide)
          clear hd
          simp only [Jo.putl, List.foldl_cons, List.foldl_nil, Act.put, List.setIfInBounds_toArray, List.set_cons_zero, List.set_cons_succ] at hK ⊢
          generalize vs 12 = u12 at hK d12 ⊢
          replace d12 : u12 = _ := d12
          subst d12
          go_simp
          exact hK.out _ _ rfl (Below.refl _ _)
        refine Jo.jcons (i := 14) (o := ⟨some 94, _, _, _, _, _⟩) (di := some 94) (L := [(some 93, 13)]) (f := Jo.Fact.eq (.agg #[.bool s0, .slice a0 len0 cap0, .int .i64 e0])) rfl rfl rfl rfl (fun vs wj hJ hd K hK => ?_) ?_
        · have d13 : (Jo.Fact.eq (.bool true)).P (vs 13) wj := hd 13 (by decide)
          clear hd
          simp only [Jo.putl, List.foldl_cons, List.foldl_nil, Act.put, List.setIfInBounds_toArray, List.set_cons_zero, List.set_cons_succ] at hK ⊢
          generalize vs 13 = u13 at hK d13 ⊢
          replace d13 : u13 = _ := d13
          subst d13
          have xX00 : World.cell? wj ⟨w.heap.size, 0, none⟩ = some (.bool s0) := (X0.below hJ).cell 0
          have xX01 : World.cell? wj ⟨w.heap.size, 1, none⟩ = some (.slice a0 len0 cap0) := (X0.below hJ).cell 1
          have xX02 : World.cell? wj ⟨w.heap.size, 2, none⟩ = some (.int .i64 e0) := (X0.below hJ).cell 2
          go_simp
          exact hK.out _ _ rfl (Below.refl _ _)
        refine Jo.jcons (i := 15) (o := ⟨some 95, _, _, _, _, _⟩) (di := some 95) (L := [(some 93, 13)]) (f := Jo.Fact.eq (.agg #[.bool s1, .slice a1 len1 cap1, .int .i64 e1])) rfl rfl rfl rfl (fun vs wj hJ hd K hK => ?_) ?_
        · have d13 : (Jo.Fact.eq (.bool true)).P (vs 13) wj := hd 13 (by decide)
          clear hd
          simp only [Jo.putl, List.foldl_cons, List.foldl_nil, Act.put, List.setIfInBounds_toArray, List.set_cons_zero, List.set_cons_succ] at hK ⊢
          generalize vs 13 = u13 at hK d13 ⊢
          replace d13 : u13 = _ := d13
          subst d13
          have xX10 : World.cell? wj ⟨w.heap.size + 1, 0, none⟩ = some (.bool s1) := (X1.below hJ).cell 0
          have xX11 : World.cell? wj ⟨w.heap.size + 1, 1, none⟩ = some (.slice a1 len1 cap1) := (X1.below hJ).cell 1
          have xX12 : World.cell? wj ⟨w.heap.size + 1, 2, none⟩ = some (.int .i64 e1) := (X1.below hJ).cell 2
          go_simp
          exact hK.out _ _ rfl (Below.refl _ _)
        refine Jo.jcons (i := 16) (o := ⟨some 96, _, _, _, _, _⟩) (di := some 96) (L := [(some 93, 13), (some 94, 14), (some 95, 15)]) (f := Jo.Fact.eq (.int .i64 κ)) rfl rfl rfl rfl (fun vs wj hJ hd K hK => ?_) ?_
        · have d13 : (Jo.Fact.eq (.bool true)).P (vs 13) wj := hd 13 (by decide)
          have d14 : (Jo.Fact.eq (.agg #[.bool s0, .slice a0 len0 cap0, .int .i64 e0])).P (vs 14) wj := hd 14 (by decide)
          have d15 : (Jo.Fact.eq (.agg #[.bool s1, .slice a1 len1 cap1, .int .i64 e1])).P (vs 15) wj := hd 15 (by decide)
          clear hd
          simp only [Jo.putl, List.foldl_cons, List.foldl_nil, Act.put, List.setIfInBounds_toArray, List.set_cons_zero, List.set_cons_succ] at hK ⊢
          generalize vs 13 = u13 at hK d13 ⊢
          generalize vs 14 = u14 at hK d14 ⊢
          generalize vs 15 = u15 at hK d15 ⊢
          replace d13 : u13 = _ := d13
          subst d13
          replace d14 : u14 = _ := d14
          subst d14
          replace d15 : u15 = _ := d15
          subst d15
          go_simp
          refine (dCmp (r := κ) (hT.below hJ) (h0.below hJ) (h1.below hJ) (by omega) (by omega) (by rw [HP.out, HQ.out]; exact Hκ.out)).mono ?_
          rintro ee wk ⟨rfl, B⟩
          exact hK.out _ _ rfl B
        refine Jo.jcons (i := 17) (o := ⟨some 97, _, _, _, _, _⟩) (di := some 97) (L := [(some 93, 13)]) (f := Jo.Fact.eq (.agg #[.bool s0, .slice a0 len0 cap0, .int .i64 e0])) rfl rfl rfl rfl (fun vs wj hJ hd K hK => ?_) ?_
        · have d13 : (Jo.Fact.eq (.bool true)).P (vs 13) wj := hd 13 (by decide)
          clear hd
          simp only [Jo.putl, List.foldl_cons, List.foldl_nil, Act.put, List.setIfInBounds_toArray, List.set_cons_zero, List.set_cons_succ] at hK ⊢
          generalize vs 13 = u13 at hK d13 ⊢
          replace d13 : u13 = _ := d13
          subst d13
          have xX00 : World.cell? wj ⟨w.heap.size, 0, none⟩ = some (.bool s0) := (X0.below hJ).cell 0
          have xX01 : World.cell? wj ⟨w.heap.size, 1, none⟩ = some (.slice a0 len0 cap0) := (X0.below hJ).cell 1
          have xX02 : World.cell? wj ⟨w.heap.size, 2, none⟩ = some (.int .i64 e0) := (X0.below hJ).cell 2
          go_simp
          exact hK.out _ _ rfl (Below.refl _ _)
        refine Jo.jcons (i := 18) (o := ⟨some 98, _, _, _, _, _⟩) (di := some 98) (L := [(some 93, 13)]) (f := Jo.Fact.eq (.agg #[.bool s1, .slice a1 len1 cap1, .int .i64 e1])) rfl rfl rfl rfl (fun vs wj hJ hd K hK => ?_) ?_
        · have d13 : (Jo.Fact.eq (.bool true)).P (vs 13) wj := hd 13 (by decide)
          clear hd
          simp only [Jo.putl, List.foldl_cons, List.foldl_nil, Act.put, List.setIfInBounds_toArray, List.set_cons_zero, List.set_cons_succ] at hK ⊢
          generalize vs 13 = u13 at hK d13 ⊢
          replace d13 : u13 = _ := d13
          subst d13
          have xX10 : World.cell? wj ⟨w.heap.size + 1, 0, none⟩ = some (.bool s1) := (X1.below hJ).cell 0
          have xX11 : World.cell? wj ⟨w.heap.size + 1, 1, none⟩ = some (.slice a1 len1 cap1) := (X1.below hJ).cell 1
          have xX12 : World.cell? wj ⟨w.heap.size + 1, 2, none⟩ = some (.int .i64 e1) := (X1.below hJ).cell 2
          go_simp
          exact hK.out _ _ rfl (Below.refl _ _)
        refine Jo.jcons (i := 19) (o := ⟨some 99, _, _, _, _, _⟩) (di := some 99) (L := [(some 93, 13), (some 97, 17), (some 98, 18)]) (f := Jo.Fact.eq (.int .i64 κ)) rfl rfl rfl rfl (fun vs wj hJ hd K hK => ?_) ?_
        · have d13 : (Jo.Fact.eq (.bool true)).P (vs 13) wj := hd 13 (by decide)
          have d17 : (Jo.Fact.eq (.agg #[.bool s0, .slice a0 len0 cap0, .int .i64 e0])).P (vs 17) wj := hd 17 (by decide)
          have d18 : (Jo.Fact.eq (.agg #[.bool s1, .slice a1 len1 cap1, .int .i64 e1])).P (vs 18) wj := hd 18 (by decide)
          clear hd
          simp only [Jo.putl, List.foldl_cons, List.foldl_nil, Act.put, List.setIfInBounds_toArray, List.set_cons_zero, List.set_cons_succ] at hK ⊢
          generalize vs 13 = u13 at hK d13 ⊢
          generalize vs 17 = u17 at hK d17 ⊢
          generalize vs 18 = u18 at hK d18 ⊢
          replace d13 : u13 = _ := d13
          subst d13
          replace d17 : u17 = _ := d17
          subst d17
          replace d18 : u18 = _ := d18
          subst d18
          go_simp
          refine (q3Cmp (r := κ) (h0.below hJ) (h1.below hJ) (by omega) (by omega) (by rw [HP.out, HQ.out]; exact HNr.out) (by rw [HP.out, HQ.out, HD.out]; exact HκD.out)).mono ?_
          rintro ee wk ⟨rfl, B⟩
          exact hK.out _ _ rfl B
        refine Jo.jcons (i := 20) (o := ⟨some 100, _, _, _, _, _⟩) (di := some 100) (L := [(some 93, 13), (some 96, 16), (some 99, 19)]) (f := Jo.Fact.eq (.bool true)) rfl rfl rfl rfl (fun vs wj hJ hd K hK => ?_) ?_
        · have d13 : (Jo.Fact.eq (.bool true)).P (vs 13) wj := hd 13 (by decide)
          have d16 : (Jo.Fact.eq (.int .i64 κ)).P (vs 16) wj := hd 16 (by decide)
          have d19 : (Jo.Fact.eq (.int .i64 κ)).P (vs 19) wj := hd 19 (by decide)
          clear hd
          simp only [Jo.putl, List.foldl_cons, List.foldl_nil, Act.put, List.setIfInBounds_toArray, List.set_cons_zero, List.set_cons_succ] at hK ⊢
          generalize vs 13 = u13 at hK d13 ⊢
          generalize vs 16 = u16 at hK d16 ⊢
          generalize vs 19 = u19 at hK d19 ⊢
          replace d13 : u13 = _ := d13
          subst d13
          replace d16 : u16 = _ := d16
          subst d16
          replace d19 : u19 = _ := d19
          subst d19
          go_simp
          exact hK.out _ _ (by first | rfl | simp) (Below.refl _ _)
        refine Jo.jcons (i := 21) (o := ⟨some 101, _, _, _, _, _⟩) (di := some 101) (L := [(some 93, 13), (some 100, 20)]) (f := Jo.Fact.eq (.bool true)) rfl rfl rfl rfl (fun vs wj hJ hd K hK => ?_) ?_
        · have d13 : (Jo.Fact.eq (.bool true)).P (vs 13) wj := hd 13 (by decide)
          have d20 : (Jo.Fact.eq (.bool true)).P (vs 20) wj := hd 20 (by decide)
          clear hd
          simp only [Jo.putl, List.foldl_cons, List.foldl_nil, Act.put, List.setIfInBounds_toArray, List.set_cons_zero, List.set_cons_succ] at hK ⊢
          generalize vs 13 = u13 at hK d13 ⊢
          generalize vs 20 = u20 at hK d20 ⊢
          replace d13 : u13 = _ := d13
          subst d13
          replace d20 : u20 = _ := d20
          subst d20
          go_simp
          exact hK.out _ _ rfl (Below.refl _ _)
        refine Jo.jcons (i := 22) (o := ⟨some 6, _, _, _, _, _⟩) (di := some 6) (L := [(some 101, 21)]) (f := Jo.Fact.eq (.bool true)) rfl rfl rfl rfl (fun vs wj hJ hd K hK => ?_) ?_
        · have d21 : (Jo.Fact.eq (.bool true)).P (vs 21) wj := hd 21 (by decide)
          clear hd
          simp only [Jo.putl, List.foldl_cons, List.foldl_nil, Act.put, List.setIfInBounds_toArray, List.set_cons_zero, List.set_cons_succ] at hK ⊢
          generalize vs 21 = u21 at hK d21 ⊢
          replace d21 : u21 = _ := d21
          subst d21
          go_simp
          exact hK.out _ _ rfl (Below.refl _ _)
        exact Jo.Steps.nil
      have d0 : (Jo.Fact.eq (.bool true)).P (vs 0) w12 := hd 0 (by decide)
      have d1 : (Jo.Fact.eq (.bool true)).P (vs 1) w12 := hd 1 (by decide)
      have d2 : (Jo.Fact.eq (.bool true)).P (vs 2) w12 := hd 2 (by decide)
      have d3 : (Jo.Fact.eq (.bool true)).P (vs 3) w12 := hd 3 (by decide)
      have d4 : (Jo.Fact.eq (.bool true)).P (vs 4) w12 := hd 4 (by decide)
      have d5 : (Jo.Fact.eq (.bool true)).P (vs 5) w12 := hd 5 (by decide)
      have d6 : (Jo.Fact.eq (.bool true)).P (vs 6) w12 := hd 6 (by decide)
      have d7 : (Jo.Fact.eq (.bool true)).P (vs 7) w12 := hd 7 (by decide)
      have d8 : (Jo.Fact.eq (.bool true)).P (vs 8) w12 := hd 8 (by decide)
      have d9 : (Jo.Fact.eq (.bool true)).P (vs 9) w12 := hd 9 (by decide)
      have d10 : (Jo.Fact.eq (.bool true)).P (vs 10) w12 := hd 10 (by decide)
      have d11 : (Jo.Fact.eq (.bool true)).P (vs 11) w12 := hd 11 (by decide)
      have d12 : (Jo.Fact.eq (.bool true)).P (vs 12) w12 := hd 12 (by decide)
      have d13 : (Jo.Fact.eq (.bool true)).P (vs 13) w12 := hd 13 (by decide)
      have d14 : (Jo.Fact.eq (.agg #[.bool s0, .slice a0 len0 cap0, .int .i64 e0])).P (vs 14) w12 := hd 14 (by decide)
      have d15 : (Jo.Fact.eq (.agg #[.bool s1, .slice a1 len1 cap1, .int .i64 e1])).P (vs 15) w12 := hd 15 (by decide)
      have d16 : (Jo.Fact.eq (.int .i64 κ)).P (vs 16) w12 := hd 16 (by decide)
      have d17 : (Jo.Fact.eq (.agg #[.bool s0, .slice a0 len0 cap0, .int .i64 e0])).P (vs 17) w12 := hd 17 (by decide)
      have d18 : (Jo.Fact.eq (.agg #[.bool s1, .slice a1 len1 cap1, .int .i64 e1])).P (vs 18) w12 := hd 18 (by decide)
      have d19 : (Jo.Fact.eq (.int .i64 κ)).P (vs 19) w12 := hd 19 (by decide)
      have d20 : (Jo.Fact.eq (.bool true)).P (vs 20) w12 := hd 20 (by decide)
      have d21 : (Jo.Fact.eq (.bool true)).P (vs 21) w12 := hd 21 (by decide)
      have d22 : (Jo.Fact.eq (.bool true)).P (vs 22) w12 := hd 22 (by decide)
      clear hd
      simp only [Jo.putl, List.foldl_cons, List.foldl_nil, Act.put, List.setIfInBounds_toArray, List.set_cons_zero, List.set_cons_succ]
      generalize vs 0 = u0 at d0 ⊢
      generalize vs 1 = u1 at d1 ⊢
      generalize vs 2 = u2 at d2 ⊢
      generalize vs 3 = u3 at d3 ⊢
      generalize vs 4 = u4 at d4 ⊢
      generalize vs 5 = u5 at d5 ⊢
      generalize vs 6 = u6 at d6 ⊢
      generalize vs 7 = u7 at d7 ⊢
      generalize vs 8 = u8 at d8 ⊢
      generalize vs 9 = u9 at d9 ⊢
      generalize vs 10 = u10 at d10 ⊢
      generalize vs 11 = u11 at d11 ⊢
      generalize vs 12 = u12 at d12 ⊢
      generalize vs 13 = u13 at d13 ⊢
      generalize vs 14 = u14 at d14 ⊢
      generalize vs 15 = u15 at d15 ⊢
      generalize vs 16 = u16 at d16 ⊢
      generalize vs 17 = u17 at d17 ⊢
      generalize vs 18 = u18 at d18 ⊢
      generalize vs 19 = u19 at d19 ⊢
      generalize vs 20 = u20 at d20 ⊢
      generalize vs 21 = u21 at d21 ⊢
      generalize vs 22 = u22 at d22 ⊢
      clear vs
      replace d0 : u0 = _ := d0
      subst d0
      replace d1 : u1 = _ := d1
      subst d1
      replace d2 : u2 = _ := d2
      subst d2
      replace d3 : u3 = _ := d3
      subst d3
      replace d4 : u4 = _ := d4
      subst d4
      replace d5 : u5 = _ := d5
      subst d5
      replace d6 : u6 = _ := d6
      subst d6
      replace d7 : u7 = _ := d7
      subst d7
      replace d8 : u8 = _ := d8
      subst d8
      replace d9 : u9 = _ := d9
      subst d9
      replace d10 : u10 = _ := d10
      subst d10
      replace d11 : u11 = _ := d11
      subst d11
      replace d12 : u12 = _ := d12
      subst d12
      replace d13 : u13 = _ := d13
      subst d13
      replace d14 : u14 = _ := d14
      subst d14
      replace d15 : u15 = _ := d15
      subst d15
      replace d16 : u16 = _ := d16
      subst d16
      replace d17 : u17 = _ := d17
      subst d17
      replace d18 : u18 = _ := d18
      subst d18
      replace d19 : u19 = _ := d19
      subst d19
      replace d20 : u20 = _ := d20
      subst d20
      replace d21 : u21 = _ := d21
      subst d21
      replace d22 : u22 = _ := d22
      subst d22
      replace X0 := X0.below hJ
      replace X1 := X1.below hJ
      replace hT := hT.below hJ
      replace h0 := h0.below hJ
      replace h1 := h1.below hJ
      replace HB := Lib.hid (bt HB.out hJ)
      refine Jo.jdone (by kernel_rfl) ?_
      go_wp2
      go_ret
      exact ⟨rfl, HB.out⟩

set_option maxHeartbeats 4000000 in
theorem dySums_far0 (s0 : Bool) (a0 : Option Addr) (len0 cap0 : Nat) (e0 : Int) (s1 : Bool) (a1 : Option Addr) (len1 cap1 : Nat) (e1 : Int) (a2 : Option Addr) (len2 cap2 : Nat) (w : World) (hT : Tab w) (k3 : len2 ≤ 9223372036854775807) (q : Bool) (f0 : fewB len0 e0 = false) (f1 : fewB len1 e1 = q) :
    Calls Tryd.prog 4 #[.agg #[.bool s0, .slice a0 len0 cap0, .int .i64 e0], .agg #[.bool s1, .slice a1 len1 cap1, .int .i64 e1], .slice a2 len2 cap2] w (PB w true) := by
  have HF0 := Lib.hid f0
  have HF1 := Lib.hid f1
  clear f0 f1
  go_enter Tryd.func4, Tryd.ntmps4
  go_upto_region 1 with (fail)
  have X0 := (Bo.newAt w (g := w.heap.size) (by simp) #[.bool s0, .slice a0 len0 cap0, .int .i64 e0] 27).below (bel1 _ (.cells #[.bool s1, .slice a1 len1 cap1, .int .i64 e1] 27))
  have X1 := (Bo.newAt (w.alloc (.cells #[.bool s0, .slice a0 len0 cap0, .int .i64 e0] 27)) (g := w.heap.size + 1) (by simp) #[.bool s1, .slice a1 len1 cap1, .int .i64 e1] 27)
  have HB := Lib.hid (bel2 w (.cells #[.bool s0, .slice a0 len0 cap0, .int .i64 e0] 27) (.cells #[.bool s1, .slice a1 len1 cap1, .int .i64 e1] 27))
  replace hT := hT.below HB.out
  generalize hW1 : ((w.alloc (.cells #[.bool s0, .slice a0 len0 cap0, .int .i64 e0] 27)).alloc (.cells #[.bool s1, .slice a1 len1 cap1, .int .i64 e1] 27)) = w1 at *
  clear hW1
  go_wp2_with fail
  refine (awake3 _ hT).mono ?_
  rintro ee w2 ⟨rfl, B⟩
  replace X0 := X0.below B
  replace X1 := X1.below B
  replace hT := hT.below B
  replace HB := Lib.hid (bt HB.out B)
  clear B
  have xX00 := X0.at (i := 0) (v := .bool s0) rfl
  have xX01 := X0.at (i := 1) (v := .slice a0 len0 cap0) rfl
  have xX02 := X0.at (i := 2) (v := .int .i64 e0) rfl
  go_wp2_with fail
  refine (few3E _ HF0.out).mono ?_
  rintro ee w3 ⟨rfl, B⟩
  clear xX00 xX01 xX02
  replace X0 := X0.below B
  replace X1 := X1.below B
  replace hT := hT.below B
  replace HB := Lib.hid (bt HB.out B)
  clear B
  have xX10 := X1.at (i := 0) (v := .bool s1) rfl
  have xX11 := X1.at (i := 1) (v := .slice a1 len1 cap1) rfl
  have xX12 := X1.at (i := 2) (v := .int .i64 e1) rfl
  go_wp2_with fail
  refine (few3E _ HF1.out).mono ?_
  rintro ee w4 ⟨rfl, B⟩
  clear xX10 xX11 xX12
  replace X0 := X0.below B
  replace X1 := X1.below B
  replace hT := hT.below B
  replace HB := Lib.hid (bt HB.out B)
  clear B
  go_wp2
  go_ret
  exact ⟨rfl, HB.out⟩

set_option maxHeartbeats 4000000 in
theorem dySums_far1 (s0 : Bool) (a0 : Option Addr) (len0 cap0 : Nat) (e0 : Int) (s1 : Bool) (a1 : Option Addr) (len1 cap1 : Nat) (e1 : Int) (a2 : Option Addr) (len2 cap2 : Nat) (w : World) (hT : Tab w) (k3 : len2 ≤ 9223372036854775807) (f0 : fewB len0 e0 = true) (f1 : fewB len1 e1 = false) :
    Calls Tryd.prog 4 #[.agg #[.bool s0, .slice a0 len0 cap0, .int .i64 e0], .agg #[.bool s1, .slice a1 len1 cap1, .int .i64 e1], .slice a2 len2 cap2] w (PB w true) := by
  have HF0 := Lib.hid f0
  have HF1 := Lib.hid f1
  clear f0 f1
  go_enter Tryd.func4, Tryd.ntmps4
  go_upto_region 1 with (fail)
  have X0 := (Bo.newAt w (g := w.heap.size) (by simp) #[.bool s0, .slice a0 len0 cap0, .int .i64 e0] 27).below (bel1 _ (.cells #[.bool s1, .slice a1 len1 cap1, .int .i64 e1] 27))
  have X1 := (Bo.newAt (w.alloc (.cells #[.bool s0, .slice a0 len0 cap0, .int .i64 e0] 27)) (g := w.heap.size + 1) (by simp) #[.bool s1, .slice a1 len1 cap1, .int .i64 e1] 27)
  have HB := Lib.hid (bel2 w (.cells #[.bool s0, .slice a0 len0 cap0, .int .i64 e0] 27) (.cells #[.bool s1, .slice a1 len1 cap1, .int .i64 e1] 27))
  replace hT := hT.below HB.out
  generalize hW1 : ((w.alloc (.cells #[.bool s0, .slice a0 len0 cap0, .int .i64 e0] 27)).alloc (.cells #[.bool s1, .slice a1 len1 cap1, .int .i64 e1] 27)) = w1 at *
  clear hW1
  go_wp2_with fail
  refine (awake3 _ hT).mono ?_
  rintro ee w2 ⟨rfl, B⟩
  replace X0 := X0.below B
  replace X1 := X1.below B
  replace hT := hT.below B
  replace HB := Lib.hid (bt HB.out B)
  clear B
  have xX00 := X0.at (i := 0) (v := .bool s0) rfl
  have xX01 := X0.at (i := 1) (v := .slice a0 len0 cap0) rfl
  have xX02 := X0.at (i := 2) (v := .int .i64 e0) rfl
  go_wp2_with fail
  refine (few3E _ HF0.out).mono ?_
  rintro ee w3 ⟨rfl, B⟩
  clear xX00 xX01 xX02
  replace X0 := X0.below B
  replace X1 := X1.below B
  replace hT := hT.below B
  replace HB := Lib.hid (bt HB.out B)
  clear B
  have xX10 := X1.at (i := 0) (v := .bool s1) rfl
  have xX11 := X1.at (i := 1) (v := .slice a1 len1 cap1) rfl
  have xX12 := X1.at (i := 2) (v := .int .i64 e1) rfl
  go_wp2_with fail
  refine (few3E _ HF1.out).mono ?_
  rintro ee w4 ⟨rfl, B⟩
  clear xX10 xX11 xX12
  replace X0 := X0.below B
  replace X1 := X1.below B
  replace hT := hT.below B
  replace HB := Lib.hid (bt HB.out B)
  clear B
  go_wp2
  go_ret
  exact ⟨rfl, HB.out⟩

set_option maxHeartbeats 4000000 in
theorem dySums_far2 (s0 : Bool) (a0 : Option Addr) (len0 cap0 : Nat) (e0 : Int) (s1 : Bool) (a1 : Option Addr) (len1 cap1 : Nat) (e1 : Int) (a2 : Option Addr) (len2 cap2 : Nat) (w : World) (hT : Tab w) (k3 : len2 ≤ 9223372036854775807) (f0 : fewB len0 e0 = true) (f1 : fewB len1 e1 = true) (k2 : ¬ len2 ≤ 6) :
    Calls Tryd.prog 4 #[.agg #[.bool s0, .slice a0 len0 cap0, .int .i64 e0], .agg #[.bool s1, .slice a1 len1 cap1, .int .i64 e1], .slice a2 len2 cap2] w (PB w true) := by
  have HF0 := Lib.hid f0
  have HF1 := Lib.hid f1
  clear f0 f1
  have t2 : decide ((6 : Int) < len2) = true := by simp; omega
  clear k2
  go_enter Tryd.func4, Tryd.ntmps4
  go_upto_region 1 with (fail)
  have X0 := (Bo.newAt w (g := w.heap.size) (by simp) #[.bool s0, .slice a0 len0 cap0, .int .i64 e0] 27).below (bel1 _ (.cells #[.bool s1, .slice a1 len1 cap1, .int .i64 e1] 27))
  have X1 := (Bo.newAt (w.alloc (.cells #[.bool s0, .slice a0 len0 cap0, .int .i64 e0] 27)) (g := w.heap.size + 1) (by simp) #[.bool s1, .slice a1 len1 cap1, .int .i64 e1] 27)
  have HB := Lib.hid (bel2 w (.cells #[.bool s0, .slice a0 len0 cap0, .int .i64 e0] 27) (.cells #[.bool s1, .slice a1 len1 cap1, .int .i64 e1] 27))
  replace hT := hT.below HB.out
  generalize hW1 : ((w.alloc (.cells #[.bool s0, .slice a0 len0 cap0, .int .i64 e0] 27)).alloc (.cells #[.bool s1, .slice a1 len1 cap1, .int .i64 e1] 27)) = w1 at *
  clear hW1
  go_wp2_with fail
  refine (awake3 _ hT).mono ?_
  rintro ee w2 ⟨rfl, B⟩
  replace X0 := X0.below B
  replace X1 := X1.below B
  replace hT := hT.below B
  replace HB := Lib.hid (bt HB.out B)
  clear B
  have xX00 := X0.at (i := 0) (v := .bool s0) rfl
  have xX01 := X0.at (i := 1) (v := .slice a0 len0 cap0) rfl
  have xX02 := X0.at (i := 2) (v := .int .i64 e0) rfl
  go_wp2_with fail
  refine (few3E _ HF0.out).mono ?_
  rintro ee w3 ⟨rfl, B⟩
  clear xX00 xX01 xX02
  replace X0 := X0.below B
  replace X1 := X1.below B
  replace hT := hT.below B
  replace HB := Lib.hid (bt HB.out B)
  clear B
  have xX10 := X1.at (i := 0) (v := .bool s1) rfl
  have xX11 := X1.at (i := 1) (v := .slice a1 len1 cap1) rfl
  have xX12 := X1.at (i := 2) (v := .int .i64 e1) rfl
  go_wp2_with fail
  refine (few3E _ HF1.out).mono ?_
  rintro ee w4 ⟨rfl, B⟩
  clear xX10 xX11 xX12
  replace X0 := X0.below B
  replace X1 := X1.below B
  replace hT := hT.below B
  replace HB := Lib.hid (bt HB.out B)
  clear B
  go_wp2
  go_ret
  exact ⟨rfl, HB.out⟩

theorem dySums_walk (s0 : Bool) (a0 : Option Addr) (len0 cap0 : Nat) (y0 : List Int) (e0 : Int) (s1 : Bool) (a1 : Option Addr) (len1 cap1 : Nat) (y1 : List Int) (e1 : Int) (a2 : Option Addr) (len2 cap2 : Nat) (w : World) (hT : Tab w) (w0 : RowIn w a0 len0 cap0 y0) (w1 : RowIn w a1 len1 cap1 y1) (w2 : RowsD w a2 len2 cap2) :
    Calls Tryd.prog 4 #[.agg #[.bool s0, .slice a0 len0 cap0, .int .i64 e0], .agg #[.bool s1, .slice a1 len1 cap1, .int .i64 e1], .slice a2 len2 cap2] w fun e w' => e = .returned (.bool true) ∧ Below w.heap.size w w' := by
  by_cases f0 : fewB len0 e0 = true
  · by_cases f1 : fewB len1 e1 = true
    · by_cases k2 : len2 ≤ 6
      · obtain ⟨u, r0⟩ := w0.rd (by have := (fewB_true f0).1; omega)
        obtain ⟨v, r1⟩ := w1.rd (by have := (fewB_true f1).1; omega)
        exact dySums_main s0 a0 len0 cap0 e0 s1 a1 len1 cap1 e1 a2 len2 cap2 w _ _ hT (r0.wr s0) (r1.wr s1) (w2.dq (by omega)) f0 f1 k2
      · exact dySums_far2 s0 a0 len0 cap0 e0 s1 a1 len1 cap1 e1 a2 len2 cap2 w hT w2.len f0 f1 k2
    · exact dySums_far1 s0 a0 len0 cap0 e0 s1 a1 len1 cap1 e1 a2 len2 cap2 w hT w2.len f0 (by simpa using f1)
  · exact dySums_far0 s0 a0 len0 cap0 e0 s1 a1 len1 cap1 e1 a2 len2 cap2 w hT w2.len _ (by simpa using f0) rfl
end Go.Proofs.YteoeoppkefcmdaaDoor
