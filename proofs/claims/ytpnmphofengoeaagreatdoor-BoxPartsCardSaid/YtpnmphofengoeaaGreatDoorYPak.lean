/-
  Contracts and words that the statement's proof rests on: Qa, Da.
-/
import Derived.Test.YtpnmphofengoeaaGreatDoorYPai
import Derived.Test.YtpnmphofengoeaaGreatDoorYPaj
namespace Go.Proofs.YtpnmphofengoeaaGreatDoor
open Go.RowKit
set_option linter.unusedVariables false

set_option maxHeartbeats 400000 in
theorem qMake {w : World} {A : Option Addr} {n c a : Nat} (s : Bool) (h : Rd w A n c a) : Calls Tryz.prog 90 #[.bool s, .slice A n c] w (W1 w n (sg s a)) := by
  cases s
  · go_enter Tryz.func90, Tryz.ntmps90
    go_wp2_with (first
      | (go_at_call 107; ((with_reducible refine (rTrim (h.below (bel1 _ _))).mono ?_); rintro e w1 ⟨A1, n1, c1, rfl, h1, k1, B1⟩; obtain ⟨hc, hf⟩ := bcell B1)))
    have X : Bx w1 w.heap.size false none 0 0 := (Bx.new w false none 0 0).below B1
    exact bodyPost_ret (v := .agg #[.bool false, .slice A1 n1 c1]) (by simp [results, Tryz.results90, go_sem, X.cell0, X.cell1]) rfl ⟨false, A1, n1, c1, rfl, (h1.wn false).st X _ _, by omega, st2 (bt (bel1 _ _) B1) (Nat.le_refl _) _ _⟩
  · rcases Nat.eq_zero_or_pos a with e | e
    · subst e
      go_enter Tryz.func90, Tryz.ntmps90
      go_wp2_with (first
        | (go_at_call 107; ((with_reducible refine (rTrim (h.below (bel1 _ _))).mono ?_); rintro e w1 ⟨A1, n1, c1, rfl, h1, k1, B1⟩; obtain ⟨hc, hf⟩ := bcell B1; obtain rfl : n1 = 0 := by { have := h1.pos; omega })))
      have X : Bx w1 w.heap.size false none 0 0 := (Bx.new w false none 0 0).below B1
      exact bodyPost_ret (v := .agg #[.bool false, .slice A1 0 c1]) (by simp [results, Tryz.results90, go_sem, X.cell0, X.cell1]) rfl ⟨false, A1, 0, c1, rfl, (h1.wn true).st X _ _, by omega, st2 (bt (bel1 _ _) B1) (Nat.le_refl _) _ _⟩
    · go_enter Tryz.func90, Tryz.ntmps90
      go_wp2_with (first
        | (go_at_call 107; ((with_reducible refine (rTrim (h.below (bel1 _ _))).mono ?_); rintro e w1 ⟨A1, n1, c1, rfl, h1, k1, B1⟩; obtain ⟨hc, hf⟩ := bcell B1; have hpos : 0 < n1 := by { have := h1.pos; omega }; have hbig := h1.rd.big)))
      have X : Bx w1 w.heap.size false none 0 0 := (Bx.new w false none 0 0).below B1
      have hd : decide (0 < n1) = true := by simpa using hpos
      have hw := h1.wn true; rw [hd] at hw; exact bodyPost_ret (v := .agg #[.bool true, .slice A1 n1 c1]) (by simp [results, Tryz.results90, go_sem, X.cell0, X.cell1]) rfl ⟨true, A1, n1, c1, rfl, hw.st X _ _, by omega, st2 (bt (bel1 _ _) B1) (Nat.le_refl _) _ _⟩

end Go.Proofs.YtpnmphofengoeaaGreatDoor

namespace Go.Proofs.YtpnmphofengoeaaGreatDoor
set_option maxHeartbeats 4000000
open Go.RowKit
set_option linter.unusedVariables false

theorem val_int0 {k : IntKind} {a b : Int} (h : a = b) : Value.int k a = .int k b := by rw [h]
def D1 (w : World) (K : Nat) (N E : Int) (e : Ending) (w' : World) : Prop := ∃ s A n c, e = .returned (.agg #[.bool s, .slice A n c, .int .i64 E]) ∧ Wn w' s A n c N ∧ n ≤ K ∧ Below w.heap.size w w'
theorem Wn.st3 {w : World} {g : Nat} {cs : Array Value} {T : TypeId} {t : Bool} {B : Option Addr} {m d : Nat} {z : Int} (h : Wn w t B m d z) (X : Bo w g cs T) (s : Bool) (A : Option Addr) (n c : Nat) (e : Int) (hn : cs.all no32 = true) :
    Wn (((w.setCell ⟨g, 0, none⟩ (.bool s)).setCell ⟨g, 1, none⟩ (.slice A n c)).setCell ⟨g, 2, none⟩ (.int .i64 e)) t B m d z := by
  have step : ∀ (cs : Array Value) (i : Nat) (v : Value), cs.all no32 = true → no32 v = true → (cs.setIfInBounds i v).all no32 = true := by
    intro cs i v h1 h2
    rw [Array.all_eq_true] at h1 ⊢
    intro j hj
    rw [Array.getElem_setIfInBounds]
    split
    · exact h2
    · exact h1 j (by simpa using hj)
  exact ((h.store X hn 0 _).store (X.set 0 _) (step _ _ _ hn rfl) 1 _).store ((X.set 0 _).set 1 _) (step _ _ _ (step _ _ _ hn rfl) rfl) 2 _
theorem st3 {B : Nat} {a w : World} (h : Below B a w) {b : Nat} (hp : B ≤ b) (u v t : Value) : Below B a (((w.setCell ⟨b, 0, none⟩ u).setCell ⟨b, 1, none⟩ v).setCell ⟨b, 2, none⟩ t) := below_store (below_store (below_store h hp 0 u) hp 1 v) hp 2 t

theorem q3Even {w : World} {A : Option Addr} {n c a : Nat} {t : Bool} (h : Nm w A n c a) (ht : decide (a ≠ 0 ∧ a % 2 = 0) = t) : Calls Tryz.prog 106 #[.slice A n c] w fun e w' => e = .returned (.bool t) ∧ w = w' := by
  have hp := h.pos; have hbig := h.rd.big
  rcases Nat.eq_zero_or_pos n with e | hn
  · subst e
    obtain rfl : a = 0 := by omega
    subst ht; clear h hp
    go_enter Tryz.func106, Tryz.ntmps106
    go_wp2
    go_ret
    exact ⟨rfl, rfl⟩
  · have ha : a ≠ 0 := by omega
    obtain ⟨b, h⟩ := h; have hcap := h.cap; obtain ⟨o, rfl, hcell⟩ := h.at hn; have hck := hcell 0 hn; clear hcell
    have hx : (limbs a).getD 0 0 = a % 4294967296 := by rw [limbs_pos ha]; rfl
    rw [hx, Nat.add_zero] at hck
    have HT : Hid ((((a % 4294967296 : Nat) : Int) % 2 == 0) = t) := Lib.hid (by
      rw [← ht, Bool.eq_iff_iff]
      simp [ha]
      omega)
    have hlt : a % 4294967296 < 4294967296 := Nat.mod_lt _ (by decide)
    clear ht hx ha hp h
    revert hck HT hlt
    generalize a % 4294967296 = x
    intro hck HT hlt
    go_enter Tryz.func106, Tryz.ntmps106
    go_wp2
    go_ret
    exact ⟨ret_bool HT.out, rfl⟩

def MkInv (w w1 : World) (z : Int) (n k : Nat) (wr : World) : Prop :=
  ∃ s A p c, Bx wr w1.heap.size s A p c ∧ Wn wr s A p c (sg (decide (z < 0)) (z.natAbs / 2 ^ k)) ∧ p ≤ n ∧ Bo wr (w.heap.size + 1) #[.bool false, .slice none 0 0, .int .i64 0] 83 ∧ w.heap.size + 1 < w1.heap.size ∧ Below w.heap.size w wr

theorem q3make_in {w : World} {s : Bool} {A : Option Addr} {n c : Nat} {z e : Int} (h : Wr w s A n c z) (hn : n ≤ 100000) (h0 : z ≠ 0) (h1 : -4194304 ≤ e) (h2 : e ≤ 4194304) {N E : Int} (HN : Hid ((mk z e).1 = N)) (HE : Hid ((mk z e).2 = E)) :
    Calls Tryz.prog 89 #[.agg #[.bool s, .slice A n c], .int .i64 e] w (D1 w n N E) := by
  have ha : z.natAbs ≠ 0 := by omega
  have hv : v2 z.natAbs < 3200001 := by
    have e1 := v2_pow_le ha; have e2 := h.rd.bound; rw [pow32] at e2; have e3 := (Nat.pow_lt_pow_iff_right (a := 2) (by decide)).1 (Nat.lt_of_le_of_lt e1 e2)
    omega
  obtain ⟨m, hm⟩ : ∃ m, v2 z.natAbs = m := ⟨_, rfl⟩; have HM := Lib.hid hm
  have hm1 : m < 3200001 := by omega
  have t1 : decide (e < -4194304) = false := by simp; omega
  have t2 : decide (4194304 < e) = false := by simp; omega
  clear hm hv
  go_enter Tryz.func89, Tryz.ntmps89
  go_wp2_with fail
  refine (qMake s (h.rd.below (bel2 _ _ _))).mono ?_; rintro ee w1 ⟨s1, A1, n1, c1, rfl, p1, k1, B1⟩; rw [h.eq] at p1
  have hpos : 0 < n1 := by have := p1.1.pos; omega
  have hq : ((n1 : Int) == 0) = false := by have : (n1 : Int) ≠ 0 := by omega
                                            simpa using this
  have hbig1 := p1.1.rd.big
  have XR : Bo (w1.alloc (.cells #[.bool s1, .slice A1 n1 c1] 81)) (w.heap.size + 1) #[.bool false, .slice none 0 0, .int .i64 0] 83 := ((Bo.newAt _ (by simp) _ _).below B1).below (bel1 _ _)
  have hg : w.heap.size + 1 < w1.heap.size := ((Bo.newAt _ (by simp) #[.bool false, .slice none 0 0, .int .i64 0] 83).below B1).lt
  have HI : Hid (MkInv w w1 z n 0 (w1.alloc (.cells #[.bool s1, .slice A1 n1 c1] 81))) := Lib.hid ⟨s1, A1, n1, c1, Bx.new _ _ _ _ _, by
    have e0 : sg (decide (z < 0)) (z.natAbs / 2 ^ 0) = z := by
      rw [Nat.pow_zero, Nat.div_one]
      by_cases hz : z < 0
      · simp [sg, hz]; omega
      · simp [sg, hz]; omega
    rw [e0]; exact p1.below (bel1 _ _), k1, XR, hg, bt (bt (bel2 _ _ _) B1) (bel1 _ _)⟩
  clear XR B1; have x50 := (Bx.new w1 s1 A1 n1 c1).cell1; go_wp2
  go_loopw [1, 6] (fun ee i wr => ∃ k : Nat, k ≤ m ∧ i = .int .i64 k ∧ ee = .int .i64 (e + k) ∧ MkInv w w1 z n k wr) (fun _ i _ => m + 1 - (intOf i).toNat)
  case atStart => exact ⟨0, Nat.zero_le _, rfl, val_int0 (by omega), HI.out⟩
  case round =>
    clear HI x50 p1; obtain ⟨k, hk, rfl, rfl, s2, A2, p, c2, X5, hw, hp, XR, _, hB⟩ := hrel; have HB := Lib.hid hB; clear hB
    have hNm : Nm wr A2 p c2 (z.natAbs / 2 ^ k) := by have := hw.1; rwa [sg_natAbs] at this
    obtain ⟨v1, v2'⟩ := v2_step ha (i := k) (by rw [HM.out]; exact hk); rw [HM.out] at v1; have x50 := X5.cell0; have x51 := X5.cell1
    have r0 : wr.cell? ⟨w.heap.size + 1, 0, none⟩ = some (.bool false) := XR.cell 0
    have r1 : wr.cell? ⟨w.heap.size + 1, 1, none⟩ = some (.slice none 0 0) := XR.cell 1
    have r2 : wr.cell? ⟨w.heap.size + 1, 2, none⟩ = some (.int .i64 0) := XR.cell 2
    have q0 := XR.frozen 0; have q1 := XR.frozen 1; have q2 := XR.frozen 2
    have hk4 : (k : Int) < 4000000 := by omega
    have hsg : s2 = decide (z < 0) := by
      rw [hw.2, sg_lt]
      have : decide (0 < z.natAbs / 2 ^ k) = true := decide_eq_true (Nat.pos_of_ne_zero v2')
      rw [this, Bool.and_true]
    have HG := Lib.hid hsg; clear hsg
    by_cases hlt : k < m
    · have HT : Hid (decide (z.natAbs / 2 ^ k ≠ 0 ∧ z.natAbs / 2 ^ k % 2 = 0) = true) := Lib.hid (decide_eq_true ⟨v2', v1.2 hlt⟩)
      have HV := Lib.hid v1; have HV2 := Lib.hid v2'; clear v1 v2'
      go_wp2_with fail
      refine (q3Even hNm HT.out).mono ?_; rintro ee w' ⟨rfl, rfl⟩; go_wp2
      go_region_with ((go_at_call 96; ((with_reducible refine (rShrP 1 hNm.rd.drew (by omega)).mono ?_); rintro ee w3 ⟨A3, n3, c3, rfl, h3, k3, B3⟩; clear x50 x51 r0 r1 r2 q0 q1 q2; replace X5 := X5.drew.below B3; replace XR := XR.drew.below B3; replace HB := Lib.hid (bt HB.out.drew B3); clear B3; have x50 := X5.cell0; have x51 := X5.cell1; have f50 := X5.frozen 0; have f51 := X5.frozen 1)))
      all_goals
        go_wp2
        go_roundw
        case rel =>
          refine ⟨k + 1, by omega, by go_num, val_int0 (by omega), s2, A3, n3, c3, X5.set _ _ _ _, ?_, by omega, (XR.far (by omega) 0 _).far (by omega) 1 _, hg, st2 HB.out (by omega) _ _⟩
          have e1 : z.natAbs / 2 ^ k / 2 ^ (1 : Int).toNat = z.natAbs / 2 ^ (k + 1) := by rw [Nat.div_div_eq_div_mul, ← Nat.pow_add]; rfl
          rw [e1] at h3; have hpos2 := (v2_step ha (i := k + 1) (by rw [HM.out]; omega)).2; refine ⟨by rw [sg_natAbs]; exact h3.st X5 _ _, ?_⟩
          rw [sg_lt, decide_eq_true (Nat.pos_of_ne_zero hpos2), Bool.and_true]; exact HG.out
        case measure => simp [intOf]; omega
    · obtain rfl : k = m := by omega
      have HT : Hid (decide (z.natAbs / 2 ^ k ≠ 0 ∧ z.natAbs / 2 ^ k % 2 = 0) = false) := Lib.hid (decide_eq_false (fun hh => absurd (v1.1 hh.2) hlt))
      clear v1 v2'
      by_cases hE : 4194304 < e + k
      · have e3 := mk_over (z := z) (e := e) (by rw [HM.out]; exact hE)
        have hN0 : N = 0 := by rw [← HN.out, e3]
        have hE0 : E = 0 := by rw [← HE.out, e3]
        subst hN0; subst hE0; clear e3
        go_wp2_with fail
        refine (q3Even hNm HT.out).mono ?_; rintro ee w' ⟨rfl, rfl⟩; go_wp2
        exact bodyPost_ret (v := .agg #[.bool false, .slice none 0 0, .int .i64 0]) (by simp [results, Tryz.results89, go_sem, r0, r1, r2]) rfl
          ⟨false, none, 0, 0, rfl, Wn.zero.st3 XR _ _ _ _ _ (by simp [no32]), Nat.zero_le _, st3 HB.out (by omega) _ _ _⟩
      · obtain ⟨e1, e2, e3, e4, e5⟩ := mk_in (z := z) (e := e) h0 h1 (by rw [HM.out]; omega)
        have HNE : Hid (sg (decide (z < 0)) (z.natAbs / 2 ^ k) = N) := Lib.hid (by
          rw [← HN.out]; rw [HM.out] at e2; rw [← e2]
          by_cases hz : z < 0
          · have := e3.2 hz
            simp [sg, hz]; omega
          · have : ¬ (mk z e).1 < 0 := fun h => hz (e3.1 h)
            simp [sg, hz]; omega)
        have hEE : E = e + k := by rw [← HE.out, e1, HM.out]
        subst hEE
        have hE2 : e + (k : Int) ≤ 4194304 := by omega
        have t3 : decide (4194304 < e + (k : Int)) = false := decide_eq_false hE
        clear e1 e2 e3 e4 e5 hE h0
        go_wp2_with fail
        refine (q3Even hNm HT.out).mono ?_; rintro ee w' ⟨rfl, rfl⟩; go_wp2
        exact bodyPost_ret (v := .agg #[.bool s2, .slice A2 p c2, .int .i64 (e + k)]) (by simp [results, Tryz.results89, go_sem, r0, r1, r2]) rfl
          ⟨s2, A2, p, c2, rfl, HNE.out ▸ hw.st3 XR _ _ _ _ _ (by simp [no32]), hp, st3 HB.out (by omega) _ _ _⟩
end Go.Proofs.YtpnmphofengoeaaGreatDoor
