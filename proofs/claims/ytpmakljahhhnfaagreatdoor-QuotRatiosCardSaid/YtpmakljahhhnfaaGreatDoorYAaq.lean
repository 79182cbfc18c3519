/-
  Contracts and words that the statement's proof rests on, several texts in one: Df, Ec, Ed, Js, Vn, Km, Ka, Kb.
-/
import Derived.Deep.DeepCutAuto
import Derived.Test.YtpmakljahhhnfaaGreatDoorYAab
import Derived.Test.YtpmakljahhhnfaaGreatDoorYAah
import Derived.Test.YtpmakljahhhnfaaGreatDoorYAai
import Derived.Test.YtpmakljahhhnfaaGreatDoorYAaj
import Derived.Test.YtpmakljahhhnfaaGreatDoorYAao
/-
  What pelorusref03.Two does: the sum of two.
-/
namespace Go.Proofs.YtpmakljahhhnfaaGreatDoor
open Go.RowKit
set_option linter.unusedVariables false

theorem Bx.far3 {w : World} {g : Nat} {s : Bool} {A : Option Addr} {n c : Nat} (h : Bx w g s A n c) {k : Nat} (hk : g ≠ k) (u v t : Value) : Bx (((w.setCell ⟨k, 0, none⟩ u).setCell ⟨k, 1, none⟩ v).setCell ⟨k, 2, none⟩ t) g s A n c :=
  h.keep (by rw [Below.heap_setCell _ _ _ _ hk, Below.heap_setCell _ _ _ _ hk, Below.heap_setCell _ _ _ _ hk])

end Go.Proofs.YtpmakljahhhnfaaGreatDoor

/-
  What dy.Make does.
-/
namespace Go.Proofs.YtpmakljahhhnfaaGreatDoor
open Go.RowKit
set_option linter.unusedVariables false
set_option maxRecDepth 100000

/-- The numbers' length by their greatness. -/
theorem Wn.len_le {w : World} {s : Bool} {A : Option Addr} {n c k : Nat} {z : Int} (h : Wn w s A n c z) (hz : z.natAbs < 4294967296 ^ k) : n ≤ k := by
  rw [← h.1.len]
  exact limbs_length_le hz

set_option maxHeartbeats 1000000 in
theorem dmake_out {w : World} {s : Bool} {A : Option Addr} {n c : Nat} {z e : Int} (h : Wr w s A n c z) (hc : inE e = false) :
    Calls Tryz.prog 96 #[.agg #[.bool s, .slice A n c], .int .i64 e] w (D1 w n 0 0) := by
  go_enter Tryz.func96, Tryz.ntmps96
  go_wp2_with fail
  have XR : Bo ((w.alloc (.cells #[.bool s, .slice A n c] 34)).alloc (.cells #[.bool false, .slice none 0 0, .int .i64 0] 51)) (w.heap.size + 1) #[.bool false, .slice none 0 0, .int .i64 0] 51 := Bo.newAt _ (by simp) _ _
  have HB := Lib.hid (bel2 w (.cells #[.bool s, .slice A n c] 34) (.cells #[.bool false, .slice none 0 0, .int .i64 0] 51))
  refine (dWithin hc).mono ?_
  rintro ee w1 ⟨rfl, B⟩
  replace XR := XR.below B
  replace HB := Lib.hid (bt HB.out B)
  clear B
  have r0 := XR.c0
  have r1 := XR.c1
  have r2 := XR.c2
  have q0 := XR.frozen 0
  have q1 := XR.frozen 1
  have q2 := XR.frozen 2
  go_wp2
  exact bodyPost_ret (v := .agg #[.bool false, .slice none 0 0, .int .i64 0]) (by simp [results, Tryz.results96, go_sem, r0, r1, r2]) rfl ⟨false, none, 0, 0, rfl, Wn.zero.st3 XR _ _ _ _ _ (by simp [no32]), Nat.zero_le _, st3 HB.out (by omega) _ _ _⟩

set_option maxHeartbeats 1000000 in
theorem dmake_zero {w : World} {s : Bool} {A : Option Addr} {n c : Nat} {e : Int} (h : Wr w s A n c 0) (hc : inE e = true) :
    Calls Tryz.prog 96 #[.agg #[.bool s, .slice A n c], .int .i64 e] w (D1 w n 0 0) := by
  go_enter Tryz.func96, Tryz.ntmps96
  go_wp2_with fail
  have XR : Bo ((w.alloc (.cells #[.bool s, .slice A n c] 34)).alloc (.cells #[.bool false, .slice none 0 0, .int .i64 0] 51)) (w.heap.size + 1) #[.bool false, .slice none 0 0, .int .i64 0] 51 := Bo.newAt _ (by simp) _ _
  have HB := Lib.hid (bel2 w (.cells #[.bool s, .slice A n c] 34) (.cells #[.bool false, .slice none 0 0, .int .i64 0] 51))
  have X2 : Bx ((w.alloc (.cells #[.bool s, .slice A n c] 34)).alloc (.cells #[.bool false, .slice none 0 0, .int .i64 0] 51)) w.heap.size s A n c := (Bx.new w s A n c).below (bel1 _ _)
  refine (dWithin hc).mono ?_
  rintro ee w1 ⟨rfl, B⟩
  replace XR := XR.below B
  replace X2 := X2.below B
  replace HB := Lib.hid (bt HB.out B)
  clear B
  have x0 := X2.cell0
  have x1 := X2.cell1
  go_wp2_with fail
  refine (wSign (r := 0) (h.below HB.out) (cmpI_eq rfl)).mono ?_
  rintro ee w2 ⟨rfl, B⟩
  replace XR := XR.below B
  replace HB := Lib.hid (bt HB.out B)
  clear B
  have r0 := XR.c0
  have r1 := XR.c1
  have r2 := XR.c2
  have q0 := XR.frozen 0
  have q1 := XR.frozen 1
  have q2 := XR.frozen 2
  go_wp2
  exact bodyPost_ret (v := .agg #[.bool false, .slice none 0 0, .int .i64 0]) (by simp [results, Tryz.results96, go_sem, r0, r1, r2]) rfl ⟨false, none, 0, 0, rfl, Wn.zero.st3 XR _ _ _ _ _ (by simp [no32]), Nat.zero_le _, st3 HB.out (by omega) _ _ _⟩

set_option maxHeartbeats 4000000 in
theorem dmake_in {w : World} {s : Bool} {A : Option Addr} {n c : Nat} {z e N E : Int} (hT : Tab w) (h : Wr w s A n c z) (hn : n ≤ 100000) (h0 : z ≠ 0) (hc : inE e = true) (HN : Hid ((mk z e).1 = N)) (HE : Hid ((mk z e).2 = E)) :
    Calls Tryz.prog 96 #[.agg #[.bool s, .slice A n c], .int .i64 e] w (D1 w n N E) := by
  have ha : z.natAbs ≠ 0 := by omega
  have hv : v2 z.natAbs < 3200001 := by
    have e1 := v2_pow_le ha
    have e2 := h.rd.bound
    rw [pow32] at e2
    have e3 := (Nat.pow_lt_pow_iff_right (a := 2) (by decide)).1 (Nat.lt_of_le_of_lt e1 e2)
    omega
  have hin : -4194304 ≤ e ∧ e ≤ 4194304 := by simpa [inE] using hc
  obtain ⟨hi1, hi2⟩ := hin
  have hs1 : (cmpI z 0 == 0) = false := by
    have := (cmpI_zero (x := z) (y := 0))
    have h2 : cmpI z 0 ≠ 0 := fun e => h0 (this.1 e)
    simpa using h2
  obtain ⟨sz, hsz⟩ : ∃ q, cmpI z 0 = q := ⟨_, rfl⟩
  rw [hsz] at hs1
  have hrd := h.rd
  have hsg := h.eq
  obtain ⟨m, hm⟩ : ∃ m, v2 z.natAbs = m := ⟨_, rfl⟩
  have HM := Lib.hid hm
  have hm1 : m < 3200001 := by omega
  have hw : IntKind.i64.wrap (e + m) = e + m := IntWalk.i64_in _ (by omega)
  have HW := Lib.hid hw
  clear hm hv hw
  go_enter Tryz.func96, Tryz.ntmps96
  go_wp2_with fail
  have X2 : Bx ((w.alloc (.cells #[.bool s, .slice A n c] 34)).alloc (.cells #[.bool false, .slice none 0 0, .int .i64 0] 51)) w.heap.size s A n c := (Bx.new w s A n c).below (bel1 _ _)
  have XR : Bo ((w.alloc (.cells #[.bool s, .slice A n c] 34)).alloc (.cells #[.bool false, .slice none 0 0, .int .i64 0] 51)) (w.heap.size + 1) #[.bool false, .slice none 0 0, .int .i64 0] 51 := Bo.newAt _ (by simp) _ _
  have HB := Lib.hid (bel2 w (.cells #[.bool s, .slice A n c] 34) (.cells #[.bool false, .slice none 0 0, .int .i64 0] 51))
  replace hT := hT.below HB.out
  replace hrd := hrd.below HB.out
  refine (dWithin hc).mono ?_
  rintro ee w1 ⟨rfl, B⟩
  replace X2 := X2.below B
  replace XR := XR.below B
  replace hT := hT.below B
  replace hrd := hrd.below B
  replace HB := Lib.hid (bt HB.out B)
  clear B
  have x0 := X2.cell0
  have x1 := X2.cell1
  go_wp2_with fail
  refine (wSign (h.below HB.out) hsz).mono ?_
  rintro ee w2 ⟨rfl, B⟩
  clear x0 x1
  replace X2 := X2.below B
  replace XR := XR.below B
  replace hT := hT.below B
  replace hrd := hrd.below B
  replace HB := Lib.hid (bt HB.out B)
  clear B h
  have x0 := X2.cell0
  have x1 := X2.cell1
  go_wp2_with fail
  refine (dTrailing hT hrd ha (congrArg _ HM.out)).mono ?_
  rintro ee w3 ⟨rfl, B⟩
  clear x0 x1
  replace X2 := X2.below B
  replace XR := XR.below B
  replace hrd := hrd.below B
  replace HB := Lib.hid (bt HB.out B)
  clear B
  have hw := HW.out
  by_cases hE : inE (e + m) = true
  · have hE2 : e + m ≤ 4194304 := by
      have : -4194304 ≤ e + m ∧ e + m ≤ 4194304 := by simpa [inE] using hE
      exact this.2
    go_wp2_with fail
    refine (dWithin hE).mono ?_
    rintro ee w4 ⟨rfl, B⟩
    replace X2 := X2.below B
    replace XR := XR.below B
    replace hrd := hrd.below B
    replace HB := Lib.hid (bt HB.out B)
    clear B
    have HNE : Hid (sg s (z.natAbs / 2 ^ m) = N ∧ s = decide (N < 0)) := Lib.hid (by
      obtain ⟨e1, e2, e3, e4, e5⟩ := mk_in (z := z) (e := e) h0 hi1 (by rw [HM.out]; exact hE2)
      rw [HN.out] at e2 e3 e4
      rw [HM.out] at e2
      have hs : s = decide (z < 0) := by
        rw [← hsg, sg_lt]
        have : decide (0 < z.natAbs) = true := decide_eq_true (by omega)
        rw [this, Bool.and_true]
      refine ⟨?_, by rw [hs, decide_eq_decide]; exact e3.symm⟩
      rw [← e2, hs]
      by_cases hz : z < 0
      · have := e3.2 hz
        simp [sg, hz]; omega
      · have : ¬ N < 0 := fun h => hz (e3.1 h)
        simp [sg, hz]; omega)
    have hEE : E = e + m := by
      rw [← HE.out, (mk_in (z := z) (e := e) h0 hi1 (by rw [HM.out]; exact hE2)).1, HM.out]
    subst hEE
    have d2 : w.heap.size ≠ w.heap.size + 1 := by omega
    have hdiv : z.natAbs / 2 ^ m = (z.natAbs / 2 ^ m) := rfl
    go_wp2
    go_region_held3 (fun w' => w'.cell? ⟨w.heap.size, 0, none⟩ = some (.bool s) ∧ w'.cell? ⟨w.heap.size, 1, none⟩ = some (.slice A n c)) (first | with_reducible exact ⟨X2.cell0, X2.cell1⟩ | with_reducible exact ⟨X2.drew.cell0, X2.drew.cell1⟩ | with_reducible exact ⟨(X2.far3 d2 _ _ _).cell0, (X2.far3 d2 _ _ _).cell1⟩)
      (first
        | (go_at_call 89; ((with_reducible refine (vShrN hrd.drew (by clear hw; omega) rfl).mono ?_); rintro ee w5 ⟨A5, n5, c5, rfl, p5, k5, B5⟩; replace X2 := X2.drew.below B5; replace XR := XR.drew.below B5; replace HB := Lib.hid (bt HB.out.drew B5); clear B5; have r0 := XR.c0; have r1 := XR.c1; have r2 := XR.c2; have q0 := XR.frozen 0; have q1 := XR.frozen 1; have q2 := XR.frozen 2)))
    clear hw
    go_wp2
    have hwn : Wn w5 s A5 n5 c5 N := by
      refine ⟨?_, HNE.out.2⟩
      rw [← HNE.out.1, sg_natAbs]
      exact p5
    exact bodyPost_ret (v := .agg #[.bool s, .slice A5 n5 c5, .int .i64 (e + m)]) (by simp [results, Tryz.results96, go_sem, r0, r1, r2]) rfl ⟨s, A5, n5, c5, rfl, hwn.st3 XR _ _ _ _ _ (by simp [no32]), k5, st3 HB.out (by omega) _ _ _⟩
  · have hE2 : inE (e + m) = false := by simpa using hE
    have e3 := mk_over (z := z) (e := e) (by
      rw [HM.out]
      have : ¬ (-4194304 ≤ e + m ∧ e + m ≤ 4194304) := by simpa [inE] using hE
      omega)
    have hN0 : N = 0 := by rw [← HN.out, e3]
    have hE0 : E = 0 := by rw [← HE.out, e3]
    subst hN0
    subst hE0
    clear e3
    go_wp2_with fail
    refine (dWithin hE2).mono ?_
    rintro ee w4 ⟨rfl, B⟩
    replace XR := XR.below B
    replace HB := Lib.hid (bt HB.out B)
    clear B
    have r0 := XR.c0
    have r1 := XR.c1
    have r2 := XR.c2
    have q0 := XR.frozen 0
    have q1 := XR.frozen 1
    have q2 := XR.frozen 2
    go_wp2
    exact bodyPost_ret (v := .agg #[.bool false, .slice none 0 0, .int .i64 0]) (by simp [results, Tryz.results96, go_sem, r0, r1, r2]) rfl ⟨false, none, 0, 0, rfl, Wn.zero.st3 XR _ _ _ _ _ (by simp [no32]), Nat.zero_le _, st3 HB.out (by omega) _ _ _⟩
theorem dMake {w : World} {s : Bool} {A : Option Addr} {n c : Nat} {z e N E : Int} (hT : Tab w) (h : Wr w s A n c z) (hn : n ≤ 100000) (hN : (mk z e).1 = N) (hE : (mk z e).2 = E) :
    Calls Tryz.prog 96 #[.agg #[.bool s, .slice A n c], .int .i64 e] w (D1 w n N E) := by
  by_cases hc : inE e = true
  · by_cases h0 : z = 0
    · subst h0
      rw [mk_zero] at hN hE
      subst hN
      subst hE
      exact dmake_zero h hc
    · exact dmake_in hT h hn h0 hc (Lib.hid hN) (Lib.hid hE)
  · have hm : mk z e = (0, 0) := by
      have : ¬ (-4194304 ≤ e ∧ e ≤ 4194304) := by simpa [inE] using hc
      by_cases h1 : e < -4194304
      · exact mk_low h1
      · exact mk_high (by omega)
    rw [hm] at hN hE
    subst hN
    subst hE
    exact dmake_out h (by simpa using hc)
end Go.Proofs.YtpmakljahhhnfaaGreatDoor

/-
  What dy.May, taken and Sign do.
-/
namespace Go.Proofs.YtpmakljahhhnfaaGreatDoor
open Go.RowKit
set_option linter.unusedVariables false
set_option maxRecDepth 100000

set_option maxHeartbeats 1000000 in
theorem dMay_zero {w : World} {A : Option Addr} {c a : Nat} {s : Bool} {e : Int} (h : Rd w A 0 c a) : Calls Tryz.prog 95 #[.agg #[.bool s, .slice A 0 c, .int .i64 e]] w (PB w (mayB s 0 a && (e == 0))) := by
  obtain ⟨μ, hμ⟩ : ∃ t, mayB s 0 a = t := ⟨_, rfl⟩
  have HM := Lib.hid hμ
  rw [hμ]
  clear hμ
  cases μ
  · go_enter Tryz.func95, Tryz.ntmps95
    go_wp2_with (first
      | (go_at_call 71; ((with_reducible refine (wMay (h.below (bel1 _ _)) HM.out).mono ?_); rintro ee w1 ⟨rfl, B1⟩; obtain ⟨hc, hf⟩ := bcell B1)))
    go_ret
    exact ⟨rfl, bt (bel1 _ _) B1⟩
  · go_enter Tryz.func95, Tryz.ntmps95
    go_wp2_with (first
      | (go_at_call 71; ((with_reducible refine (wMay (h.below (bel1 _ _)) HM.out).mono ?_); rintro ee w1 ⟨rfl, B1⟩; obtain ⟨hc, hf⟩ := bcell B1)))
    go_ret
    exact ⟨rfl, bt (bel1 _ _) B1⟩

set_option maxHeartbeats 1000000 in
theorem dMay_pos {w : World} {A : Option Addr} {n c a : Nat} {s : Bool} {e : Int} (h : Rd w A n c a) (hn : 0 < n) : Calls Tryz.prog 95 #[.agg #[.bool s, .slice A n c, .int .i64 e]] w (PB w (mayB s n a && ((((a % 4294967296 : Nat) : Int) % 2 == 1) && (decide (-4194304 ≤ e) && decide (e ≤ 4194304))))) := by
  obtain ⟨μ, hμ⟩ : ∃ t, mayB s n a = t := ⟨_, rfl⟩
  have HM := Lib.hid hμ
  rw [hμ]
  have hbig := h.big
  have hq : ((n : Int) == 0) = false := by have : (n : Int) ≠ 0 := by omega
                                           simpa using this
  obtain ⟨b, xs, hs, hv⟩ := id h
  have hcap := hs.cap
  have hlt := hs.lt hn
  obtain ⟨o, rfl, hcell⟩ := hs.at hn
  have hck := hcell 0 hn
  have hx : xs.getD 0 0 = a % 4294967296 := by
    have hl := hs.len
    match xs, hl with
    | [], hl => exfalso; simp at hl; omega
    | y :: ys, _ =>
      have := hs.lim.head
      rw [← hv, val_cons]
      simp
      omega
  rw [hx, Nat.add_zero] at hck
  have hm32 : a % 4294967296 < 4294967296 := Nat.mod_lt _ (by decide)
  clear hcell hμ hx hv hs
  revert hck hm32
  generalize a % 4294967296 = y
  intro hck hm32
  have hne : b ≠ w.heap.size := by omega
  have hbl : b < (w.alloc (.cells #[.bool s, .slice (some ⟨b, o, none⟩) n c, .int .i64 e] 51)).heap.size := by simp; omega
  have hodd : (y : Int) % 2 = 0 ∨ (y : Int) % 2 = 1 := by omega
  have hand : bits BinOp.and IntKind.u32 (y : Int) 1 = (y : Int) % 2 := by
    have := u32_and_nat y 1 hm32 (by decide)
    rw [Nat.and_one_is_mod] at this
    simpa using this
  cases μ
  · go_enter Tryz.func95, Tryz.ntmps95
    go_wp2_with (first
      | (go_at_call 71; ((with_reducible refine (wMay (h.below (bel1 _ _)) HM.out).mono ?_); rintro ee w1 ⟨rfl, B1⟩; obtain ⟨hc, hf⟩ := bcell B1)))
    go_ret
    exact ⟨rfl, bt (bel1 _ _) B1⟩
  · rcases hodd with ho | ho
    · have hoo : ((y : Int) % 2 == 1) = false := by rw [ho]; rfl
      rw [ho] at hand
      clear ho
      rw [hoo]
      clear hoo
      go_enter Tryz.func95, Tryz.ntmps95
      go_wp2_with (first
        | (go_at_call 71; ((with_reducible refine (wMay (h.below (bel1 _ _)) HM.out).mono ?_); rintro ee w1 ⟨rfl, B1⟩; obtain ⟨hc, hf⟩ := bcell B1)))
      go_ret
      exact ⟨rfl, bt (bel1 _ _) B1⟩
    · have hoo : ((y : Int) % 2 == 1) = true := by rw [ho]; rfl
      rw [ho] at hand
      clear ho
      rw [hoo]
      clear hoo
      obtain ⟨i, hi⟩ : ∃ i, inE e = i := ⟨_, rfl⟩
      have hie : (decide (-4194304 ≤ e) && decide (e ≤ 4194304)) = i := hi
      rw [hie]
      clear hie
      go_enter Tryz.func95, Tryz.ntmps95
      go_wp2_with (first
        | (go_at_call 71; ((with_reducible refine (wMay (h.below (bel1 _ _)) HM.out).mono ?_); rintro ee w1 ⟨rfl, B1⟩; obtain ⟨hc, hf⟩ := bcell B1))
        | (go_at_call 113; ((with_reducible refine (dWithin hi).mono ?_); rintro ee w2 ⟨rfl, B2⟩)))
      go_ret
      exact ⟨rfl, bt (bel1 _ _) (bt B1 B2)⟩
theorem dMay {w : World} {A : Option Addr} {n c a : Nat} {s : Bool} {e : Int} {r : Bool} (h : Rd w A n c a) (hr : mayD s n a e = r) : Calls Tryz.prog 95 #[.agg #[.bool s, .slice A n c, .int .i64 e]] w (PB w r) := by
  subst hr
  unfold mayD
  rcases Nat.eq_zero_or_pos n with e0 | e0
  · subst e0
    simpa using dMay_zero (e := e) h
  · rw [if_neg (by omega)]
    exact dMay_pos h e0

/-- A number that may be is what Make makes of its parts. -/
theorem mayD_true {w : World} {s : Bool} {A : Option Addr} {n c : Nat} {z e : Int} (h : Wr w s A n c z) (hm : mayD s n z.natAbs e = true) : Wn w s A n c z ∧ mk z e = (z, e) := by
  have hsg := h.eq
  obtain ⟨b, xs, hs, hv⟩ := h.rd
  unfold mayD mayB at hm
  simp only [Bool.and_eq_true, decide_eq_true_eq, Bool.or_eq_true, Bool.not_eq_true'] at hm
  obtain ⟨⟨hl, hs1⟩, he⟩ := hm
  have hx : xs = limbs z.natAbs := by
    have h1 := limbs_prefix hs.lim
    rw [hv, hl, List.take_of_length_le (by rw [hs.len]; omega)] at h1
    exact h1
  have hN : Nm w A n c z.natAbs := ⟨b, hx ▸ hs⟩
  rcases Nat.eq_zero_or_pos n with e0 | e0
  · have hz : z.natAbs = 0 := by have := hN.pos; omega
    obtain rfl : z = 0 := by omega
    rw [if_pos e0] at he
    obtain rfl : e = 0 := by simpa using he
    have : s = false := by
      rcases hs1 with h1 | h1
      · omega
      · exact h1
    subst this
    exact ⟨⟨hN, rfl⟩, mk_zero 0⟩
  · rw [if_neg (by omega)] at he
    simp only [Bool.and_eq_true, beq_iff_eq, decide_eq_true_eq] at he
    obtain ⟨ho, h1, h2⟩ := he
    have hz : z.natAbs ≠ 0 := by have := hN.pos; omega
    have hodd : z.natAbs % 2 = 1 := by omega
    refine ⟨⟨hN, ?_⟩, ?_⟩
    · have := sg_lt s z.natAbs
      rw [hsg] at this
      rw [this, decide_eq_true (by omega : 0 < z.natAbs), Bool.and_true]
    · have hv2 := v2_odd hodd
      obtain ⟨e1, e2, e3, e4, e5⟩ := mk_in (z := z) (e := e) (by omega) h1 (by rw [hv2]; simpa using h2)
      rw [hv2] at e1 e5
      apply Prod.ext
      · simpa using e5.symm
      · simpa using e1

end Go.Proofs.YtpmakljahhhnfaaGreatDoor

/-
  Facts of values for the joint rule: whole numbers, limbs, numbers times powers of two; and what a store into a box leaves.
-/
namespace Go.Proofs.YtpmakljahhhnfaaGreatDoor
open Go.RowKit
set_option linter.unusedVariables false

def Jo.Fact.wn (z : Int) (K : Nat) : Jo.Fact := ⟨fun v w => ∃ s A n c, v = .agg #[.bool s, .slice A n c] ∧ Wn w s A n c z ∧ n ≤ K, fun v w w' h b => by
  obtain ⟨s, A, n, c, e, h, k⟩ := h
  exact ⟨s, A, n, c, e, h.below b, k⟩⟩
def Jo.Fact.nm (a K : Nat) : Jo.Fact := ⟨fun v w => ∃ A n c, v = .slice A n c ∧ Nm w A n c a ∧ n ≤ K, fun v w w' h b => by
  obtain ⟨A, n, c, e, h, k⟩ := h
  exact ⟨A, n, c, e, h.below b, k⟩⟩
def Jo.Fact.dy (N E : Int) (K : Nat) : Jo.Fact := ⟨fun v w => ∃ s A n c, v = .agg #[.bool s, .slice A n c, .int .i64 E] ∧ Wn w s A n c N ∧ n ≤ K, fun v w w' h b => by
  obtain ⟨s, A, n, c, e, h, k⟩ := h
  exact ⟨s, A, n, c, e, h.below b, k⟩⟩
def Jo.Fact.wl (K n : Nat) (zs : List Int) : Jo.Fact := ⟨fun v w => ∃ A c, v = .slice A n c ∧ Wl w A n c K zs, fun v w w' h b => by
  obtain ⟨A, c, e, h⟩ := h
  exact ⟨A, c, e, h.below b⟩⟩

theorem Bo.at {w : World} {g : Nat} {cs : Array Value} {T : TypeId} (h : Bo w g cs T) {i : Nat} {v : Value} (e : cs[i]? = some v) : w.cell? ⟨g, i, none⟩ = some v := (h.cell i).trans e

/-- No cell is a table's byte. -/
def no8 (v : Value) : Bool := match v with
  | .int .u8 _ => false
  | _ => true
/-- The box g is stored anew, nothing else. -/
def StN (w w' : World) (g : Nat) (old new : Array Value) (T : TypeId) : Prop :=
  Bo w g old T ∧ Bo w' g new T ∧ (∀ k, k ≠ g → w'.heap[k]? = w.heap[k]?) ∧ ∀ B a, B ≤ g → Below B a w → Below B a w'
section
variable {w w' : World} {g : Nat} {old new : Array Value} {T : TypeId}
theorem StN.box (S : StN w w' g old new T) : Bo w' g new T := S.2.1
theorem StN.mk3 {a b c : Value} (X : Bo w g #[a, b, c] T) (u v t : Value) : StN w (((w.setCell ⟨g, 0, none⟩ u).setCell ⟨g, 1, none⟩ v).setCell ⟨g, 2, none⟩ t) g #[a, b, c] #[u, v, t] T :=
  ⟨X, by simpa using ((X.set 0 u).set 1 v).set 2 t, fun k hk => by rw [Below.heap_setCell _ _ _ _ hk, Below.heap_setCell _ _ _ _ hk, Below.heap_setCell _ _ _ _ hk], fun B a hg h => st3 h hg u v t⟩
theorem StN.mk2 {a b : Value} (X : Bo w g #[a, b] T) (u v : Value) : StN w ((w.setCell ⟨g, 0, none⟩ u).setCell ⟨g, 1, none⟩ v) g #[a, b] #[u, v] T :=
  ⟨X, by simpa using (X.set 0 u).set 1 v, fun k hk => by rw [Below.heap_setCell _ _ _ _ hk, Below.heap_setCell _ _ _ _ hk], fun B a hg h => st2 h hg u v⟩
theorem StN.below (S : StN w w' g old new T) {B : Nat} {a : World} (h : Below B a w) (hg : B ≤ g) : Below B a w' := S.2.2.2 B a hg h
theorem Bo.stn {k : Nat} {cs : Array Value} {R : TypeId} (X : Bo w k cs R) (S : StN w w' g old new T) (h : k ≠ g) : Bo w' k cs R := X.keep (S.2.2.1 k h)
theorem sl_stn {b : Nat} {B : Option Addr} {m d : Nat} {xs : List Nat} (h : Sl w b B m d xs) (S : StN w w' g old new T) (hn : old.all no32 = true) : Sl w' b B m d xs :=
  h.keep fun hm => S.2.2.1 _ (fun e => by
    obtain ⟨o, _, hc⟩ := h.at hm
    have := hc 0 hm
    rw [e] at this
    exact S.1.no hn this)
theorem Nm.stn {B : Option Addr} {m d a : Nat} (h : Nm w B m d a) (S : StN w w' g old new T) (hn : old.all no32 = true) : Nm w' B m d a := by
  obtain ⟨b, h⟩ := h
  exact ⟨b, sl_stn h S hn⟩
theorem Rd.stn {B : Option Addr} {m d a : Nat} (h : Rd w B m d a) (S : StN w w' g old new T) (hn : old.all no32 = true) : Rd w' B m d a := by
  obtain ⟨b, xs, h, e⟩ := h
  exact ⟨b, xs, sl_stn h S hn, e⟩
theorem Wn.stn {s : Bool} {B : Option Addr} {m d : Nat} {z : Int} (h : Wn w s B m d z) (S : StN w w' g old new T) (hn : old.all no32 = true) : Wn w' s B m d z := ⟨h.1.stn S hn, h.2⟩
theorem Wr.stn {s : Bool} {B : Option Addr} {m d : Nat} {z : Int} (h : Wr w s B m d z) (S : StN w w' g old new T) (hn : old.all no32 = true) : Wr w' s B m d z := by
  obtain ⟨a, h, e⟩ := h
  exact ⟨a, h.stn S hn, e⟩
theorem Tab.stn (h : Tab w) (S : StN w w' g old new T) (hn : old.all no8 = true) : Tab w' := h.keep (S.2.2.1 _ (fun e => by
  have h0 := h 0 (by decide)
  subst e
  rw [S.1.cell] at h0
  rw [Array.all_eq_true] at hn
  obtain ⟨hlt, he⟩ := Array.getElem?_eq_some_iff.1 h0
  have := hn 0 hlt
  rw [he] at this
  cases this))
end
end Go.Proofs.YtpmakljahhhnfaaGreatDoor
namespace Go.Proofs.YtpmakljahhhnfaaGreatDoor
open Go.RowKit
theorem Bo.a {w : World} {g : Nat} {cs : Array Value} {T : TypeId} (h : Bo w g cs T) (i : Nat) (v : Value) (e : cs[i]? = some v) : w.cell? ⟨g, i, none⟩ = some v := h.at e
end Go.Proofs.YtpmakljahhhnfaaGreatDoor

/-
  Order and floor of numbers times powers of two, in plain arithmetic; lists of such numbers in memory.
-/
namespace Go.Proofs.YtpmakljahhhnfaaGreatDoor
open Go.RowKit
set_option linter.unusedVariables false

theorem vl_natAbs (p : Int × Int) : (vl p).natAbs = p.1.natAbs * 2 ^ (p.2 + KK).toNat := natAbs_mul_pow _ _
end Go.Proofs.YtpmakljahhhnfaaGreatDoor

/-
  The row of all numbers of 64 bits: which place in it a number has, and what follows of the order. Plain arithmetic; no Go text.
-/
namespace Go.Proofs.YtpmakljahhhnfaaGreatDoor
open Go.RowKit
set_option linter.unusedVariables false

/-- The place of the infinite one above. -/
def TP : Int := 19342822337206103650074625
theorem TP_eq : TP = 19342822337206103650074625 := rfl
/-- It is one of the numbers. -/
def MayQ (K : Int) (s : Bool) (M E : Int) : Prop := (K = 0 ∧ s = false ∧ M = 0 ∧ E = 0) ∨ (K = 1 ∧ 9223372036854775808 ≤ M ∧ -1048576 ≤ E ∧ E ≤ 1048576) ∨ (K = 2 ∧ M = 0 ∧ E = 0)
instance (K : Int) (s : Bool) (M E : Int) : Decidable (MayQ K s M E) := by unfold MayQ; infer_instance
/-- The place, without the sign. -/
def plc (K M E : Int) : Int := if K = 0 then 0 else if K = 1 then M - 9223372036854775808 + 1 + (E + 1048576) * 9223372036854775808 else TP
def sgi (s : Bool) (x : Int) : Int := if s = true then -x else x
/-- The place of what it is taken for. -/
def rk (K : Int) (s : Bool) (M E : Int) : Int := if MayQ K s M E then sgi s (plc K M E) else 0
/-- One of the numbers, and its place. -/
def Fq (K : Int) (s : Bool) (M E r : Int) : Prop := MayQ K s M E ∧ M < 18446744073709551616 ∧ sgi s (plc K M E) = r

theorem Fq.cases {K : Int} {s : Bool} {M E r : Int} (h : Fq K s M E r) : (K = 0 ∧ s = false ∧ M = 0 ∧ E = 0 ∧ r = 0) ∨ (K = 1 ∧ 9223372036854775808 ≤ M ∧ M < 18446744073709551616 ∧ -1048576 ≤ E ∧ E ≤ 1048576 ∧ ((s = false ∧ r = M - 9223372036854775808 + 1 + (E + 1048576) * 9223372036854775808) ∨ (s = true ∧ -r = M - 9223372036854775808 + 1 + (E + 1048576) * 9223372036854775808)))
    ∨ (K = 2 ∧ M = 0 ∧ E = 0 ∧ ((s = false ∧ r = 19342822337206103650074625) ∨ (s = true ∧ r = -19342822337206103650074625))) := by
  obtain ⟨h1, h2, h3⟩ := h
  rcases h1 with ⟨rfl, rfl, rfl, rfl⟩ | ⟨rfl, h4, h5, h6⟩ | ⟨rfl, rfl, rfl⟩
  · left
    exact ⟨rfl, rfl, rfl, rfl, by rw [← h3]; rfl⟩
  · right; left
    refine ⟨rfl, h4, h2, h5, h6, ?_⟩
    cases s
    · left
      exact ⟨rfl, h3.symm⟩
    · right
      have h3' : -(M - 9223372036854775808 + 1 + (E + 1048576) * 9223372036854775808) = r := h3
      exact ⟨rfl, by rw [← h3', Int.neg_neg]⟩
  · right; right
    refine ⟨rfl, rfl, rfl, ?_⟩
    cases s
    · left
      exact ⟨rfl, h3.symm⟩
    · right
      exact ⟨rfl, h3.symm⟩
theorem Fq.fin {s : Bool} {M E r : Int} (h1 : 9223372036854775808 ≤ M) (h2 : M < 18446744073709551616) (h3 : -1048576 ≤ E) (h4 : E ≤ 1048576) (hr : sgi s (M - 9223372036854775808 + 1 + (E + 1048576) * 9223372036854775808) = r) : Fq 1 s M E r :=
  ⟨Or.inr (Or.inl ⟨rfl, h1, h3, h4⟩), h2, hr⟩
theorem Fq.nought : Fq 0 false 0 0 0 := ⟨Or.inl ⟨rfl, rfl, rfl, rfl⟩, by decide, rfl⟩
theorem Fq.inf (s : Bool) : Fq 2 s 0 0 (sgi s TP) := ⟨Or.inr (Or.inr ⟨rfl, rfl, rfl⟩), by decide, rfl⟩
theorem Fq.uniq {K K' : Int} {s s' : Bool} {M M' E E' r : Int} (h : Fq K s M E r) (k : Fq K' s' M' E' r) : K = K' ∧ s = s' ∧ M = M' ∧ E = E' := by
  rcases h.cases with ⟨rfl, rfl, rfl, rfl, h0⟩ | ⟨rfl, h1, h2, h3, h4, ⟨rfl, h5⟩ | ⟨rfl, h5⟩⟩ | ⟨rfl, rfl, rfl, ⟨rfl, h5⟩ | ⟨rfl, h5⟩⟩ <;>
    rcases k.cases with ⟨rfl, rfl, rfl, rfl, k0⟩ | ⟨rfl, k1, k2, k3, k4, ⟨rfl, k5⟩ | ⟨rfl, k5⟩⟩ | ⟨rfl, rfl, rfl, ⟨rfl, k5⟩ | ⟨rfl, k5⟩⟩ <;>
    first | exact ⟨rfl, rfl, rfl, rfl⟩ | (exfalso; omega) | exact ⟨rfl, rfl, by omega, by omega⟩
theorem Fq.bd {K : Int} {s : Bool} {M E r : Int} (h : Fq K s M E r) : -19342822337206103650074625 ≤ r ∧ r ≤ 19342822337206103650074625 := by
  rcases h.cases with ⟨rfl, rfl, rfl, rfl, h0⟩ | ⟨rfl, h1, h2, h3, h4, ⟨rfl, h5⟩ | ⟨rfl, h5⟩⟩ | ⟨rfl, rfl, rfl, ⟨rfl, h5⟩ | ⟨rfl, h5⟩⟩ <;> omega
theorem Fq.top {K : Int} {s : Bool} {M E r : Int} (h : Fq K s M E r) : M < 18446744073709551616 := h.2.1
theorem Fq.rk {K : Int} {s : Bool} {M E r : Int} (h : Fq K s M E r) : rk K s M E = r := by
  unfold Go.Proofs.YtpmakljahhhnfaaGreatDoor.rk
  rw [if_pos h.1]
  exact h.2.2
theorem rk_not {K : Int} {s : Bool} {M E : Int} (h : ¬ MayQ K s M E) : rk K s M E = 0 := by
  unfold rk
  rw [if_neg h]
theorem rk_fq {K : Int} {s : Bool} {M E : Int} (hM : M < 18446744073709551616) (h : MayQ K s M E) : Fq K s M E (rk K s M E) := ⟨h, hM, by unfold rk; rw [if_pos h]⟩
/-- Which of two numbers of one sign is farther from nought. -/
def fa (K M E K' M' E' : Int) : Int := if K ≠ K' then cmpI K K' else if E ≠ E' then cmpI E E' else cmpI M M'
theorem cmpI_tri (x y : Int) : (x < y ∧ cmpI x y = -1) ∨ (x = y ∧ cmpI x y = 0) ∨ (y < x ∧ cmpI x y = 1) := by
  unfold cmpI
  by_cases h1 : x < y
  · rw [if_pos h1]; exact Or.inl ⟨h1, rfl⟩
  · by_cases h2 : y < x
    · rw [if_neg h1, if_pos h2]; exact Or.inr (Or.inr ⟨h2, rfl⟩)
    · rw [if_neg h1, if_neg h2]; exact Or.inr (Or.inl ⟨by omega, rfl⟩)
theorem Fq.plc {K : Int} {s : Bool} {M E r : Int} (h : Fq K s M E r) (hK : K ≠ 0) : (K = 1 ∧ 9223372036854775808 ≤ M ∧ M < 18446744073709551616 ∧ -1048576 ≤ E ∧ E ≤ 1048576 ∧ plc K M E = M - 9223372036854775808 + 1 + (E + 1048576) * 9223372036854775808) ∨ (K = 2 ∧ M = 0 ∧ E = 0 ∧ plc K M E = 19342822337206103650074625) := by
  obtain ⟨h1, h2, h3⟩ := h
  rcases h1 with ⟨rfl, rfl, rfl, rfl⟩ | ⟨rfl, h4, h5, h6⟩ | ⟨rfl, rfl, rfl⟩
  · exact absurd rfl hK
  · exact Or.inl ⟨rfl, h4, h2, h5, h6, rfl⟩
  · exact Or.inr ⟨rfl, rfl, rfl, rfl⟩
theorem plc_pos {K : Int} {s : Bool} {M E r : Int} (h : Fq K s M E r) (hK : K ≠ 0) : 0 < plc K M E := by
  rcases h.plc hK with ⟨rfl, h1, h2, h3, h4, h5⟩ | ⟨rfl, rfl, rfl, h5⟩ <;> rw [h5] <;> omega
theorem Fq.zero_iff {K : Int} {s : Bool} {M E r : Int} (h : Fq K s M E r) : K = 0 ↔ r = 0 := by
  rcases h.cases with ⟨rfl, rfl, rfl, rfl, h0⟩ | ⟨rfl, h1, h2, h3, h4, ⟨rfl, h5⟩ | ⟨rfl, h5⟩⟩ | ⟨rfl, rfl, rfl, ⟨rfl, h5⟩ | ⟨rfl, h5⟩⟩ <;> constructor <;> intro _ <;> omega
/-- The next place. -/
def nx (up : Bool) (r : Int) : Int := if up = true then min TP (r + 1) else max (-TP) (r - 1)
end Go.Proofs.YtpmakljahhhnfaaGreatDoor

/-
  What num.May does, and the document's.
-/
namespace Go.Proofs.YtpmakljahhhnfaaGreatDoor
open Go.RowKit
set_option linter.unusedVariables false

theorem StN.mk4 {w : World} {g : Nat} {T : TypeId} {a b c d : Value} (X : Bo w g #[a, b, c, d] T) (u v t x : Value) : StN w ((((w.setCell ⟨g, 0, none⟩ u).setCell ⟨g, 1, none⟩ v).setCell ⟨g, 2, none⟩ t).setCell ⟨g, 3, none⟩ x) g #[a, b, c, d] #[u, v, t, x] T :=
  ⟨X, by simpa using (((X.set 0 u).set 1 v).set 2 t).set 3 x, fun k hk => by rw [Below.heap_setCell _ _ _ _ hk, Below.heap_setCell _ _ _ _ hk, Below.heap_setCell _ _ _ _ hk, Below.heap_setCell _ _ _ _ hk], fun B a hg h => below_store (st3 h hg u v t) hg 3 x⟩
theorem StN.at4 {w : World} {g : Nat} {T : TypeId} {cs : Array Value} (X : Bo w g cs T) (i : Nat) (v : Value) : StN w (w.setCell ⟨g, i, none⟩ v) g cs (cs.setIfInBounds i v) T :=
  ⟨X, X.set i v, fun k hk => Below.heap_setCell _ _ _ _ hk, fun B a hg h => below_store h hg i v⟩
theorem mayQ0 {s : Bool} {M E : Int} : decide (MayQ 0 s M E) = ((s == false) && ((M == 0) && (E == 0))) := by
  unfold MayQ
  rw [Bool.eq_iff_iff]
  simp
theorem mayQ1 {s : Bool} {M E : Int} : decide (MayQ 1 s M E) = (decide (9223372036854775808 ≤ M) && (decide (-1048576 ≤ E) && decide (E ≤ 1048576))) := by
  unfold MayQ
  rw [Bool.eq_iff_iff]
  simp
theorem mayQ2 {s : Bool} {M E : Int} : decide (MayQ 2 s M E) = ((M == 0) && (E == 0)) := by
  unfold MayQ
  rw [Bool.eq_iff_iff]
  simp
theorem mayQ3 {K : Int} {s : Bool} {M E : Int} (h0 : K ≠ 0) (h1 : K ≠ 1) (h2 : K ≠ 2) : decide (MayQ K s M E) = false := by
  unfold MayQ
  simp [h0, h1, h2]
set_option maxHeartbeats 1000000 in
theorem nMay {w : World} {K M E : Int} {s : Bool} {r : Bool} (hr : decide (MayQ K s M E) = r) : Calls Tryz.prog 9 #[.agg #[.int .i64 K, .bool s, .int .u64 M, .int .i64 E]] w (PB w r) := by
  subst hr
  by_cases h0 : K = 0
  · subst h0
    rw [mayQ0]
    go_enter Tryz.func9, Tryz.ntmps9
    go_wp2
    all_goals go_ret
    all_goals exact ⟨by simp_all, bel1 _ _⟩
  by_cases h1 : K = 1
  · subst h1
    rw [mayQ1]
    by_cases c1 : 9223372036854775808 ≤ M
    · have e1 : decide (9223372036854775808 ≤ M) = true := decide_eq_true c1
      by_cases c2 : -1048576 ≤ E
      · have e2 : decide (-1048576 ≤ E) = true := decide_eq_true c2
        by_cases c3 : E ≤ 1048576
        · have e3 : decide (E ≤ 1048576) = true := decide_eq_true c3
          rw [e1, e2, e3]
          go_enter Tryz.func9, Tryz.ntmps9
          go_wp2
          go_ret
          exact ⟨rfl, bel1 _ _⟩
        · have e3 : decide (E ≤ 1048576) = false := decide_eq_false c3
          rw [e1, e2, e3]
          go_enter Tryz.func9, Tryz.ntmps9
          go_wp2
          go_ret
          exact ⟨rfl, bel1 _ _⟩
      · have e2 : decide (-1048576 ≤ E) = false := decide_eq_false c2
        rw [e1, e2]
        go_enter Tryz.func9, Tryz.ntmps9
        go_wp2
        go_ret
        exact ⟨rfl, bel1 _ _⟩
    · have e1 : decide (9223372036854775808 ≤ M) = false := decide_eq_false c1
      rw [e1]
      go_enter Tryz.func9, Tryz.ntmps9
      go_wp2
      go_ret
      exact ⟨rfl, bel1 _ _⟩
  by_cases h2 : K = 2
  · subst h2
    rw [mayQ2]
    by_cases c1 : M = 0
    · subst c1
      by_cases c2 : E = 0
      · subst c2
        go_enter Tryz.func9, Tryz.ntmps9
        go_wp2
        go_ret
        exact ⟨rfl, bel1 _ _⟩
      · have e2 : (E == 0) = false := by simpa using c2
        rw [e2]
        go_enter Tryz.func9, Tryz.ntmps9
        go_wp2
        go_ret
        exact ⟨rfl, bel1 _ _⟩
    · have e1 : (M == 0) = false := by simpa using c1
      rw [e1]
      go_enter Tryz.func9, Tryz.ntmps9
      go_wp2
      go_ret
      exact ⟨rfl, bel1 _ _⟩
  · rw [mayQ3 h0 h1 h2]
    have e0 : (K == 0) = false := by simpa using h0
    have e1 : (K == 1) = false := by simpa using h1
    have e2 : (K == 2) = false := by simpa using h2
    go_enter Tryz.func9, Tryz.ntmps9
    go_wp2
    go_ret
    exact ⟨rfl, bel1 _ _⟩
set_option maxHeartbeats 1000000 in
theorem yMay {w : World} {K M E : Int} {s : Bool} {r : Bool} (hr : decide (MayQ K s M E) = r) : Calls Tryz.prog 56 #[.agg #[.int .i64 K, .bool s, .int .u64 M, .int .i64 E]] w (PB w r) := by
  subst hr
  by_cases h0 : K = 0
  · subst h0
    rw [mayQ0]
    go_enter Tryz.func56, Tryz.ntmps56
    go_wp2
    all_goals go_ret
    all_goals exact ⟨by simp_all, bel1 _ _⟩
  by_cases h1 : K = 1
  · subst h1
    rw [mayQ1]
    by_cases c1 : 9223372036854775808 ≤ M
    · have e1 : decide (9223372036854775808 ≤ M) = true := decide_eq_true c1
      by_cases c2 : -1048576 ≤ E
      · have e2 : decide (-1048576 ≤ E) = true := decide_eq_true c2
        by_cases c3 : E ≤ 1048576
        · have e3 : decide (E ≤ 1048576) = true := decide_eq_true c3
          rw [e1, e2, e3]
          go_enter Tryz.func56, Tryz.ntmps56
          go_wp2
          go_ret
          exact ⟨rfl, bel1 _ _⟩
        · have e3 : decide (E ≤ 1048576) = false := decide_eq_false c3
          rw [e1, e2, e3]
          go_enter Tryz.func56, Tryz.ntmps56
          go_wp2
          go_ret
          exact ⟨rfl, bel1 _ _⟩
      · have e2 : decide (-1048576 ≤ E) = false := decide_eq_false c2
        rw [e1, e2]
        go_enter Tryz.func56, Tryz.ntmps56
        go_wp2
        go_ret
        exact ⟨rfl, bel1 _ _⟩
    · have e1 : decide (9223372036854775808 ≤ M) = false := decide_eq_false c1
      rw [e1]
      go_enter Tryz.func56, Tryz.ntmps56
      go_wp2
      go_ret
      exact ⟨rfl, bel1 _ _⟩
  by_cases h2 : K = 2
  · subst h2
    rw [mayQ2]
    by_cases c1 : M = 0
    · subst c1
      by_cases c2 : E = 0
      · subst c2
        go_enter Tryz.func56, Tryz.ntmps56
        go_wp2
        go_ret
        exact ⟨rfl, bel1 _ _⟩
      · have e2 : (E == 0) = false := by simpa using c2
        rw [e2]
        go_enter Tryz.func56, Tryz.ntmps56
        go_wp2
        go_ret
        exact ⟨rfl, bel1 _ _⟩
    · have e1 : (M == 0) = false := by simpa using c1
      rw [e1]
      go_enter Tryz.func56, Tryz.ntmps56
      go_wp2
      go_ret
      exact ⟨rfl, bel1 _ _⟩
  · rw [mayQ3 h0 h1 h2]
    have e0 : (K == 0) = false := by simpa using h0
    have e1 : (K == 1) = false := by simpa using h1
    have e2 : (K == 2) = false := by simpa using h2
    go_enter Tryz.func56, Tryz.ntmps56
    go_wp2
    go_ret
    exact ⟨rfl, bel1 _ _⟩
end Go.Proofs.YtpmakljahhhnfaaGreatDoor

/-
  What num.taken, Infinite, tiny, huge, Sign, Neg do, and the document's fair, Infinite, Sign, Neg.
-/
namespace Go.Proofs.YtpmakljahhhnfaaGreatDoor
open Go.RowKit
set_option linter.unusedVariables false
set_option linter.unusedSimpArgs false
set_option maxRecDepth 100000

/-- A number is answered, whose place is r. -/
def PN (w : World) (r : Int) (e : Ending) (w' : World) : Prop := ∃ D s M E, e = .returned (.agg #[.int .i64 D, .bool s, .int .u64 M, .int .i64 E]) ∧ Fq D s M E r ∧ Below w.heap.size w w'
theorem Fq.three {D : Int} {s : Bool} {M E r : Int} (h : Fq D s M E r) : (D = 0 ∧ r = 0) ∨ (D ≠ 0 ∧ s = false ∧ 0 < r) ∨ (D ≠ 0 ∧ s = true ∧ r < 0) := by
  rcases h.cases with ⟨rfl, rfl, rfl, rfl, h0⟩ | ⟨rfl, h1, h2, h3, h4, ⟨rfl, h5⟩ | ⟨rfl, h5⟩⟩ | ⟨rfl, rfl, rfl, ⟨rfl, h5⟩ | ⟨rfl, h5⟩⟩
  · exact Or.inl ⟨rfl, h0⟩
  · exact Or.inr (Or.inl ⟨by decide, rfl, by omega⟩)
  · exact Or.inr (Or.inr ⟨by decide, rfl, by omega⟩)
  · exact Or.inr (Or.inl ⟨by decide, rfl, by omega⟩)
  · exact Or.inr (Or.inr ⟨by decide, rfl, by omega⟩)

set_option maxHeartbeats 2000000 in
theorem nTaken {w : World} {D M E : Int} {s : Bool} {r : Int} (hM : M < 18446744073709551616) (hr : rk D s M E = r) : Calls Tryz.prog 44 #[.agg #[.int .i64 D, .bool s, .int .u64 M, .int .i64 E]] w (PN w r) := by
  by_cases hm : MayQ D s M E
  · have HQ := rk_fq hM hm
    rw [hr] at HQ
    have HC := Lib.hid (show decide (MayQ D s M E) = true from decide_eq_true hm)
    clear hm hr hM
    go_enter Tryz.func44, Tryz.ntmps44
    go_upto_region 1 with (fail)
    have X1 := (Bo.newAt w (g := w.heap.size) (by simp) #[.int .i64 D, .bool s, .int .u64 M, .int .i64 E] 24).below (bel1 _ (.cells #[.int .i64 0, .bool false, .int .u64 0, .int .i64 0] 24))
    have XR := (Bo.newAt (w.alloc (.cells #[.int .i64 D, .bool s, .int .u64 M, .int .i64 E] 24)) (g := w.heap.size + 1) (by simp) #[.int .i64 0, .bool false, .int .u64 0, .int .i64 0] 24)
    have HB := Lib.hid (bel2 w (.cells #[.int .i64 D, .bool s, .int .u64 M, .int .i64 E] 24) (.cells #[.int .i64 0, .bool false, .int .u64 0, .int .i64 0] 24))
    generalize hW1 : ((w.alloc (.cells #[.int .i64 D, .bool s, .int .u64 M, .int .i64 E] 24)).alloc (.cells #[.int .i64 0, .bool false, .int .u64 0, .int .i64 0] 24)) = w1 at *
    clear hW1
    have xX10 := X1.a 0 (.int .i64 D) rfl
    have xX11 := X1.a 1 (.bool s) rfl
    have xX12 := X1.a 2 (.int .u64 M) rfl
    have xX13 := X1.a 3 (.int .i64 E) rfl
    go_wp2_with fail
    refine (nMay HC.out).mono ?_
    rintro ee w2 ⟨rfl, B⟩
    clear xX10 xX11 xX12 xX13
    replace X1 := X1.below B
    replace XR := XR.below B
    replace HB := Lib.hid (bt HB.out B)
    clear B
    have xXR0 := XR.a 0 (.int .i64 0) rfl
    have zXR0 := XR.frozen 0
    have xXR1 := XR.a 1 (.bool false) rfl
    have zXR1 := XR.frozen 1
    have xXR2 := XR.a 2 (.int .u64 0) rfl
    have zXR2 := XR.frozen 2
    have xXR3 := XR.a 3 (.int .i64 0) rfl
    have zXR3 := XR.frozen 3
    have xX10 := X1.a 0 (.int .i64 D) rfl
    have xX11 := X1.a 1 (.bool s) rfl
    have xX12 := X1.a 2 (.int .u64 M) rfl
    have xX13 := X1.a 3 (.int .i64 E) rfl
    go_wp2
    clear xXR0 zXR0 xXR1 zXR1 xXR2 zXR2 xXR3 zXR3 xX10 xX11 xX12 xX13
    have SX := StN.mk4 XR (.int .i64 D) (.bool s) (.int .u64 M) (.int .i64 E)
    replace X1 := X1.stn SX (by omega)
    replace HB := Lib.hid (SX.below HB.out (by omega))
    replace XR := SX.box
    clear SX
    generalize (World.setCell (World.setCell (World.setCell (World.setCell w2 ⟨w.heap.size + 1, 0, none⟩ (.int .i64 D)) ⟨w.heap.size + 1, 1, none⟩ (.bool s)) ⟨w.heap.size + 1, 2, none⟩ (.int .u64 M)) ⟨w.heap.size + 1, 3, none⟩ (.int .i64 E)) = w3 at *
    have r0 := XR.cell 0
    have r1 := XR.cell 1
    have r2 := XR.cell 2
    have r3 := XR.cell 3
    exact bodyPost_ret (v := .agg #[.int .i64 D, .bool s, .int .u64 M, .int .i64 E]) (by simp [results, Tryz.results44, go_sem, r0, r1, r2, r3]) rfl ⟨D, s, M, E, rfl, HQ, HB.out⟩
  · rw [rk_not hm] at hr
    subst hr
    have HC := Lib.hid (show decide (MayQ D s M E) = false from decide_eq_false hm)
    clear hm hM
    go_enter Tryz.func44, Tryz.ntmps44
    go_upto_region 1 with (fail)
    have X1 := (Bo.newAt w (g := w.heap.size) (by simp) #[.int .i64 D, .bool s, .int .u64 M, .int .i64 E] 24).below (bel1 _ (.cells #[.int .i64 0, .bool false, .int .u64 0, .int .i64 0] 24))
    have XR := (Bo.newAt (w.alloc (.cells #[.int .i64 D, .bool s, .int .u64 M, .int .i64 E] 24)) (g := w.heap.size + 1) (by simp) #[.int .i64 0, .bool false, .int .u64 0, .int .i64 0] 24)
    have HB := Lib.hid (bel2 w (.cells #[.int .i64 D, .bool s, .int .u64 M, .int .i64 E] 24) (.cells #[.int .i64 0, .bool false, .int .u64 0, .int .i64 0] 24))
    generalize hW1 : ((w.alloc (.cells #[.int .i64 D, .bool s, .int .u64 M, .int .i64 E] 24)).alloc (.cells #[.int .i64 0, .bool false, .int .u64 0, .int .i64 0] 24)) = w1 at *
    clear hW1
    have xX10 := X1.a 0 (.int .i64 D) rfl
    have xX11 := X1.a 1 (.bool s) rfl
    have xX12 := X1.a 2 (.int .u64 M) rfl
    have xX13 := X1.a 3 (.int .i64 E) rfl
    go_wp2_with fail
    refine (nMay HC.out).mono ?_
    rintro ee w2 ⟨rfl, B⟩
    clear xX10 xX11 xX12 xX13
    replace X1 := X1.below B
    replace XR := XR.below B
    replace HB := Lib.hid (bt HB.out B)
    clear B
    have xXR0 := XR.a 0 (.int .i64 0) rfl
    have zXR0 := XR.frozen 0
    have xXR1 := XR.a 1 (.bool false) rfl
    have zXR1 := XR.frozen 1
    have xXR2 := XR.a 2 (.int .u64 0) rfl
    have zXR2 := XR.frozen 2
    have xXR3 := XR.a 3 (.int .i64 0) rfl
    have zXR3 := XR.frozen 3
    have xX10 := X1.a 0 (.int .i64 D) rfl
    have xX11 := X1.a 1 (.bool s) rfl
    have xX12 := X1.a 2 (.int .u64 M) rfl
    have xX13 := X1.a 3 (.int .i64 E) rfl
    go_wp2
    clear xXR0 zXR0 xXR1 zXR1 xXR2 zXR2 xXR3 zXR3 xX10 xX11 xX12 xX13
    have SX := StN.mk4 XR (.int .i64 0) (.bool false) (.int .u64 0) (.int .i64 0)
    replace X1 := X1.stn SX (by omega)
    replace HB := Lib.hid (SX.below HB.out (by omega))
    replace XR := SX.box
    clear SX
    generalize (World.setCell (World.setCell (World.setCell (World.setCell w2 ⟨w.heap.size + 1, 0, none⟩ (.int .i64 0)) ⟨w.heap.size + 1, 1, none⟩ (.bool false)) ⟨w.heap.size + 1, 2, none⟩ (.int .u64 0)) ⟨w.heap.size + 1, 3, none⟩ (.int .i64 0)) = w3 at *
    have r0 := XR.cell 0
    have r1 := XR.cell 1
    have r2 := XR.cell 2
    have r3 := XR.cell 3
    exact bodyPost_ret (v := .agg #[.int .i64 0, .bool false, .int .u64 0, .int .i64 0]) (by simp [results, Tryz.results44, go_sem, r0, r1, r2, r3]) rfl ⟨_, _, _, _, rfl, Fq.nought, HB.out⟩
set_option maxHeartbeats 2000000 in
theorem nInf {w : World} {s : Bool} {r : Int} (hr : sgi s TP = r) : Calls Tryz.prog 21 #[.bool s] w (PN w r) := by
  go_enter Tryz.func21, Tryz.ntmps21
  go_upto_region 1 with (fail)
  have XR := (Bo.newAt w (g := w.heap.size) (by simp) #[.int .i64 0, .bool false, .int .u64 0, .int .i64 0] 24)
  have HB := Lib.hid (bel1 w (.cells #[.int .i64 0, .bool false, .int .u64 0, .int .i64 0] 24))
  generalize hW1 : (w.alloc (.cells #[.int .i64 0, .bool false, .int .u64 0, .int .i64 0] 24)) = w1 at *
  clear hW1
  have xXR0 := XR.a 0 (.int .i64 0) rfl
  have zXR0 := XR.frozen 0
  have xXR1 := XR.a 1 (.bool false) rfl
  have zXR1 := XR.frozen 1
  have xXR2 := XR.a 2 (.int .u64 0) rfl
  have zXR2 := XR.frozen 2
  have xXR3 := XR.a 3 (.int .i64 0) rfl
  have zXR3 := XR.frozen 3
  go_wp2
  clear xXR0 zXR0 xXR1 zXR1 xXR2 zXR2 xXR3 zXR3
  have SX := StN.mk4 XR (.int .i64 2) (.bool s) (.int .u64 0) (.int .i64 0)
  replace HB := Lib.hid (SX.below HB.out (by omega))
  replace XR := SX.box
  clear SX
  generalize (World.setCell (World.setCell (World.setCell (World.setCell w1 ⟨w.heap.size, 0, none⟩ (.int .i64 2)) ⟨w.heap.size, 1, none⟩ (.bool s)) ⟨w.heap.size, 2, none⟩ (.int .u64 0)) ⟨w.heap.size, 3, none⟩ (.int .i64 0)) = w3 at *
  have r0 := XR.cell 0
  have r1 := XR.cell 1
  have r2 := XR.cell 2
  have r3 := XR.cell 3
  exact bodyPost_ret (v := .agg #[.int .i64 2, .bool s, .int .u64 0, .int .i64 0]) (by simp [results, Tryz.results21, go_sem, r0, r1, r2, r3]) rfl ⟨_, _, _, _, rfl, hr ▸ Fq.inf s, HB.out⟩
set_option maxHeartbeats 2000000 in
theorem nT {w : World} {s : Bool} : Calls Tryz.prog 45 #[.bool s] w (fun e w' => e = .returned (.agg #[.int .i64 1, .bool s, .int .u64 9223372036854775808, .int .i64 (-1048576)]) ∧ Below w.heap.size w w') := by
  go_enter Tryz.func45, Tryz.ntmps45
  go_upto_region 1 with (fail)
  have XR := (Bo.newAt w (g := w.heap.size) (by simp) #[.int .i64 0, .bool false, .int .u64 0, .int .i64 0] 24)
  have HB := Lib.hid (bel1 w (.cells #[.int .i64 0, .bool false, .int .u64 0, .int .i64 0] 24))
  generalize hW1 : (w.alloc (.cells #[.int .i64 0, .bool false, .int .u64 0, .int .i64 0] 24)) = w1 at *
  clear hW1
  have xXR0 := XR.a 0 (.int .i64 0) rfl
  have zXR0 := XR.frozen 0
  have xXR1 := XR.a 1 (.bool false) rfl
  have zXR1 := XR.frozen 1
  have xXR2 := XR.a 2 (.int .u64 0) rfl
  have zXR2 := XR.frozen 2
  have xXR3 := XR.a 3 (.int .i64 0) rfl
  have zXR3 := XR.frozen 3
  go_wp2
  clear xXR0 zXR0 xXR1 zXR1 xXR2 zXR2 xXR3 zXR3
  have SX := StN.mk4 XR (.int .i64 1) (.bool s) (.int .u64 9223372036854775808) (.int .i64 (-1048576))
  replace HB := Lib.hid (SX.below HB.out (by omega))
  replace XR := SX.box
  clear SX
  generalize (World.setCell (World.setCell (World.setCell (World.setCell w1 ⟨w.heap.size, 0, none⟩ (.int .i64 1)) ⟨w.heap.size, 1, none⟩ (.bool s)) ⟨w.heap.size, 2, none⟩ (.int .u64 9223372036854775808)) ⟨w.heap.size, 3, none⟩ (.int .i64 (-1048576))) = w3 at *
  have r0 := XR.cell 0
  have r1 := XR.cell 1
  have r2 := XR.cell 2
  have r3 := XR.cell 3
  exact bodyPost_ret (v := .agg #[.int .i64 1, .bool s, .int .u64 9223372036854775808, .int .i64 (-1048576)]) (by simp [results, Tryz.results45, go_sem, r0, r1, r2, r3]) rfl ⟨rfl, HB.out⟩
set_option maxHeartbeats 2000000 in
theorem nH {w : World} {s : Bool} : Calls Tryz.prog 83 #[.bool s] w (fun e w' => e = .returned (.agg #[.int .i64 1, .bool s, .int .u64 18446744073709551615, .int .i64 1048576]) ∧ Below w.heap.size w w') := by
  go_enter Tryz.func83, Tryz.ntmps83
  go_upto_region 1 with (fail)
  have XR := (Bo.newAt w (g := w.heap.size) (by simp) #[.int .i64 0, .bool false, .int .u64 0, .int .i64 0] 24)
  have HB := Lib.hid (bel1 w (.cells #[.int .i64 0, .bool false, .int .u64 0, .int .i64 0] 24))
  generalize hW1 : (w.alloc (.cells #[.int .i64 0, .bool false, .int .u64 0, .int .i64 0] 24)) = w1 at *
  clear hW1
  have xXR0 := XR.a 0 (.int .i64 0) rfl
  have zXR0 := XR.frozen 0
  have xXR1 := XR.a 1 (.bool false) rfl
  have zXR1 := XR.frozen 1
  have xXR2 := XR.a 2 (.int .u64 0) rfl
  have zXR2 := XR.frozen 2
  have xXR3 := XR.a 3 (.int .i64 0) rfl
  have zXR3 := XR.frozen 3
  go_wp2
  clear xXR0 zXR0 xXR1 zXR1 xXR2 zXR2 xXR3 zXR3
  have SX := StN.mk4 XR (.int .i64 1) (.bool s) (.int .u64 18446744073709551615) (.int .i64 1048576)
  replace HB := Lib.hid (SX.below HB.out (by omega))
  replace XR := SX.box
  clear SX
  generalize (World.setCell (World.setCell (World.setCell (World.setCell w1 ⟨w.heap.size, 0, none⟩ (.int .i64 1)) ⟨w.heap.size, 1, none⟩ (.bool s)) ⟨w.heap.size, 2, none⟩ (.int .u64 18446744073709551615)) ⟨w.heap.size, 3, none⟩ (.int .i64 1048576)) = w3 at *
  have r0 := XR.cell 0
  have r1 := XR.cell 1
  have r2 := XR.cell 2
  have r3 := XR.cell 3
  exact bodyPost_ret (v := .agg #[.int .i64 1, .bool s, .int .u64 18446744073709551615, .int .i64 1048576]) (by simp [results, Tryz.results83, go_sem, r0, r1, r2, r3]) rfl ⟨rfl, HB.out⟩
set_option maxHeartbeats 2000000 in
theorem yInf {w : World} {s : Bool} {r : Int} (hr : sgi s TP = r) : Calls Tryz.prog 26 #[.bool s] w (PN w r) := by
  go_enter Tryz.func26, Tryz.ntmps26
  go_upto_region 1 with (fail)
  have XR := (Bo.newAt w (g := w.heap.size) (by simp) #[.int .i64 0, .bool false, .int .u64 0, .int .i64 0] 24)
  have HB := Lib.hid (bel1 w (.cells #[.int .i64 0, .bool false, .int .u64 0, .int .i64 0] 24))
  generalize hW1 : (w.alloc (.cells #[.int .i64 0, .bool false, .int .u64 0, .int .i64 0] 24)) = w1 at *
  clear hW1
  have xXR0 := XR.a 0 (.int .i64 0) rfl
  have zXR0 := XR.frozen 0
  have xXR1 := XR.a 1 (.bool false) rfl
  have zXR1 := XR.frozen 1
  have xXR2 := XR.a 2 (.int .u64 0) rfl
  have zXR2 := XR.frozen 2
  have xXR3 := XR.a 3 (.int .i64 0) rfl
  have zXR3 := XR.frozen 3
  go_wp2
  clear xXR0 zXR0 xXR1 zXR1 xXR2 zXR2 xXR3 zXR3
  have SX := StN.mk4 XR (.int .i64 2) (.bool s) (.int .u64 0) (.int .i64 0)
  replace HB := Lib.hid (SX.below HB.out (by omega))
  replace XR := SX.box
  clear SX
  generalize (World.setCell (World.setCell (World.setCell (World.setCell w1 ⟨w.heap.size, 0, none⟩ (.int .i64 2)) ⟨w.heap.size, 1, none⟩ (.bool s)) ⟨w.heap.size, 2, none⟩ (.int .u64 0)) ⟨w.heap.size, 3, none⟩ (.int .i64 0)) = w3 at *
  have r0 := XR.cell 0
  have r1 := XR.cell 1
  have r2 := XR.cell 2
  have r3 := XR.cell 3
  exact bodyPost_ret (v := .agg #[.int .i64 2, .bool s, .int .u64 0, .int .i64 0]) (by simp [results, Tryz.results26, go_sem, r0, r1, r2, r3]) rfl ⟨_, _, _, _, rfl, hr ▸ Fq.inf s, HB.out⟩
end Go.Proofs.YtpmakljahhhnfaaGreatDoor
