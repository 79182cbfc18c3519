/-
  Contracts and words that the statement's proof rests on, several texts in one: Ue, Ug.
-/
import Derived.Below
import Derived.BigCall
import Derived.BigGuard
import Derived.BigQuiet
import Derived.Carry
import Derived.Deep.DeepCutAuto
import Derived.Deep.Draws
import Derived.Deep.MidRow
import Derived.Deep.QuietTactic
import Derived.Deep.RegionHeld3
import Derived.Deep.RegionWith
import Derived.IntWalk
import Derived.Laws.CopyOwn
import Derived.Laws.MakeOwn
import Derived.Laws.OwnMore
import Derived.Laws.Rows
import Derived.Lib.AppendIntMem
import Derived.Lib.Atoi
import Derived.Lib.AtoiErrMem
import Derived.Lib.BitFns
import Derived.Lib.FrozenHead2
import Derived.Lib.Hide
import Derived.Lib.ItoaMem
import Derived.Lib.ItoaNum
import Derived.Lib.OthersKept
import Derived.Lib.Repeat
import Derived.Lib.Strings
import Derived.Lib.TrimByte
import Derived.Lib.UnsafeStr
import Derived.Maps.AppendAt
import Derived.RegionTactic
import Derived.StillTailTactics
import Derived.Test.YtpmakljahhhnfaaGreatDoorRows
import Derived.WalkKit
import Derived.WalkLawsBesides
import Derived.WalkSpells
import Derived.Test.YtpmakljahhhnfaaGreatDoorYAaj
import Derived.Test.YtpmakljahhhnfaaGreatDoorYAam
import Derived.Test.YtpmakljahhhnfaaGreatDoorYAan
import Derived.Test.YtpmakljahhhnfaaGreatDoorYAao
import Derived.Test.YtpmakljahhhnfaaGreatDoorYAbh
import Derived.Test.YtpmakljahhhnfaaGreatDoorYAbi
import Derived.Test.YtpmakljahhhnfaaGreatDoorYAbj
/-
  What pelorusref04.May and Alike answer.
-/
namespace Go.Proofs.YtpmakljahhhnfaaGreatDoor
open Go.RowKit
set_option linter.unusedVariables false
set_option linter.unusedSimpArgs false
set_option maxRecDepth 100000

set_option maxHeartbeats 2000000 in
theorem uMay_no {w : World} {A : Option Addr} {n c a : Nat} {s : Bool} {t : Int} (h : Rd w A n c a) (hm : mayB s n a = false) : Calls Tryz.prog 40 #[.agg #[.bool s, .slice A n c, .int .i64 t]] w (PB w false) := by
  go_enter Tryz.func40, Tryz.ntmps40
  go_upto_region 1 with (fail)
  have X1 := (Bo.newAt w (g := w.heap.size) (by simp) #[.bool s, .slice A n c, .int .i64 t] 36)
  have HB := Lib.hid (bel1 w (.cells #[.bool s, .slice A n c, .int .i64 t] 36))
  replace h := h.below HB.out
  generalize hW1 : (w.alloc (.cells #[.bool s, .slice A n c, .int .i64 t] 36)) = w1 at *
  clear hW1
  have xX10 := X1.a 0 (.bool s) rfl
  have xX11 := X1.a 1 (.slice A n c) rfl
  have xX12 := X1.a 2 (.int .i64 t) rfl
  go_wp2_with fail
  refine (qMay h hm).mono ?_
  rintro ee w2 ⟨rfl, B⟩
  clear xX10 xX11 xX12
  replace X1 := X1.below B
  replace h := h.below B
  replace HB := Lib.hid (bt HB.out B)
  clear B
  have xX10 := X1.a 0 (.bool s) rfl
  have xX11 := X1.a 1 (.slice A n c) rfl
  have xX12 := X1.a 2 (.int .i64 t) rfl
  go_wp2
  go_ret
  exact ⟨rfl, HB.out⟩

set_option maxHeartbeats 2000000 in
theorem uMay_zero {w : World} {A : Option Addr} {c a : Nat} {s : Bool} {t : Int} {r : Bool} (h : Rd w A 0 c a) (hm : mayB s 0 a = true) (hr : (t == 0) = r) : Calls Tryz.prog 40 #[.agg #[.bool s, .slice A 0 c, .int .i64 t]] w (PB w r) := by
  have HR := Lib.hid hr
  clear hr
  go_enter Tryz.func40, Tryz.ntmps40
  go_upto_region 1 with (fail)
  have X1 := (Bo.newAt w (g := w.heap.size) (by simp) #[.bool s, .slice A 0 c, .int .i64 t] 36)
  have HB := Lib.hid (bel1 w (.cells #[.bool s, .slice A 0 c, .int .i64 t] 36))
  replace h := h.below HB.out
  generalize hW1 : (w.alloc (.cells #[.bool s, .slice A 0 c, .int .i64 t] 36)) = w1 at *
  clear hW1
  have xX10 := X1.a 0 (.bool s) rfl
  have xX11 := X1.a 1 (.slice A 0 c) rfl
  have xX12 := X1.a 2 (.int .i64 t) rfl
  go_wp2_with fail
  refine (qMay h hm).mono ?_
  rintro ee w2 ⟨rfl, B⟩
  clear xX10 xX11 xX12
  replace X1 := X1.below B
  replace h := h.below B
  replace HB := Lib.hid (bt HB.out B)
  clear B
  have xX10 := X1.a 0 (.bool s) rfl
  have xX11 := X1.a 1 (.slice A 0 c) rfl
  have xX12 := X1.a 2 (.int .i64 t) rfl
  go_wp2
  go_ret
  exact ⟨ret_bool HR.out, HB.out⟩

set_option maxHeartbeats 4000000 in
theorem uMay_e {w : World} {A : Option Addr} {n c a : Nat} {s : Bool} {t Z T E : Int} (h : Rd w A n c a) (hn : n ≤ 1000) (h0 : n ≠ 0) (hm : mayB s n a = true) (hr : mkA (sg s a) t = ((Z, T), E)) (hE : (E == 0) = false) :
    Calls Tryz.prog 40 #[.agg #[.bool s, .slice A n c, .int .i64 t]] w (PB w false) := by
  have tz : ((n : Int) == 0) = false := by simp; omega
  have HR := Lib.hid hr
  clear hr
  go_enter Tryz.func40, Tryz.ntmps40
  go_upto_region 1 with (fail)
  have X1 := (Bo.newAt w (g := w.heap.size) (by simp) #[.bool s, .slice A n c, .int .i64 t] 36)
  have HB := Lib.hid (bel1 w (.cells #[.bool s, .slice A n c, .int .i64 t] 36))
  replace h := h.below HB.out
  generalize hW1 : (w.alloc (.cells #[.bool s, .slice A n c, .int .i64 t] 36)) = w1 at *
  clear hW1
  have xX10 := X1.a 0 (.bool s) rfl
  have xX11 := X1.a 1 (.slice A n c) rfl
  have xX12 := X1.a 2 (.int .i64 t) rfl
  go_wp2_with fail
  refine (qMay h hm).mono ?_
  rintro ee w2 ⟨rfl, B⟩
  clear xX10 xX11 xX12
  replace X1 := X1.below B
  replace h := h.below B
  replace HB := Lib.hid (bt HB.out B)
  clear B
  have xX10 := X1.a 0 (.bool s) rfl
  have xX11 := X1.a 1 (.slice A n c) rfl
  have xX12 := X1.a 2 (.int .i64 t) rfl
  go_wp2_with fail
  refine (uMake h hn rfl HR.out).mono ?_
  rintro ee w3 ⟨s3, A3, n3, c3, rfl, h3, k3, B⟩
  clear xX10 xX11 xX12
  replace X1 := X1.below B
  replace h := h.below B
  replace HB := Lib.hid (bt HB.out B)
  clear B
  go_upto_region 7 with (fail)
  have g4 := X1.lt
  replace X1 := X1.below (bel1 _ (.cells #[.bool s3, .slice A3 n3 c3, .int .i64 T] 36))
  replace HB := Lib.hid (bt HB.out (bel1 _ (.cells #[.bool s3, .slice A3 n3 c3, .int .i64 T] 36)))
  have X4 := Bo.new w3 #[.bool s3, .slice A3 n3 c3, .int .i64 T] 36
  generalize hWn : w3.alloc (.cells #[.bool s3, .slice A3 n3 c3, .int .i64 T] 36) = w4 at *
  clear hWn
  have xX10 := X1.a 0 (.bool s) rfl
  have xX11 := X1.a 1 (.slice A n c) rfl
  have xX12 := X1.a 2 (.int .i64 t) rfl
  have xX40 := X4.a 0 (.bool s3) rfl
  have xX41 := X4.a 1 (.slice A3 n3 c3) rfl
  have xX42 := X4.a 2 (.int .i64 T) rfl
  go_wp2
  go_ret
  exact ⟨rfl, HB.out⟩

set_option maxHeartbeats 4000000 in
theorem uMay_t {w : World} {A : Option Addr} {n c a : Nat} {s : Bool} {t Z T E : Int} {p : Bool} (h : Rd w A n c a) (hn : n ≤ 1000) (h0 : n ≠ 0) (hm : mayB s n a = true) (hr : mkA (sg s a) t = ((Z, T), E)) (hE : (E == 0) = true) (hp : (T == t) = p) :
    Calls Tryz.prog 40 #[.agg #[.bool s, .slice A n c, .int .i64 t]] w (PB w p) := by
  have tz : ((n : Int) == 0) = false := by simp; omega
  have HR := Lib.hid hr
  have HP := Lib.hid hp
  clear hp
  clear hr
  go_enter Tryz.func40, Tryz.ntmps40
  go_upto_region 1 with (fail)
  have X1 := (Bo.newAt w (g := w.heap.size) (by simp) #[.bool s, .slice A n c, .int .i64 t] 36)
  have HB := Lib.hid (bel1 w (.cells #[.bool s, .slice A n c, .int .i64 t] 36))
  replace h := h.below HB.out
  generalize hW1 : (w.alloc (.cells #[.bool s, .slice A n c, .int .i64 t] 36)) = w1 at *
  clear hW1
  have xX10 := X1.a 0 (.bool s) rfl
  have xX11 := X1.a 1 (.slice A n c) rfl
  have xX12 := X1.a 2 (.int .i64 t) rfl
  go_wp2_with fail
  refine (qMay h hm).mono ?_
  rintro ee w2 ⟨rfl, B⟩
  clear xX10 xX11 xX12
  replace X1 := X1.below B
  replace h := h.below B
  replace HB := Lib.hid (bt HB.out B)
  clear B
  have xX10 := X1.a 0 (.bool s) rfl
  have xX11 := X1.a 1 (.slice A n c) rfl
  have xX12 := X1.a 2 (.int .i64 t) rfl
  go_wp2_with fail
  refine (uMake h hn rfl HR.out).mono ?_
  rintro ee w3 ⟨s3, A3, n3, c3, rfl, h3, k3, B⟩
  clear xX10 xX11 xX12
  replace X1 := X1.below B
  replace h := h.below B
  replace HB := Lib.hid (bt HB.out B)
  clear B
  go_upto_region 7 with (fail)
  have g4 := X1.lt
  replace X1 := X1.below (bel1 _ (.cells #[.bool s3, .slice A3 n3 c3, .int .i64 T] 36))
  replace HB := Lib.hid (bt HB.out (bel1 _ (.cells #[.bool s3, .slice A3 n3 c3, .int .i64 T] 36)))
  have X4 := Bo.new w3 #[.bool s3, .slice A3 n3 c3, .int .i64 T] 36
  generalize hWn : w3.alloc (.cells #[.bool s3, .slice A3 n3 c3, .int .i64 T] 36) = w4 at *
  clear hWn
  have xX10 := X1.a 0 (.bool s) rfl
  have xX11 := X1.a 1 (.slice A n c) rfl
  have xX12 := X1.a 2 (.int .i64 t) rfl
  have xX40 := X4.a 0 (.bool s3) rfl
  have xX41 := X4.a 1 (.slice A3 n3 c3) rfl
  have xX42 := X4.a 2 (.int .i64 T) rfl
  go_wp2
  go_ret
  exact ⟨ret_bool HP.out, HB.out⟩

theorem uMay {w : World} {A : Option Addr} {n c a : Nat} {s : Bool} {t : Int} {r : Bool} (h : Rd w A n c a) (hn : n ≤ 1000) (hr : mayC s n a t = r) : Calls Tryz.prog 40 #[.agg #[.bool s, .slice A n c, .int .i64 t]] w (PB w r) := by
  subst hr
  unfold mayC
  cases hm : mayB s n a
  · exact uMay_no h hm
  · rw [Bool.true_and]
    by_cases h0 : n = 0
    · subst h0
      rw [if_pos rfl]
      exact uMay_zero h hm (by rw [Bool.eq_iff_iff]; simp)
    · rw [if_neg h0]
      have hl : (limbs a).length = n := by
        unfold mayB at hm
        simp only [Bool.and_eq_true, decide_eq_true_eq] at hm
        exact hm.1
      have ha : a ≠ 0 := by
        rintro rfl
        rw [limbs_zero] at hl
        exact h0 hl.symm
      obtain ⟨hu, hv⟩ := u10_spec a ha
      have hA := mkA_of (s := s) (t := t) hu hv
      by_cases hc : u10 a < 10 ^ 40 ∧ -400 ≤ t + v10 a ∧ t + v10 a ≤ 400
      · rw [if_pos hc] at hA
        refine uMay_t h hn h0 hm hA rfl ?_
        by_cases h10 : a % 10 = 0
        · have hv1 : v10 a ≠ 0 := by
            intro e
            rw [e] at hu
            simp at hu
            rw [← hu] at hv
            exact hv h10
          rw [show decide (a % 10 = 0) = true by simpa using h10]
          simp
          omega
        · rw [v10_no (.inr h10), u10_no (.inr h10)] at hc
          rw [v10_no (.inr h10)]
          simp [h10, hc.1]
          simp at hc
          exact ⟨hc.2.1, hc.2.2⟩
      · rw [if_neg hc] at hA
        have := uMay_e h hn h0 hm hA rfl
        have e : ((decide (-400 ≤ t) && decide (t ≤ 400)) && (decide (a < 10 ^ 40) && !decide (a % 10 = 0))) = false := by
          rw [Bool.eq_false_iff]
          intro hh
          simp only [Bool.and_eq_true, decide_eq_true_eq, Bool.not_eq_true', decide_eq_false_iff_not] at hh
          obtain ⟨⟨g1, g2⟩, g3, g4⟩ := hh
          rw [v10_no (.inr g4), u10_no (.inr g4)] at hc
          exact hc ⟨g3, by simpa using g1, by simpa using g2⟩
        rw [e]
        exact this

end Go.Proofs.YtpmakljahhhnfaaGreatDoor

/-
  What pelorusref04.Up and Cmp answer.
-/
namespace Go.Proofs.YtpmakljahhhnfaaGreatDoor
open Go.RowKit
set_option linter.unusedVariables false
set_option linter.unusedSimpArgs false
set_option maxRecDepth 100000

def Jo.Fact.wr (z : Int) (K : Nat) : Jo.Fact := ⟨fun v w => ∃ s A n c, v = .agg #[.bool s, .slice A n c] ∧ Wr w s A n c z ∧ n ≤ K, fun v w w' h b => by
  obtain ⟨s, A, n, c, e, h, k⟩ := h
  exact ⟨s, A, n, c, e, h.below b, k⟩⟩
theorem qTen (w : World) : Calls Tryz.prog 41 #[.int .i64 10] w (W1 w 2 10) := qFrom 10 w (by omega) (by omega)
/-- The call answers an integer, told of a sign and limbs. -/
def WR (w : World) (K : Nat) (z : Int) (e : Ending) (w' : World) : Prop := ∃ s A n c, e = .returned (.agg #[.bool s, .slice A n c]) ∧ Wr w' s A n c z ∧ n ≤ K ∧ Below w.heap.size w w'
def UpInv (w : World) (n : Nat) (z : Int) (k : Nat) (wr : World) : Prop :=
  ∃ s A m c, Bo wr w.heap.size #[.bool s, .slice A m c] 34 ∧ Bo wr (w.heap.size + 1) #[.bool false, .slice none 0 0] 34 ∧ Wr wr s A m c (z * ((10 ^ k : Nat) : Int)) ∧ m ≤ n + 2 * k ∧ Below w.heap.size w wr

set_option maxHeartbeats 2000000 in
theorem uUp {w : World} {A : Option Addr} {n c : Nat} {s : Bool} {z r : Int} {k : Nat} {t : Int} (h : Wr w s A n c z) (hn : n ≤ 1000) (ht : t = k) (hk : k ≤ 1000) (hr : z * ((10 ^ k : Nat) : Int) = r) : Calls Tryz.prog 42 #[.agg #[.bool s, .slice A n c], .int .i64 t] w (WR w 3000 r) := by
  subst ht
  have HR := Lib.hid hr
  clear hr
  go_enter Tryz.func42, Tryz.ntmps42
  go_upto_region 1 with (fail)
  have X1 := (Bo.newAt w (g := w.heap.size) (by simp) #[.bool s, .slice A n c] 34).below (bel1 _ (.cells #[.bool false, .slice none 0 0] 34))
  have XR := (Bo.newAt (w.alloc (.cells #[.bool s, .slice A n c] 34)) (g := w.heap.size + 1) (by simp) #[.bool false, .slice none 0 0] 34)
  have HB := Lib.hid (bel2 w (.cells #[.bool s, .slice A n c] 34) (.cells #[.bool false, .slice none 0 0] 34))
  replace h := h.below HB.out
  generalize hW1 : ((w.alloc (.cells #[.bool s, .slice A n c] 34)).alloc (.cells #[.bool false, .slice none 0 0] 34)) = w1 at *
  clear hW1
  go_wp2
  have HI0 := Lib.hid (show UpInv w n z 0 w1 from ⟨s, A, n, c, X1, XR, by simpa using h, by omega, HB.out⟩)
  clear X1 XR h HB
  go_loopw [5] (fun i wr => ∃ j : Nat, i = .int .i64 j ∧ j ≤ k ∧ UpInv w n z j wr) (fun i _ => 2000 - (intOf i).toNat)
  case atStart => exact ⟨0, rfl, Nat.zero_le _, HI0.out⟩
  case round =>
    obtain ⟨j, rfl, hj, s2, A2, n2, c2, X1, XR, h2, hn2, hB⟩ := hrel
    have HB := Lib.hid hB
    clear hB HI0
    by_cases hlt : j < k
    · have tlt : decide ((j : Int) < (k : Int)) = true := by simp; omega
      go_wp2
      refine Jo.region_joint (T := [0, 1, 2]) (ds := [some 11, some 12, some 13, none]) (ls := [[], [], [0, 1], []]) (k := 4) (L := [(some 11, 0), (some 12, 1), (some 13, 2)]) (fuel := 1) (J := fun wj => Below (World.heap wr).size wr wj)
        (F := [Jo.Fact.eq (.agg #[.bool s2, .slice A2 n2 c2]), Jo.Fact.wn 10 2, Jo.Fact.wn (z * ((10 ^ j : Nat) : Int) * 10) (n2 + 2), Jo.Fact.any])
        (by kernel_rfl) (by kernel_rfl) (by decide) rfl rfl (fun _ _ h b => bt h b) ((Below.refl _ _).drew) ?_ (fun vs w4 hJ hd => ?_)
      · refine Jo.jd 0 (some 11) [] (Jo.Fact.eq (.agg #[.bool s2, .slice A2 n2 c2])) rfl rfl rfl rfl (fun vs wj hJ hd K hK => ?_) ?_
        · simp only [Jo.putl, Jo.ze, Act.put, Jo.za, Jo.zb, Jo.zc] at hK ⊢
          clear hd
          have xX10 := (X1.below hJ).a 0 (.bool s2) rfl
          have xX11 := (X1.below hJ).a 1 (.slice A2 n2 c2) rfl
          go_simp
          exact hK.out _ _ rfl (Below.refl _ _)
        refine Jo.jd 1 (some 12) [] (Jo.Fact.wn 10 2) rfl rfl rfl rfl (fun vs wj hJ hd K hK => ?_) ?_
        · simp only [Jo.putl, Jo.ze, Act.put, Jo.za, Jo.zb, Jo.zc] at hK ⊢
          clear hd
          go_simp
          refine (qTen _).mono ?_
          rintro ee wk ⟨s3, A3, n3, c3, rfl, h3, k3, B⟩
          exact hK.out _ _ ⟨_, _, _, _, rfl, h3, k3⟩ B
        refine Jo.jd 2 (some 13) [(some 11, 0), (some 12, 1)] (Jo.Fact.wn (z * ((10 ^ j : Nat) : Int) * 10) (n2 + 2)) rfl rfl rfl rfl (fun vs wj hJ hd K hK => ?_) ?_
        · have d1 : (Jo.Fact.wn 10 2).P (vs 1) wj := hd 1 (by decide)
          simp only [Jo.putl, Jo.zd, Jo.ze, Act.put, Jo.za, Jo.zb, Jo.zc] at hK ⊢
          rw [show vs 0 = _ from hd 0 (by decide)] at hK ⊢
          clear hd
          generalize vs 1 = u1 at hK d1 ⊢
          obtain ⟨s3, A3, n3, c3, rfl, h3, k3⟩ := d1
          go_simp
          refine (qTwo (h2.below hJ) h3.wr (by omega) (by omega) rfl).mono ?_
          rintro ee wk ⟨s4, A4, n4, c4, rfl, h4, k4, B⟩
          exact hK.out _ _ ⟨_, _, _, _, rfl, h4, by omega⟩ B
        exact Jo.Steps.nil
      have d1 : (Jo.Fact.wn 10 2).P (vs 1) w4 := hd 1 (by decide)
      have d2 : (Jo.Fact.wn (z * ((10 ^ j : Nat) : Int) * 10) (n2 + 2)).P (vs 2) w4 := hd 2 (by decide)
      simp only [Jo.putl, Jo.zd, Jo.ze, Act.put, Jo.za, Jo.zb, Jo.zc]
      rw [show vs 0 = _ from hd 0 (by decide)]
      clear hd
      generalize vs 1 = u1 at d1 ⊢
      generalize vs 2 = u2 at d2 ⊢
      obtain ⟨s3, A3, n3, c3, rfl, _, _⟩ := d1
      obtain ⟨s4, A4, n4, c4, rfl, h4, k4⟩ := d2
      replace X1 := X1.below hJ
      replace XR := XR.below hJ
      replace h2 := h2.below hJ
      replace HB := Lib.hid (bt HB.out hJ)
      have xX10 := X1.a 0 (.bool s2) rfl
      have zX10 := X1.frozen 0
      have xX11 := X1.a 1 (.slice A2 n2 c2) rfl
      have zX11 := X1.frozen 1
      refine Jo.jnext (i := 3) (o := ⟨none, _, _, _, _, _⟩) (by kernel_rfl) rfl (fun K hK => ?_)
      go_simp
      refine hK.out _ _ ?_
      clear hK K xX10 zX10 xX11 zX11
      have SX := StN.mk2 X1 (.bool s4) (.slice A4 n4 c4)
      replace XR := XR.stn SX (by omega)
      replace h2 := h2.stn SX (by simp [no32])
      replace h4 := h4.stn SX (by simp [no32])
      replace HB := Lib.hid (SX.below HB.out (by omega))
      replace X1 := SX.box
      clear SX
      generalize (World.setCell (World.setCell w4 ⟨w.heap.size, 0, none⟩ (.bool s4)) ⟨w.heap.size, 1, none⟩ (.slice A4 n4 c4)) = w5 at *
      refine Jo.jdone (by kernel_rfl) ?_
      have e10 : z * ((10 ^ j : Nat) : Int) * 10 = z * ((10 ^ (j + 1) : Nat) : Int) := by
        rw [Nat.pow_succ, Int.natCast_mul, Int.mul_assoc]
        rfl
      rw [e10] at h4
      have HI := Lib.hid (show UpInv w n z (j + 1) w5 from ⟨s4, A4, n4, c4, X1, XR, h4.wr, by omega, HB.out⟩)
      clear X1 XR h2 h4 HB e10
      go_wp2
      go_roundw
      case rel => exact ⟨j + 1, by simp, by omega, HI.out⟩
      case measure => simp [intOf]; omega
    · obtain rfl : j = k := by omega
      have xX10 := X1.a 0 (.bool s2) rfl
      have xX11 := X1.a 1 (.slice A2 n2 c2) rfl
      have xXR0 := XR.a 0 (.bool false) rfl
      have zXR0 := XR.frozen 0
      have xXR1 := XR.a 1 (.slice none 0 0) rfl
      have zXR1 := XR.frozen 1
      go_wp2
      clear xX10 xX11 xXR0 zXR0 xXR1 zXR1
      have SX := StN.mk2 XR (.bool s2) (.slice A2 n2 c2)
      replace X1 := X1.stn SX (by omega)
      replace h2 := h2.stn SX (by simp [no32])
      replace HB := Lib.hid (SX.below HB.out (by omega))
      replace XR := SX.box
      clear SX
      generalize (World.setCell (World.setCell wr ⟨w.heap.size + 1, 0, none⟩ (.bool s2)) ⟨w.heap.size + 1, 1, none⟩ (.slice A2 n2 c2)) = w6 at *
      have r0 := XR.cell 0
      have r1 := XR.cell 1
      exact bodyPost_ret (v := .agg #[.bool s2, .slice A2 n2 c2]) (by simp [results, Tryz.results42, go_sem, r0, r1]) rfl ⟨s2, A2, n2, c2, rfl, HR.out ▸ h2, by omega, HB.out⟩

end Go.Proofs.YtpmakljahhhnfaaGreatDoor
