/-
  Contracts and words that the statement's proof rests on, several texts in one: Hf.
-/
import Derived.Test.YteejbcimmmcnlaaGreatDoorYBbd
/-
  What moving a number down within 128 bits does, and two numbers in order.
-/
namespace Go.Proofs.YteejbcimmmcnlaaGreatDoor
open Go.RowKit
set_option linter.unusedVariables false
set_option linter.unusedSimpArgs false
set_option maxRecDepth 100000

/-- A moved number is answered. -/
def PMv (w : World) (s : Bool) (V x : Int) (e : Ending) (w' : World) : Prop := ∃ H L, e = .returned (.agg #[.bool s, .int .u64 H, .int .u64 L, .int .i64 x]) ∧ (0 ≤ H ∧ H < 18446744073709551616 ∧ 0 ≤ L ∧ L < 18446744073709551616 ∧ H * 18446744073709551616 + L = V) ∧ Below w.heap.size w w'
theorem shr64_any {M k Q : Int} (h0 : 0 ≤ M) (hM : M < 18446744073709551616) (hk : 0 ≤ k) (hQ : M / 2 ^ k.toNat = Q) : Op.shift .shr .u64 M .i64 k = pure (.int .u64 Q) := by
  subst hQ
  rcases Int.lt_or_le k 65 with c | c
  · exact shift_shr .u64 .i64 M k hk (by show k ≤ 64; omega)
  · have e1 : min k.toNat IntKind.u64.bits = 64 := by show min k.toNat 64 = 64; omega
    have e2 : M / 2 ^ k.toNat = 0 := Int.ediv_eq_zero_of_lt h0 (Int.lt_of_lt_of_le (show M < 2 ^ 64 from hM) (p2_le (by omega)))
    have e3 : M.fdiv (2 ^ 64) = 0 := by
      rw [Int.fdiv_eq_ediv_of_nonneg _ (by decide)]; exact Int.ediv_eq_zero_of_lt h0 hM
    unfold Op.shift
    rw [if_neg (by omega), e1, e2]
    show pure (Value.int .u64 (M.fdiv (2 ^ 64))) = _
    rw [e3]
theorem or_one {Q : Int} (h0 : 0 ≤ Q) (h1 : Q < 18446744073709551616) : bits BinOp.or IntKind.u64 Q 1 = Q / 2 * 2 + 1 := by
  obtain ⟨q, rfl⟩ := Int.eq_ofNat_of_zero_le h0; have h := u64_or_nat q 1 (by omega) (by decide)
  have e : q ||| 1 = q / 2 * 2 + 1 := by
    apply Nat.eq_of_testBit_eq
    intro i
    cases i with
    | zero => simp [Nat.testBit_zero]
    | succ i =>
      rw [Nat.testBit_or, Nat.testBit_add_one, Nat.testBit_add_one, Nat.testBit_add_one, show (1 : Nat) / 2 = 0 by decide, show (q / 2 * 2 + 1) / 2 = q / 2 by omega, Nat.zero_testBit, Bool.or_false]
  rw [e] at h; exact h
theorem mv_low {M : Int} {n : Nat} (h0 : 0 ≤ M) (hM : M < 18446744073709551616) (h1 : 1 ≤ n) (h2 : n ≤ 64) : 0 ≤ M / 2 ^ n ∧ M / 2 ^ n < 18446744073709551616 ∧ M / 2 ^ n * 18446744073709551616 + M * 2 ^ (64 - n) % 18446744073709551616 = mvd M n := by
  obtain ⟨a, b⟩ := div_le_self h0 (p2pos n); refine ⟨a, by omega, ?_⟩
  have e1 : M * 2 ^ (64 - n) / 18446744073709551616 = M / 2 ^ n := by
    rw [show (18446744073709551616 : Int) = 2 ^ n * 2 ^ (64 - n) by rw [← Int.pow_add, show n + (64 - n) = 64 by omega]; rfl]
    exact Int.mul_ediv_mul_of_pos_left _ _ (p2pos _)
  unfold mvd
  rw [if_pos h2, ← e1]
  omega
set_option maxHeartbeats 4000000 in
theorem moved_low {w : World} {s : Bool} {M E N X : Int} {n : Nat} (hT : Tb w) (h0 : 9223372036854775808 ≤ M) (hM : M < 18446744073709551616) (hN : (n : Int) = N) (hX : E + N = X) (b1 : -2000000 ≤ E) (b2 : E ≤ 2000000) (n1 : 1 ≤ n) (n2 : n ≤ 64) : Calls Tryz.prog 166 #[.agg #[.int .i64 1, .bool s, .int .u64 M, .int .i64 E], .int .i64 N] w (PMv w s (mvd M n) X) := by
  obtain ⟨v1, v2, v3⟩ := mv_low (show 0 ≤ M by omega) hM n1 n2
  obtain ⟨H, hH⟩ : ∃ H, M / 2 ^ n = H := ⟨_, rfl⟩; obtain ⟨P, hP⟩ : ∃ P, M * 2 ^ (64 - n) = P := ⟨_, rfl⟩; obtain ⟨L, hL⟩ : ∃ L, P % 18446744073709551616 = L := ⟨_, rfl⟩; rw [hP, hL] at v3; rw [hH] at v1 v2 v3
  have l1 : 0 ≤ L ∧ L < 18446744073709551616 := by omega
  have HH : Hid (M / 2 ^ N.toNat = H) := Lib.hid (by rw [← hN]; exact hH)
  have HP : Hid (M * 2 ^ (64 - N).toNat = P) := Lib.hid (by rw [← hN, show (64 - (n : Int)).toNat = 64 - n by omega]; exact hP)
  have HL : Hid (IntKind.u64.wrap P = L) := Lib.hid (by rw [IntKind.wrap_u64]; exact hL)
  have HV := Lib.hid v3
  have HX := Lib.hid (show IntKind.i64.wrap (E + N) = X by rw [hX]; exact IntWalk.i64_in _ (by omega))
  have HSB := Lib.hid (show IntKind.i64.wrap (64 - N) = 64 - N from IntWalk.i64_in _ (by omega))
  have m1 : 1 ≤ N := by omega
  have m2 : N ≤ 64 := by omega
  clear hH hP hL v3 hX hN
  go_enter Tryz.func166, Tryz.ntmps166
  go_upto_region 1 with (fail)
  generalize hW1 : (w.alloc _).alloc _ = w1 at *; obtain ⟨X2, XR, HB⟩ := Bo.en2 hW1; clear hW1; obtain ⟨xX20, xX21, xX22, xX23⟩ := X2.u4; have hx := HX.out
  go_upto_region 2 with (fail)
  clear hx; clear xX20 xX21 xX22 xX23; have lX5 := Nat.le_refl (World.heap w1).size; have nX5X2 := X2.lt; have nX5XR := XR.lt; generalize hWn : w1.alloc _ = w2 at *; obtain ⟨X5, BW⟩ := Bo.nw hWn; clear hWn; replace X2 := X2.below BW; replace XR := XR.below BW; replace HB := Lib.hid (bt HB.out BW); clear BW; clear lX5; obtain ⟨xX20, xX21, xX22, xX23⟩ := X2.u4; obtain ⟨xX50, xX51, xX52, xX53⟩ := X5.u4
  go_upto_region 3 with (fail)
  clear xX20 xX21 xX22 xX23 xX50 xX51 xX52 xX53
  refine Jo.region_late (g := w1.heap.size) (new := #[.bool s, .int .u64 H, .int .u64 0, .int .i64 X]) (R := 85) (T := [0, 1, 2, 3, 4, 5, 6, 7, 8, 9, 10, 11]) (ds := [some 15, some 16, some 17, some 18, some 19, some 20, some 21, some 22, some 23, some 24, none, some 25, none]) (ls := [[], [0], [], [1, 2], [], [4], [], [6], [5, 7], [], [3, 9], [], []]) (k := 13) (L := [(some 15, 0), (some 16, 1), (some 17, 2), (some 18, 3), (some 19, 4), (some 20, 5), (some 21, 6), (some 22, 7), (some 23, 8), (some 24, 9), (none, 10), (some 25, 11)]) (fuel := 1)
    (F := [Jo.LFact.eq (.pointer (some ⟨w.heap.size, 2, none⟩)), Jo.LFact.eq (.int .u64 M), Jo.LFact.eq (.int .i64 N), Jo.LFact.eq (.int .u64 H), Jo.LFact.eq (.pointer (some ⟨w.heap.size, 2, none⟩)), Jo.LFact.eq (.int .u64 M), Jo.LFact.eq (.int .i64 N), Jo.LFact.eq (.int .i64 (64 - N)), Jo.LFact.eq (.int .u64 L), Jo.LFact.eq (.pointer (some ⟨w1.heap.size, 1, none⟩)), Jo.LFact.done, Jo.LFact.eq (.pointer (some ⟨w1.heap.size, 2, none⟩)), Jo.LFact.any])
    (by kernel_rfl) (by kernel_rfl) (by decide) rfl rfl ?_ (fun vs w3 hJ hd => ?_)
  · refine Jo.ld 0 (some 15) [] (Jo.LFact.eq (.pointer (some ⟨w.heap.size, 2, none⟩))) rfl rfl rfl rfl (fun vs wj hJ hd K hK => ?_) ?_
    · simp only [Jo.putl, Jo.ze, Act.put, Jo.za, Jo.zb, Jo.zc] at hK ⊢; clear hd; go_simp; exact hK.out _ _ rfl (Jo.Off.refl _ _ _ _)
    refine Jo.ld 1 (some 16) [(some 15, 0)] (Jo.LFact.eq (.int .u64 M)) rfl rfl rfl rfl (fun vs wj hJ hd K hK => ?_) ?_
    · simp only [Jo.putl, Jo.zd, Jo.ze, Act.put, Jo.za, Jo.zb, Jo.zc] at hK ⊢
      rw [show vs 0 = _ from hd 0 (by decide)] at hK ⊢
      clear hd; replace X2 := X2.off (by omega) hJ; obtain ⟨xX20, xX21, xX22, xX23⟩ := X2.u4; go_simp; exact hK.out _ _ rfl (Jo.Off.refl _ _ _ _)
    refine Jo.ld 2 (some 17) [] (Jo.LFact.eq (.int .i64 N)) rfl rfl rfl rfl (fun vs wj hJ hd K hK => ?_) ?_
    · simp only [Jo.putl, Jo.ze, Act.put, Jo.za, Jo.zb, Jo.zc] at hK ⊢; clear hd; go_simp; exact hK.out _ _ rfl (Jo.Off.refl _ _ _ _)
    refine Jo.ld 3 (some 18) [(some 16, 1), (some 17, 2)] (Jo.LFact.eq (.int .u64 H)) rfl rfl rfl rfl (fun vs wj hJ hd K hK => ?_) ?_
    · simp only [Jo.putl, Jo.zd, Jo.ze, Act.put, Jo.za, Jo.zb, Jo.zc] at hK ⊢
      rw [show vs 1 = _ from hd 1 (by decide), show vs 2 = _ from hd 2 (by decide)] at hK ⊢
      clear hd; have hh := HH.out; go_simp; exact hK.out _ _ rfl (Jo.Off.refl _ _ _ _)
    refine Jo.ld 4 (some 19) [] (Jo.LFact.eq (.pointer (some ⟨w.heap.size, 2, none⟩))) rfl rfl rfl rfl (fun vs wj hJ hd K hK => ?_) ?_
    · simp only [Jo.putl, Jo.ze, Act.put, Jo.za, Jo.zb, Jo.zc] at hK ⊢; clear hd; go_simp; exact hK.out _ _ rfl (Jo.Off.refl _ _ _ _)
    refine Jo.ld 5 (some 20) [(some 19, 4)] (Jo.LFact.eq (.int .u64 M)) rfl rfl rfl rfl (fun vs wj hJ hd K hK => ?_) ?_
    · simp only [Jo.putl, Jo.zd, Jo.ze, Act.put, Jo.za, Jo.zb, Jo.zc] at hK ⊢
      rw [show vs 4 = _ from hd 4 (by decide)] at hK ⊢
      clear hd; replace X2 := X2.off (by omega) hJ; obtain ⟨xX20, xX21, xX22, xX23⟩ := X2.u4; go_simp; exact hK.out _ _ rfl (Jo.Off.refl _ _ _ _)
    refine Jo.ld 6 (some 21) [] (Jo.LFact.eq (.int .i64 N)) rfl rfl rfl rfl (fun vs wj hJ hd K hK => ?_) ?_
    · simp only [Jo.putl, Jo.ze, Act.put, Jo.za, Jo.zb, Jo.zc] at hK ⊢; clear hd; go_simp; exact hK.out _ _ rfl (Jo.Off.refl _ _ _ _)
    refine Jo.ld 7 (some 22) [(some 21, 6)] (Jo.LFact.eq (.int .i64 (64 - N))) rfl rfl rfl rfl (fun vs wj hJ hd K hK => ?_) ?_
    · simp only [Jo.putl, Jo.zd, Jo.ze, Act.put, Jo.za, Jo.zb, Jo.zc] at hK ⊢
      rw [show vs 6 = _ from hd 6 (by decide)] at hK ⊢
      clear hd; have hsb := HSB.out; go_simp; exact hK.out _ _ rfl (Jo.Off.refl _ _ _ _)
    refine Jo.ld 8 (some 23) [(some 20, 5), (some 22, 7)] (Jo.LFact.eq (.int .u64 L)) rfl rfl rfl rfl (fun vs wj hJ hd K hK => ?_) ?_
    · simp only [Jo.putl, Jo.zd, Jo.ze, Act.put, Jo.za, Jo.zb, Jo.zc] at hK ⊢
      rw [show vs 5 = _ from hd 5 (by decide), show vs 7 = _ from hd 7 (by decide)] at hK ⊢
      clear hd; have hp := HP.out; have hl := HL.out; go_simp; exact hK.out _ _ rfl (Jo.Off.refl _ _ _ _)
    refine Jo.ld 9 (some 24) [] (Jo.LFact.eq (.pointer (some ⟨w1.heap.size, 1, none⟩))) rfl rfl rfl rfl (fun vs wj hJ hd K hK => ?_) ?_
    · simp only [Jo.putl, Jo.ze, Act.put, Jo.za, Jo.zb, Jo.zc] at hK ⊢; clear hd; go_simp; exact hK.out _ _ rfl (Jo.Off.refl _ _ _ _)
    refine Jo.ld 10 (none) [(some 18, 3), (some 24, 9)] (Jo.LFact.done) rfl rfl rfl rfl (fun vs wj hJ hd K hK => ?_) ?_
    · have d3 : (Jo.LFact.eq (.int .u64 H)).P (vs 3) wj := hd 3 (by decide)
      simp only [Jo.putl, Jo.zd, Jo.ze, Act.put, Jo.za, Jo.zb, Jo.zc] at hK ⊢
      rw [show vs 9 = _ from hd 9 (by decide)] at hK ⊢
      clear hd; generalize vs 3 = u3 at hK d3 ⊢
      replace d3 : u3 = _ := d3
      subst d3
      rcases hJ.own with e | e
      · have XO : Bo wj (w1.heap.size) #[.bool s, .int .u64 0, .int .u64 0, .int .i64 X] 85 := X5.keep e
        have y0 := XO.a 0 (.bool s) rfl; have u0 := XO.frozen 0; have y1 := XO.a 1 (.int .u64 0) rfl; have u1 := XO.frozen 1; have y2 := XO.a 2 (.int .u64 0) rfl; have u2 := XO.frozen 2; have y3 := XO.a 3 (.int .i64 X) rfl; have u3 := XO.frozen 3; go_simp
        have SX : StN wj (World.setCell wj ⟨w1.heap.size, 1, none⟩ (.int .u64 H)) _ _ #[.bool s, .int .u64 H, .int .u64 0, .int .i64 X] _ := StN.at4 XO 1 (.int .u64 H)
        exact hK.out undef _ SX.box (Jo.Off.of_stn SX)
      · have XO : Bo wj (w1.heap.size) #[.bool s, .int .u64 H, .int .u64 0, .int .i64 X] 85 := e
        have y0 := XO.a 0 (.bool s) rfl; have u0 := XO.frozen 0; have y1 := XO.a 1 (.int .u64 H) rfl; have u1 := XO.frozen 1; have y2 := XO.a 2 (.int .u64 0) rfl; have u2 := XO.frozen 2; have y3 := XO.a 3 (.int .i64 X) rfl; have u3 := XO.frozen 3; go_simp
        have SX : StN wj (World.setCell wj ⟨w1.heap.size, 1, none⟩ (.int .u64 H)) _ _ #[.bool s, .int .u64 H, .int .u64 0, .int .i64 X] _ := StN.at4 XO 1 (.int .u64 H)
        exact hK.out undef _ SX.box (Jo.Off.of_stn SX)
    refine Jo.ld 11 (some 25) [] (Jo.LFact.eq (.pointer (some ⟨w1.heap.size, 2, none⟩))) rfl rfl rfl rfl (fun vs wj hJ hd K hK => ?_) ?_
    · simp only [Jo.putl, Jo.ze, Act.put, Jo.za, Jo.zb, Jo.zc] at hK ⊢; clear hd; go_simp; exact hK.out _ _ rfl (Jo.Off.refl _ _ _ _)
    exact Jo.Steps.nil
  have d10 : (Jo.LFact.done).P (vs 10) w3 := hd 10 (by decide)
  simp only [Jo.putl, Jo.zd, Jo.ze, Act.put, Jo.za, Jo.zb, Jo.zc]
  rw [show vs 1 = _ from hd 1 (by decide), show vs 2 = _ from hd 2 (by decide), show vs 3 = _ from hd 3 (by decide), show vs 5 = _ from hd 5 (by decide), show vs 6 = _ from hd 6 (by decide), show vs 7 = _ from hd 7 (by decide), show vs 8 = _ from hd 8 (by decide), show vs 11 = _ from hd 11 (by decide)]
  clear hd; generalize vs 10 = u10 at d10 ⊢; replace HB := Lib.hid (hJ.below HB.out (by omega) X5.lt); replace X2 := X2.off (by omega) hJ; replace XR := XR.off (by omega) hJ
  replace X5 : Bo w3 (w1.heap.size) #[.bool s, .int .u64 H, .int .u64 0, .int .i64 X] 85 := d10
  obtain ⟨xX50, xX51, xX52, xX53⟩ := X5.u4; have zX50 := X5.frozen
  refine Jo.jnext (i := 12) (o := ⟨none, _, _, _, _, _⟩) (by kernel_rfl) rfl (fun K hK => ?_)
  go_simp; refine hK.out _ _ ?_; clear hK K xX50 zX50 xX51 xX52 xX53
  have SX : StN w3 (World.setCell w3 ⟨w1.heap.size, 2, none⟩ (.int .u64 L)) _ _ #[.bool s, .int .u64 H, .int .u64 L, .int .i64 X] _ := StN.at4 X5 2 (.int .u64 L)
  replace X2 := X2.stn SX (by omega); replace XR := XR.stn SX (by omega); replace HB := Lib.hid (SX.below HB.out (by omega)); replace X5 := SX.box; clear SX; generalize World.setCell w3 ⟨w1.heap.size, 2, none⟩ (.int .u64 L) = w4 at *; refine Jo.jdone (by kernel_rfl) ?_; obtain ⟨xXR0, xXR1, xXR2, xXR3⟩ := XR.u4; have zXR0 := XR.frozen; obtain ⟨xX50, xX51, xX52, xX53⟩ := X5.u4; go_wp2; clear xXR0 zXR0 xXR1 xXR2 xXR3 xX50 xX51 xX52 xX53
  have SX := StN.mk4 XR (.bool s) (.int .u64 H) (.int .u64 L) (.int .i64 X); exact bodyPost_ret (v := .agg #[.bool s, .int .u64 H, .int .u64 L, .int .i64 X]) (by simp [results, Tryz.results166, go_sem, SX.box.cell]) rfl ⟨H, L, rfl, ⟨v1, v2, l1.1, l1.2, HV.out⟩, (SX.below HB.out (by omega))⟩
set_option maxHeartbeats 4000000 in
theorem moved_even {w : World} {s : Bool} {M E N X : Int} {n : Nat} (hT : Tb w) (h0 : 9223372036854775808 ≤ M) (hM : M < 18446744073709551616) (hN : (n : Int) = N) (hX : E + N = X) (b1 : -2000000 ≤ E) (b2 : E ≤ 2000000) (n1 : 1 ≤ n) (n2 : 64 < n) (n3 : n ≤ 4000000) (hr : M % 2 ^ (n - 64) = 0) : Calls Tryz.prog 166 #[.agg #[.int .i64 1, .bool s, .int .u64 M, .int .i64 E], .int .i64 N] w (PMv w s (mvd M n) X) := by
  obtain ⟨v1, v2⟩ := div_le_self (show 0 ≤ M by omega) (p2pos (n - 64))
  obtain ⟨Q, hQ⟩ : ∃ Q, M / 2 ^ (n - 64) = Q := ⟨_, rfl⟩; obtain ⟨k, hk⟩ : ∃ k, N - 64 = k := ⟨_, rfl⟩
  have hkn : k.toNat = n - 64 := by omega
  have k1 : 1 ≤ k := by omega
  rw [hQ] at v1 v2
  have hV : mvd M n = Q := by
    unfold mvd
    rw [if_neg (by omega), if_pos hr, hQ]
  obtain ⟨m, hm⟩ : ∃ m : Nat, (m : Int) = M := ⟨M.toNat, by omega⟩
  obtain ⟨z, hz⟩ : ∃ z, ((Lib.ctz 64 m : Nat) : Int) = z := ⟨_, rfl⟩
  have m0 : m ≠ 0 := by omega
  have m1 : m < 18446744073709551616 := by omega
  have hc : ¬ z < k := by
    have h1 := ctz_dvd (n := n - 64) m0 m1
    have h2 : m % 2 ^ (n - 64) = 0 ↔ M % 2 ^ (n - 64) = 0 := by
      rw [← hm]
      constructor
      · intro c
        have : ((m % 2 ^ (n - 64) : Nat) : Int) = 0 := by rw [c]; rfl
        rw [← this]
        push_cast
        rfl
      · intro c
        have : ((m % 2 ^ (n - 64) : Nat) : Int) = 0 := by
          rw [← c]
          push_cast
          rfl
        omega
    have h3 : n - 64 ≤ Lib.ctz 64 m ↔ M % 2 ^ (n - 64) = 0 := h1.trans h2
    have h4 := h3.2 hr
    omega
  have HSH : Hid (Op.shift .shr .u64 M .i64 k = pure (.int .u64 Q)) := Lib.hid (shr64_any (by omega) hM (by omega) (by rw [hkn]; exact hQ))
  have HQ : Hid (M / 2 ^ k.toNat = Q) := Lib.hid (by rw [hkn]; exact hQ)
  have HX := Lib.hid (show IntKind.i64.wrap (E + N) = X by rw [hX]; exact IntWalk.i64_in _ (by omega))
  have HK := Lib.hid (show IntKind.i64.wrap (N - 64) = k by rw [hk]; exact IntWalk.i64_in _ (by omega))
  have HM := Lib.hid hm; have HZ := Lib.hid hz; have HV := Lib.hid hV; have HO := Lib.hid (or_one (Q := Q) v1 (by omega))
  have m2 : ¬ N ≤ 64 := by omega
  obtain ⟨o, ho⟩ : ∃ o, Q / 2 * 2 + 1 = o := ⟨_, rfl⟩; rw [ho] at HO
  have ob : 0 ≤ o ∧ o < 18446744073709551616 := by omega
  have HOO := Lib.hid ho; clear hQ hX hN hm hz hV hr ho hkn hk
  go_enter Tryz.func166, Tryz.ntmps166
  go_upto_region 1 with (fail)
  generalize hW1 : (w.alloc _).alloc _ = w1 at *; obtain ⟨X2, XR, HB⟩ := Bo.en2 hW1; replace hT := hT.below HB.out; clear hW1; obtain ⟨xX20, xX21, xX22, xX23⟩ := X2.u4; have hx := HX.out
  go_upto_region 2 with (fail)
  clear hx; clear xX20 xX21 xX22 xX23; have lX5 := Nat.le_refl (World.heap w1).size; have nX5X2 := X2.lt; have nX5XR := XR.lt; generalize hWn : w1.alloc _ = w2 at *; obtain ⟨X5, BW⟩ := Bo.nw hWn; clear hWn; replace X2 := X2.below BW; replace XR := XR.below BW; replace hT := hT.below BW; replace HB := Lib.hid (bt HB.out BW); clear BW; clear lX5; obtain ⟨xX20, xX21, xX22, xX23⟩ := X2.u4; obtain ⟨xX50, xX51, xX52, xX53⟩ := X5.u4
  have zX50 := X5.frozen; have hkk := HK.out; have hsh := HSH.out; have hq := HQ.out
  go_upto_region 7 with (fail)
  clear hkk hsh hq; clear xX20 xX21 xX22 xX23 xX50 zX50 xX51 xX52 xX53
  have SX : StN w2 (World.setCell w2 ⟨w1.heap.size, 2, none⟩ (.int .u64 Q)) _ _ #[.bool s, .int .u64 0, .int .u64 Q, .int .i64 X] _ := StN.at4 X5 2 (.int .u64 Q)
  replace X2 := X2.stn SX (by omega); replace XR := XR.stn SX (by omega); replace hT := hT.stn SX (by simp [no8]); replace HB := Lib.hid (SX.below HB.out (by omega)); replace X5 := SX.box; clear SX; generalize World.setCell w2 ⟨w1.heap.size, 2, none⟩ (.int .u64 Q) = w3 at *; obtain ⟨xX20, xX21, xX22, xX23⟩ := X2.u4
  go_wp2_with fail
  refine (aTz hT m0 m1 HM.out HZ.out).mono ?_; rintro ee w4 ⟨rfl, B⟩; clear xX20 xX21 xX22 xX23; replace X2 := X2.below B; replace XR := XR.below B; replace X5 := X5.below B; replace hT := hT.below B; replace HB := Lib.hid (bt HB.out B); clear B; obtain ⟨xXR0, xXR1, xXR2, xXR3⟩ := XR.u4; have zXR0 := XR.frozen; obtain ⟨xX50, xX51, xX52, xX53⟩ := X5.u4; go_wp2; clear xXR0 zXR0 xXR1 xXR2 xXR3 xX50 xX51 xX52 xX53
  have SX := StN.mk4 XR (.bool s) (.int .u64 0) (.int .u64 Q) (.int .i64 X); exact bodyPost_ret (v := .agg #[.bool s, .int .u64 0, .int .u64 Q, .int .i64 X]) (by simp [results, Tryz.results166, go_sem, SX.box.cell]) rfl ⟨0, Q, rfl, ⟨by decide, by decide, v1, by omega, by rw [HV.out]; omega⟩, (SX.below HB.out (by omega))⟩
set_option maxHeartbeats 4000000 in
theorem moved_odd {w : World} {s : Bool} {M E N X : Int} {n : Nat} (hT : Tb w) (h0 : 9223372036854775808 ≤ M) (hM : M < 18446744073709551616) (hN : (n : Int) = N) (hX : E + N = X) (b1 : -2000000 ≤ E) (b2 : E ≤ 2000000) (n1 : 1 ≤ n) (n2 : 64 < n) (n3 : n ≤ 4000000) (hr : M % 2 ^ (n - 64) ≠ 0) : Calls Tryz.prog 166 #[.agg #[.int .i64 1, .bool s, .int .u64 M, .int .i64 E], .int .i64 N] w (PMv w s (mvd M n) X) := by
  obtain ⟨v1, v2⟩ := div_le_self (show 0 ≤ M by omega) (p2pos (n - 64))
  obtain ⟨Q, hQ⟩ : ∃ Q, M / 2 ^ (n - 64) = Q := ⟨_, rfl⟩; obtain ⟨k, hk⟩ : ∃ k, N - 64 = k := ⟨_, rfl⟩
  have hkn : k.toNat = n - 64 := by omega
  have k1 : 1 ≤ k := by omega
  rw [hQ] at v1 v2
  have hV : mvd M n = Q / 2 * 2 + 1 := by
    unfold mvd
    rw [if_neg (by omega), if_neg hr, hQ]
  obtain ⟨m, hm⟩ : ∃ m : Nat, (m : Int) = M := ⟨M.toNat, by omega⟩
  obtain ⟨z, hz⟩ : ∃ z, ((Lib.ctz 64 m : Nat) : Int) = z := ⟨_, rfl⟩
  have m0 : m ≠ 0 := by omega
  have m1 : m < 18446744073709551616 := by omega
  have hc : z < k := by
    have h1 := ctz_dvd (n := n - 64) m0 m1
    have h2 : m % 2 ^ (n - 64) = 0 ↔ M % 2 ^ (n - 64) = 0 := by
      rw [← hm]
      constructor
      · intro c
        have : ((m % 2 ^ (n - 64) : Nat) : Int) = 0 := by rw [c]; rfl
        rw [← this]
        push_cast
        rfl
      · intro c
        have : ((m % 2 ^ (n - 64) : Nat) : Int) = 0 := by
          rw [← c]
          push_cast
          rfl
        omega
    have h3 : n - 64 ≤ Lib.ctz 64 m ↔ M % 2 ^ (n - 64) = 0 := h1.trans h2
    have h4 : ¬ (n - 64 ≤ Lib.ctz 64 m) := fun c => hr (h3.1 c)
    omega
  have HSH : Hid (Op.shift .shr .u64 M .i64 k = pure (.int .u64 Q)) := Lib.hid (shr64_any (by omega) hM (by omega) (by rw [hkn]; exact hQ))
  have HQ : Hid (M / 2 ^ k.toNat = Q) := Lib.hid (by rw [hkn]; exact hQ)
  have HX := Lib.hid (show IntKind.i64.wrap (E + N) = X by rw [hX]; exact IntWalk.i64_in _ (by omega))
  have HK := Lib.hid (show IntKind.i64.wrap (N - 64) = k by rw [hk]; exact IntWalk.i64_in _ (by omega))
  have HM := Lib.hid hm; have HZ := Lib.hid hz; have HV := Lib.hid hV; have HO := Lib.hid (or_one (Q := Q) v1 (by omega))
  have m2 : ¬ N ≤ 64 := by omega
  obtain ⟨o, ho⟩ : ∃ o, Q / 2 * 2 + 1 = o := ⟨_, rfl⟩; rw [ho] at HO
  have ob : 0 ≤ o ∧ o < 18446744073709551616 := by omega
  have HOO := Lib.hid ho; clear hQ hX hN hm hz hV hr ho hkn hk
  go_enter Tryz.func166, Tryz.ntmps166
  go_upto_region 1 with (fail)
  generalize hW1 : (w.alloc _).alloc _ = w1 at *; obtain ⟨X2, XR, HB⟩ := Bo.en2 hW1; replace hT := hT.below HB.out; clear hW1; obtain ⟨xX20, xX21, xX22, xX23⟩ := X2.u4; have hx := HX.out
  go_upto_region 2 with (fail)
  clear hx; clear xX20 xX21 xX22 xX23; have lX5 := Nat.le_refl (World.heap w1).size; have nX5X2 := X2.lt; have nX5XR := XR.lt; generalize hWn : w1.alloc _ = w2 at *; obtain ⟨X5, BW⟩ := Bo.nw hWn; clear hWn; replace X2 := X2.below BW; replace XR := XR.below BW; replace hT := hT.below BW; replace HB := Lib.hid (bt HB.out BW); clear BW; clear lX5; obtain ⟨xX20, xX21, xX22, xX23⟩ := X2.u4; obtain ⟨xX50, xX51, xX52, xX53⟩ := X5.u4
  have zX50 := X5.frozen; have hkk := HK.out; have hsh := HSH.out; have hq := HQ.out
  go_upto_region 7 with (fail)
  clear hkk hsh hq; clear xX20 xX21 xX22 xX23 xX50 zX50 xX51 xX52 xX53
  have SX : StN w2 (World.setCell w2 ⟨w1.heap.size, 2, none⟩ (.int .u64 Q)) _ _ #[.bool s, .int .u64 0, .int .u64 Q, .int .i64 X] _ := StN.at4 X5 2 (.int .u64 Q)
  replace X2 := X2.stn SX (by omega); replace XR := XR.stn SX (by omega); replace hT := hT.stn SX (by simp [no8]); replace HB := Lib.hid (SX.below HB.out (by omega)); replace X5 := SX.box; clear SX; generalize World.setCell w2 ⟨w1.heap.size, 2, none⟩ (.int .u64 Q) = w3 at *; obtain ⟨xX20, xX21, xX22, xX23⟩ := X2.u4
  go_wp2_with fail
  refine (aTz hT m0 m1 HM.out HZ.out).mono ?_; rintro ee w4 ⟨rfl, B⟩; clear xX20 xX21 xX22 xX23; replace X2 := X2.below B; replace XR := XR.below B; replace X5 := X5.below B; replace hT := hT.below B; replace HB := Lib.hid (bt HB.out B); clear B; obtain ⟨xX50, xX51, xX52, xX53⟩ := X5.u4; have zX50 := X5.frozen; have ho := HO.out
  go_upto_region 9 with (fail)
  clear ho; clear xX50 zX50 xX51 xX52 xX53
  have SX : StN w4 (World.setCell w4 ⟨w1.heap.size, 2, none⟩ (.int .u64 o)) _ _ #[.bool s, .int .u64 0, .int .u64 o, .int .i64 X] _ := StN.at4 X5 2 (.int .u64 o)
  replace X2 := X2.stn SX (by omega); replace XR := XR.stn SX (by omega); replace hT := hT.stn SX (by simp [no8]); replace HB := Lib.hid (SX.below HB.out (by omega)); replace X5 := SX.box; clear SX; generalize World.setCell w4 ⟨w1.heap.size, 2, none⟩ (.int .u64 o) = w5 at *; obtain ⟨xXR0, xXR1, xXR2, xXR3⟩ := XR.u4; have zXR0 := XR.frozen; obtain ⟨xX50, xX51, xX52, xX53⟩ := X5.u4; go_wp2; clear xXR0 zXR0 xXR1 xXR2 xXR3 xX50 xX51 xX52 xX53
  have SX := StN.mk4 XR (.bool s) (.int .u64 0) (.int .u64 o) (.int .i64 X); exact bodyPost_ret (v := .agg #[.bool s, .int .u64 0, .int .u64 o, .int .i64 X]) (by simp [results, Tryz.results166, go_sem, SX.box.cell]) rfl ⟨0, o, rfl, ⟨by decide, by decide, ob.1, ob.2, by rw [HV.out, HOO.out]; omega⟩, (SX.below HB.out (by omega))⟩
theorem aMoved {w : World} {s : Bool} {M E N X : Int} {n : Nat} (hT : Tb w) (h0 : 9223372036854775808 ≤ M) (hM : M < 18446744073709551616) (hN : (n : Int) = N) (hX : E + N = X) (b1 : -2000000 ≤ E) (b2 : E ≤ 2000000) (n1 : 1 ≤ n) (n3 : n ≤ 4000000) : Calls Tryz.prog 166 #[.agg #[.int .i64 1, .bool s, .int .u64 M, .int .i64 E], .int .i64 N] w (PMv w s (mvd M n) X) := by
  by_cases n2 : n ≤ 64
  · exact moved_low hT h0 hM hN hX b1 b2 n1 n2
  · by_cases hr : M % 2 ^ (n - 64) = 0
    · exact moved_even hT h0 hM hN hX b1 b2 n1 (by omega) n3 hr
    · exact moved_odd hT h0 hM hN hX b1 b2 n1 (by omega) n3 hr
set_option maxHeartbeats 4000000 in
theorem order_lt {w : World} {s1 s2 : Bool} {M1 M2 E1 E2 : Int} (h : E1 < E2) : Calls Tryz.prog 165 #[.agg #[.int .i64 1, .bool s1, .int .u64 M1, .int .i64 E1], .agg #[.int .i64 1, .bool s2, .int .u64 M2, .int .i64 E2]] w fun e w' => e = .returned (.tuple #[.agg #[.int .i64 1, .bool s2, .int .u64 M2, .int .i64 E2], .agg #[.int .i64 1, .bool s1, .int .u64 M1, .int .i64 E1]]) ∧ Below w.heap.size w w' := by
  go_enter Tryz.func165, Tryz.ntmps165
  go_upto_region 1 with (fail)
  generalize hW1 : (((w.alloc _).alloc _).alloc _).alloc _ = w1 at *; obtain ⟨X2, X3, X4, X5, HB⟩ := Bo.en4 hW1; clear hW1; obtain ⟨xX20, xX21, xX22, xX23⟩ := X2.u4; obtain ⟨xX30, xX31, xX32, xX33⟩ := X3.u4
  go_upto_region 2 with (fail)
  clear xX20 xX21 xX22 xX23 xX30 xX31 xX32 xX33
  refine Jo.region_late (g := w.heap.size + 1 + 1) (new := #[.int .i64 1, .bool s2, .int .u64 M2, .int .i64 E2]) (R := 24) (T := [0, 1, 2]) (ds := [some 25, some 26, none, none]) (ls := [[], [], [0], []]) (k := 4) (L := [(some 25, 0), (some 26, 1), (none, 2)]) (fuel := 1)
    (F := [Jo.LFact.eq (.agg #[.int .i64 1, .bool s2, .int .u64 M2, .int .i64 E2]), Jo.LFact.eq (.agg #[.int .i64 1, .bool s1, .int .u64 M1, .int .i64 E1]), Jo.LFact.done, Jo.LFact.any])
    (by kernel_rfl) (by kernel_rfl) (by decide) rfl rfl ?_ (fun vs w2 hJ hd => ?_)
  · refine Jo.ld 0 (some 25) [] (Jo.LFact.eq (.agg #[.int .i64 1, .bool s2, .int .u64 M2, .int .i64 E2])) rfl rfl rfl rfl (fun vs wj hJ hd K hK => ?_) ?_
    · simp only [Jo.putl, Jo.ze, Act.put, Jo.za, Jo.zb, Jo.zc] at hK ⊢; clear hd; replace X3 := X3.off (by omega) hJ; obtain ⟨xX30, xX31, xX32, xX33⟩ := X3.u4; go_simp; exact hK.out _ _ rfl (Jo.Off.refl _ _ _ _)
    refine Jo.ld 1 (some 26) [] (Jo.LFact.eq (.agg #[.int .i64 1, .bool s1, .int .u64 M1, .int .i64 E1])) rfl rfl rfl rfl (fun vs wj hJ hd K hK => ?_) ?_
    · simp only [Jo.putl, Jo.ze, Act.put, Jo.za, Jo.zb, Jo.zc] at hK ⊢; clear hd; replace X2 := X2.off (by omega) hJ; obtain ⟨xX20, xX21, xX22, xX23⟩ := X2.u4; go_simp; exact hK.out _ _ rfl (Jo.Off.refl _ _ _ _)
    refine Jo.ld 2 (none) [(some 25, 0)] (Jo.LFact.done) rfl rfl rfl rfl (fun vs wj hJ hd K hK => ?_) ?_
    · have d0 : (Jo.LFact.eq (.agg #[.int .i64 1, .bool s2, .int .u64 M2, .int .i64 E2])).P (vs 0) wj := hd 0 (by decide)
      simp only [Jo.putl, Jo.zd, Jo.ze, Act.put, Jo.za, Jo.zb, Jo.zc] at hK ⊢; clear hd; generalize vs 0 = u0 at hK d0 ⊢
      replace d0 : u0 = _ := d0
      subst d0
      obtain ⟨v0, v1, v2, v3, XO⟩ : ∃ v0 v1 v2 v3, Bo wj (w.heap.size + 1 + 1) #[v0, v1, v2, v3] 24 := by
        rcases hJ.own with e | e
        · exact ⟨_, _, _, _, X4.keep e⟩
        · exact ⟨_, _, _, _, e⟩
      have y0 := XO.a 0 (v0) rfl; have u0 := XO.frozen 0; have y1 := XO.a 1 (v1) rfl; have u1 := XO.frozen 1; have y2 := XO.a 2 (v2) rfl; have u2 := XO.frozen 2; have y3 := XO.a 3 (v3) rfl; have u3 := XO.frozen 3; go_simp; have SX := StN.mk4 XO (.int .i64 1) (.bool s2) (.int .u64 M2) (.int .i64 E2); exact hK.out undef _ SX.box (Jo.Off.of_stn SX)
    exact Jo.Steps.nil
  have d2 : (Jo.LFact.done).P (vs 2) w2 := hd 2 (by decide)
  simp only [Jo.putl, Jo.zd, Jo.ze, Act.put, Jo.za, Jo.zb, Jo.zc]
  rw [show vs 0 = _ from hd 0 (by decide), show vs 1 = _ from hd 1 (by decide)]
  clear hd; generalize vs 2 = u2 at d2 ⊢; replace HB := Lib.hid (hJ.below HB.out (by omega) X4.lt); replace X2 := X2.off (by omega) hJ; replace X3 := X3.off (by omega) hJ; replace X5 := X5.off (by omega) hJ
  replace X4 : Bo w2 (w.heap.size + 1 + 1) #[.int .i64 1, .bool s2, .int .u64 M2, .int .i64 E2] 24 := d2
  obtain ⟨xX50, xX51, xX52, xX53⟩ := X5.u4; have zX50 := X5.frozen
  refine Jo.jnext (i := 3) (o := ⟨none, _, _, _, _, _⟩) (by kernel_rfl) rfl (fun K hK => ?_)
  go_simp; refine hK.out _ _ ?_; clear hK K xX50 zX50 xX51 xX52 xX53; generalize hS : (((w2.setCell _ _).setCell _ _).setCell _ _).setCell _ _ = w3 at *; have SX := StN.of4 X5 hS; replace X2 := X2.stn SX (by omega); replace X3 := X3.stn SX (by omega); replace X4 := X4.stn SX (by omega); replace HB := Lib.hid (SX.below HB.out (by omega)); replace X5 := SX.box; clear SX hS; refine Jo.jdone (by kernel_rfl) ?_
  go_wp2; exact bodyPost_ret (v := .tuple #[.agg #[.int .i64 1, .bool s2, .int .u64 M2, .int .i64 E2], .agg #[.int .i64 1, .bool s1, .int .u64 M1, .int .i64 E1]]) (by simp [results, Tryz.results165, go_sem, X4.cell, X5.cell]) rfl ⟨rfl, HB.out⟩
set_option maxHeartbeats 4000000 in
theorem order_eqlt {w : World} {s1 s2 : Bool} {M1 M2 E1 E2 : Int} (h : E1 = E2) (hm : M1 < M2) : Calls Tryz.prog 165 #[.agg #[.int .i64 1, .bool s1, .int .u64 M1, .int .i64 E1], .agg #[.int .i64 1, .bool s2, .int .u64 M2, .int .i64 E2]] w fun e w' => e = .returned (.tuple #[.agg #[.int .i64 1, .bool s2, .int .u64 M2, .int .i64 E2], .agg #[.int .i64 1, .bool s1, .int .u64 M1, .int .i64 E1]]) ∧ Below w.heap.size w w' := by
  subst h
  have h1 : ¬ E1 < E1 := by omega
  go_enter Tryz.func165, Tryz.ntmps165
  go_upto_region 1 with (fail)
  generalize hW1 : (((w.alloc _).alloc _).alloc _).alloc _ = w1 at *; obtain ⟨X2, X3, X4, X5, HB⟩ := Bo.en4 hW1; clear hW1; obtain ⟨xX20, xX21, xX22, xX23⟩ := X2.u4; obtain ⟨xX30, xX31, xX32, xX33⟩ := X3.u4
  go_upto_region 2 with (fail)
  clear xX20 xX21 xX22 xX23 xX30 xX31 xX32 xX33
  refine Jo.region_late (g := w.heap.size + 1 + 1) (new := #[.int .i64 1, .bool s2, .int .u64 M2, .int .i64 E1]) (R := 24) (T := [0, 1, 2]) (ds := [some 25, some 26, none, none]) (ls := [[], [], [0], []]) (k := 4) (L := [(some 25, 0), (some 26, 1), (none, 2)]) (fuel := 1)
    (F := [Jo.LFact.eq (.agg #[.int .i64 1, .bool s2, .int .u64 M2, .int .i64 E1]), Jo.LFact.eq (.agg #[.int .i64 1, .bool s1, .int .u64 M1, .int .i64 E1]), Jo.LFact.done, Jo.LFact.any])
    (by kernel_rfl) (by kernel_rfl) (by decide) rfl rfl ?_ (fun vs w2 hJ hd => ?_)
  · refine Jo.ld 0 (some 25) [] (Jo.LFact.eq (.agg #[.int .i64 1, .bool s2, .int .u64 M2, .int .i64 E1])) rfl rfl rfl rfl (fun vs wj hJ hd K hK => ?_) ?_
    · simp only [Jo.putl, Jo.ze, Act.put, Jo.za, Jo.zb, Jo.zc] at hK ⊢; clear hd; replace X3 := X3.off (by omega) hJ; obtain ⟨xX30, xX31, xX32, xX33⟩ := X3.u4; go_simp; exact hK.out _ _ rfl (Jo.Off.refl _ _ _ _)
    refine Jo.ld 1 (some 26) [] (Jo.LFact.eq (.agg #[.int .i64 1, .bool s1, .int .u64 M1, .int .i64 E1])) rfl rfl rfl rfl (fun vs wj hJ hd K hK => ?_) ?_
    · simp only [Jo.putl, Jo.ze, Act.put, Jo.za, Jo.zb, Jo.zc] at hK ⊢; clear hd; replace X2 := X2.off (by omega) hJ; obtain ⟨xX20, xX21, xX22, xX23⟩ := X2.u4; go_simp; exact hK.out _ _ rfl (Jo.Off.refl _ _ _ _)
    refine Jo.ld 2 (none) [(some 25, 0)] (Jo.LFact.done) rfl rfl rfl rfl (fun vs wj hJ hd K hK => ?_) ?_
    · have d0 : (Jo.LFact.eq (.agg #[.int .i64 1, .bool s2, .int .u64 M2, .int .i64 E1])).P (vs 0) wj := hd 0 (by decide)
      simp only [Jo.putl, Jo.zd, Jo.ze, Act.put, Jo.za, Jo.zb, Jo.zc] at hK ⊢; clear hd; generalize vs 0 = u0 at hK d0 ⊢
      replace d0 : u0 = _ := d0
      subst d0
      obtain ⟨v0, v1, v2, v3, XO⟩ : ∃ v0 v1 v2 v3, Bo wj (w.heap.size + 1 + 1) #[v0, v1, v2, v3] 24 := by
        rcases hJ.own with e | e
        · exact ⟨_, _, _, _, X4.keep e⟩
        · exact ⟨_, _, _, _, e⟩
      have y0 := XO.a 0 (v0) rfl; have u0 := XO.frozen 0; have y1 := XO.a 1 (v1) rfl; have u1 := XO.frozen 1; have y2 := XO.a 2 (v2) rfl; have u2 := XO.frozen 2; have y3 := XO.a 3 (v3) rfl; have u3 := XO.frozen 3; go_simp; have SX := StN.mk4 XO (.int .i64 1) (.bool s2) (.int .u64 M2) (.int .i64 E1); exact hK.out undef _ SX.box (Jo.Off.of_stn SX)
    exact Jo.Steps.nil
  have d2 : (Jo.LFact.done).P (vs 2) w2 := hd 2 (by decide)
  simp only [Jo.putl, Jo.zd, Jo.ze, Act.put, Jo.za, Jo.zb, Jo.zc]
  rw [show vs 0 = _ from hd 0 (by decide), show vs 1 = _ from hd 1 (by decide)]
  clear hd; generalize vs 2 = u2 at d2 ⊢; replace HB := Lib.hid (hJ.below HB.out (by omega) X4.lt); replace X2 := X2.off (by omega) hJ; replace X3 := X3.off (by omega) hJ; replace X5 := X5.off (by omega) hJ
  replace X4 : Bo w2 (w.heap.size + 1 + 1) #[.int .i64 1, .bool s2, .int .u64 M2, .int .i64 E1] 24 := d2
  obtain ⟨xX50, xX51, xX52, xX53⟩ := X5.u4; have zX50 := X5.frozen
  refine Jo.jnext (i := 3) (o := ⟨none, _, _, _, _, _⟩) (by kernel_rfl) rfl (fun K hK => ?_)
  go_simp; refine hK.out _ _ ?_; clear hK K xX50 zX50 xX51 xX52 xX53; generalize hS : (((w2.setCell _ _).setCell _ _).setCell _ _).setCell _ _ = w3 at *; have SX := StN.of4 X5 hS; replace X2 := X2.stn SX (by omega); replace X3 := X3.stn SX (by omega); replace X4 := X4.stn SX (by omega); replace HB := Lib.hid (SX.below HB.out (by omega)); replace X5 := SX.box; clear SX hS; refine Jo.jdone (by kernel_rfl) ?_
  go_wp2; exact bodyPost_ret (v := .tuple #[.agg #[.int .i64 1, .bool s2, .int .u64 M2, .int .i64 E1], .agg #[.int .i64 1, .bool s1, .int .u64 M1, .int .i64 E1]]) (by simp [results, Tryz.results165, go_sem, X4.cell, X5.cell]) rfl ⟨rfl, HB.out⟩
set_option maxHeartbeats 4000000 in
theorem order_eqge {w : World} {s1 s2 : Bool} {M1 M2 E1 E2 : Int} (h : E1 = E2) (hm : ¬ M1 < M2) : Calls Tryz.prog 165 #[.agg #[.int .i64 1, .bool s1, .int .u64 M1, .int .i64 E1], .agg #[.int .i64 1, .bool s2, .int .u64 M2, .int .i64 E2]] w fun e w' => e = .returned (.tuple #[.agg #[.int .i64 1, .bool s1, .int .u64 M1, .int .i64 E1], .agg #[.int .i64 1, .bool s2, .int .u64 M2, .int .i64 E2]]) ∧ Below w.heap.size w w' := by
  subst h
  have h1 : ¬ E1 < E1 := by omega
  go_enter Tryz.func165, Tryz.ntmps165
  go_upto_region 1 with (fail)
  generalize hW1 : (((w.alloc _).alloc _).alloc _).alloc _ = w1 at *; obtain ⟨X2, X3, X4, X5, HB⟩ := Bo.en4 hW1; clear hW1; obtain ⟨xX20, xX21, xX22, xX23⟩ := X2.u4; obtain ⟨xX30, xX31, xX32, xX33⟩ := X3.u4
  go_upto_region 3 with (fail)
  clear xX20 xX21 xX22 xX23 xX30 xX31 xX32 xX33
  refine Jo.region_late (g := w.heap.size + 1 + 1) (new := #[.int .i64 1, .bool s1, .int .u64 M1, .int .i64 E1]) (R := 24) (T := [0, 1, 2]) (ds := [some 27, some 28, none, none]) (ls := [[], [], [0], []]) (k := 4) (L := [(some 27, 0), (some 28, 1), (none, 2)]) (fuel := 1)
    (F := [Jo.LFact.eq (.agg #[.int .i64 1, .bool s1, .int .u64 M1, .int .i64 E1]), Jo.LFact.eq (.agg #[.int .i64 1, .bool s2, .int .u64 M2, .int .i64 E1]), Jo.LFact.done, Jo.LFact.any])
    (by kernel_rfl) (by kernel_rfl) (by decide) rfl rfl ?_ (fun vs w2 hJ hd => ?_)
  · refine Jo.ld 0 (some 27) [] (Jo.LFact.eq (.agg #[.int .i64 1, .bool s1, .int .u64 M1, .int .i64 E1])) rfl rfl rfl rfl (fun vs wj hJ hd K hK => ?_) ?_
    · simp only [Jo.putl, Jo.ze, Act.put, Jo.za, Jo.zb, Jo.zc] at hK ⊢; clear hd; replace X2 := X2.off (by omega) hJ; obtain ⟨xX20, xX21, xX22, xX23⟩ := X2.u4; go_simp; exact hK.out _ _ rfl (Jo.Off.refl _ _ _ _)
    refine Jo.ld 1 (some 28) [] (Jo.LFact.eq (.agg #[.int .i64 1, .bool s2, .int .u64 M2, .int .i64 E1])) rfl rfl rfl rfl (fun vs wj hJ hd K hK => ?_) ?_
    · simp only [Jo.putl, Jo.ze, Act.put, Jo.za, Jo.zb, Jo.zc] at hK ⊢; clear hd; replace X3 := X3.off (by omega) hJ; obtain ⟨xX30, xX31, xX32, xX33⟩ := X3.u4; go_simp; exact hK.out _ _ rfl (Jo.Off.refl _ _ _ _)
    refine Jo.ld 2 (none) [(some 27, 0)] (Jo.LFact.done) rfl rfl rfl rfl (fun vs wj hJ hd K hK => ?_) ?_
    · have d0 : (Jo.LFact.eq (.agg #[.int .i64 1, .bool s1, .int .u64 M1, .int .i64 E1])).P (vs 0) wj := hd 0 (by decide)
      simp only [Jo.putl, Jo.zd, Jo.ze, Act.put, Jo.za, Jo.zb, Jo.zc] at hK ⊢; clear hd; generalize vs 0 = u0 at hK d0 ⊢
      replace d0 : u0 = _ := d0
      subst d0
      obtain ⟨v0, v1, v2, v3, XO⟩ : ∃ v0 v1 v2 v3, Bo wj (w.heap.size + 1 + 1) #[v0, v1, v2, v3] 24 := by
        rcases hJ.own with e | e
        · exact ⟨_, _, _, _, X4.keep e⟩
        · exact ⟨_, _, _, _, e⟩
      have y0 := XO.a 0 (v0) rfl; have u0 := XO.frozen 0; have y1 := XO.a 1 (v1) rfl; have u1 := XO.frozen 1; have y2 := XO.a 2 (v2) rfl; have u2 := XO.frozen 2; have y3 := XO.a 3 (v3) rfl; have u3 := XO.frozen 3; go_simp; have SX := StN.mk4 XO (.int .i64 1) (.bool s1) (.int .u64 M1) (.int .i64 E1); exact hK.out undef _ SX.box (Jo.Off.of_stn SX)
    exact Jo.Steps.nil
  have d2 : (Jo.LFact.done).P (vs 2) w2 := hd 2 (by decide)
  simp only [Jo.putl, Jo.zd, Jo.ze, Act.put, Jo.za, Jo.zb, Jo.zc]
  rw [show vs 0 = _ from hd 0 (by decide), show vs 1 = _ from hd 1 (by decide)]
  clear hd; generalize vs 2 = u2 at d2 ⊢; replace HB := Lib.hid (hJ.below HB.out (by omega) X4.lt); replace X2 := X2.off (by omega) hJ; replace X3 := X3.off (by omega) hJ; replace X5 := X5.off (by omega) hJ
  replace X4 : Bo w2 (w.heap.size + 1 + 1) #[.int .i64 1, .bool s1, .int .u64 M1, .int .i64 E1] 24 := d2
  obtain ⟨xX50, xX51, xX52, xX53⟩ := X5.u4; have zX50 := X5.frozen
  refine Jo.jnext (i := 3) (o := ⟨none, _, _, _, _, _⟩) (by kernel_rfl) rfl (fun K hK => ?_)
  go_simp; refine hK.out _ _ ?_; clear hK K xX50 zX50 xX51 xX52 xX53; generalize hS : (((w2.setCell _ _).setCell _ _).setCell _ _).setCell _ _ = w3 at *; have SX := StN.of4 X5 hS; replace X2 := X2.stn SX (by omega); replace X3 := X3.stn SX (by omega); replace X4 := X4.stn SX (by omega); replace HB := Lib.hid (SX.below HB.out (by omega)); replace X5 := SX.box; clear SX hS; refine Jo.jdone (by kernel_rfl) ?_
  go_wp2; exact bodyPost_ret (v := .tuple #[.agg #[.int .i64 1, .bool s1, .int .u64 M1, .int .i64 E1], .agg #[.int .i64 1, .bool s2, .int .u64 M2, .int .i64 E1]]) (by simp [results, Tryz.results165, go_sem, X4.cell, X5.cell]) rfl ⟨rfl, HB.out⟩
set_option maxHeartbeats 4000000 in
theorem order_gt {w : World} {s1 s2 : Bool} {M1 M2 E1 E2 : Int} (h : E2 < E1) : Calls Tryz.prog 165 #[.agg #[.int .i64 1, .bool s1, .int .u64 M1, .int .i64 E1], .agg #[.int .i64 1, .bool s2, .int .u64 M2, .int .i64 E2]] w fun e w' => e = .returned (.tuple #[.agg #[.int .i64 1, .bool s1, .int .u64 M1, .int .i64 E1], .agg #[.int .i64 1, .bool s2, .int .u64 M2, .int .i64 E2]]) ∧ Below w.heap.size w w' := by
  have h1 : ¬ E1 < E2 := by omega
  have h2 : (E1 == E2) = false := by
    have : E1 ≠ E2 := by omega
    simpa using this
  go_enter Tryz.func165, Tryz.ntmps165
  go_upto_region 1 with (fail)
  generalize hW1 : (((w.alloc _).alloc _).alloc _).alloc _ = w1 at *; obtain ⟨X2, X3, X4, X5, HB⟩ := Bo.en4 hW1; clear hW1; obtain ⟨xX20, xX21, xX22, xX23⟩ := X2.u4; obtain ⟨xX30, xX31, xX32, xX33⟩ := X3.u4
  go_upto_region 3 with (fail)
  clear xX20 xX21 xX22 xX23 xX30 xX31 xX32 xX33
  refine Jo.region_late (g := w.heap.size + 1 + 1) (new := #[.int .i64 1, .bool s1, .int .u64 M1, .int .i64 E1]) (R := 24) (T := [0, 1, 2]) (ds := [some 27, some 28, none, none]) (ls := [[], [], [0], []]) (k := 4) (L := [(some 27, 0), (some 28, 1), (none, 2)]) (fuel := 1)
    (F := [Jo.LFact.eq (.agg #[.int .i64 1, .bool s1, .int .u64 M1, .int .i64 E1]), Jo.LFact.eq (.agg #[.int .i64 1, .bool s2, .int .u64 M2, .int .i64 E2]), Jo.LFact.done, Jo.LFact.any])
    (by kernel_rfl) (by kernel_rfl) (by decide) rfl rfl ?_ (fun vs w2 hJ hd => ?_)
  · refine Jo.ld 0 (some 27) [] (Jo.LFact.eq (.agg #[.int .i64 1, .bool s1, .int .u64 M1, .int .i64 E1])) rfl rfl rfl rfl (fun vs wj hJ hd K hK => ?_) ?_
    · simp only [Jo.putl, Jo.ze, Act.put, Jo.za, Jo.zb, Jo.zc] at hK ⊢; clear hd; replace X2 := X2.off (by omega) hJ; obtain ⟨xX20, xX21, xX22, xX23⟩ := X2.u4; go_simp; exact hK.out _ _ rfl (Jo.Off.refl _ _ _ _)
    refine Jo.ld 1 (some 28) [] (Jo.LFact.eq (.agg #[.int .i64 1, .bool s2, .int .u64 M2, .int .i64 E2])) rfl rfl rfl rfl (fun vs wj hJ hd K hK => ?_) ?_
    · simp only [Jo.putl, Jo.ze, Act.put, Jo.za, Jo.zb, Jo.zc] at hK ⊢; clear hd; replace X3 := X3.off (by omega) hJ; obtain ⟨xX30, xX31, xX32, xX33⟩ := X3.u4; go_simp; exact hK.out _ _ rfl (Jo.Off.refl _ _ _ _)
    refine Jo.ld 2 (none) [(some 27, 0)] (Jo.LFact.done) rfl rfl rfl rfl (fun vs wj hJ hd K hK => ?_) ?_
    · have d0 : (Jo.LFact.eq (.agg #[.int .i64 1, .bool s1, .int .u64 M1, .int .i64 E1])).P (vs 0) wj := hd 0 (by decide)
      simp only [Jo.putl, Jo.zd, Jo.ze, Act.put, Jo.za, Jo.zb, Jo.zc] at hK ⊢; clear hd; generalize vs 0 = u0 at hK d0 ⊢
      replace d0 : u0 = _ := d0
      subst d0
      obtain ⟨v0, v1, v2, v3, XO⟩ : ∃ v0 v1 v2 v3, Bo wj (w.heap.size + 1 + 1) #[v0, v1, v2, v3] 24 := by
        rcases hJ.own with e | e
        · exact ⟨_, _, _, _, X4.keep e⟩
        · exact ⟨_, _, _, _, e⟩
      have y0 := XO.a 0 (v0) rfl; have u0 := XO.frozen 0; have y1 := XO.a 1 (v1) rfl; have u1 := XO.frozen 1; have y2 := XO.a 2 (v2) rfl; have u2 := XO.frozen 2; have y3 := XO.a 3 (v3) rfl; have u3 := XO.frozen 3; go_simp; have SX := StN.mk4 XO (.int .i64 1) (.bool s1) (.int .u64 M1) (.int .i64 E1); exact hK.out undef _ SX.box (Jo.Off.of_stn SX)
    exact Jo.Steps.nil
  have d2 : (Jo.LFact.done).P (vs 2) w2 := hd 2 (by decide)
  simp only [Jo.putl, Jo.zd, Jo.ze, Act.put, Jo.za, Jo.zb, Jo.zc]
  rw [show vs 0 = _ from hd 0 (by decide), show vs 1 = _ from hd 1 (by decide)]
  clear hd; generalize vs 2 = u2 at d2 ⊢; replace HB := Lib.hid (hJ.below HB.out (by omega) X4.lt); replace X2 := X2.off (by omega) hJ; replace X3 := X3.off (by omega) hJ; replace X5 := X5.off (by omega) hJ
  replace X4 : Bo w2 (w.heap.size + 1 + 1) #[.int .i64 1, .bool s1, .int .u64 M1, .int .i64 E1] 24 := d2
  obtain ⟨xX50, xX51, xX52, xX53⟩ := X5.u4; have zX50 := X5.frozen
  refine Jo.jnext (i := 3) (o := ⟨none, _, _, _, _, _⟩) (by kernel_rfl) rfl (fun K hK => ?_)
  go_simp; refine hK.out _ _ ?_; clear hK K xX50 zX50 xX51 xX52 xX53; generalize hS : (((w2.setCell _ _).setCell _ _).setCell _ _).setCell _ _ = w3 at *; have SX := StN.of4 X5 hS; replace X2 := X2.stn SX (by omega); replace X3 := X3.stn SX (by omega); replace X4 := X4.stn SX (by omega); replace HB := Lib.hid (SX.below HB.out (by omega)); replace X5 := SX.box; clear SX hS; refine Jo.jdone (by kernel_rfl) ?_
  go_wp2; exact bodyPost_ret (v := .tuple #[.agg #[.int .i64 1, .bool s1, .int .u64 M1, .int .i64 E1], .agg #[.int .i64 1, .bool s2, .int .u64 M2, .int .i64 E2]]) (by simp [results, Tryz.results165, go_sem, X4.cell, X5.cell]) rfl ⟨rfl, HB.out⟩
end Go.Proofs.YteejbcimmmcnlaaGreatDoor
