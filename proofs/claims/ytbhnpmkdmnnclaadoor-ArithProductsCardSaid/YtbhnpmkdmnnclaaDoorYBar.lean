/-
  Contracts and words that the statement's proof rests on, several texts in one: Kj.
-/
import Derived.Test.YtbhnpmkdmnnclaaDoorYBaj
import Derived.Test.YtbhnpmkdmnnclaaDoorYBak
import Derived.Test.YtbhnpmkdmnnclaaDoorYBaq
/-
  What the document's Round and Of do.
-/
namespace Go.Proofs.YtbhnpmkdmnnclaaDoor
open Go.RowKit
set_option linter.unusedVariables false
set_option linter.unusedSimpArgs false
set_option maxRecDepth 100000

theorem fin_nc {a : Nat} {E : Int} (s : Bool) (h : a ≠ 0) : fin s (tp a) (xp a E) false = sgi s (lo a E) := by
  have := TP_eq
  unfold fin lo
  rw [if_neg h]
  refine congrArg (sgi s) ?_
  by_cases c1 : 1048576 < xp a E
  · rw [if_pos c1, if_pos c1, if_neg (by decide)]
    omega
  · rw [if_neg c1, if_neg c1]
    by_cases c2 : xp a E < -1048576
    · rw [if_pos c2, if_pos c2, if_neg (by decide)]
    · rw [if_neg c2, if_neg c2]
theorem fin_small {a : Nat} {E : Int} (s : Bool) (h : a ≠ 0) (hl : blen a ≤ 64) : fin s (tp a) (xp a E) true = sgi s (hi a E) := by
  have := TP_eq
  have e0 : (a == 0) = false := by simpa using h
  unfold fin hi ext lo
  rw [if_neg h, e0, Bool.false_or, decide_eq_true hl, Bool.and_true]
  congr 1
  by_cases c1 : 1048576 < xp a E
  · rw [if_pos c1, if_pos rfl, decide_eq_false (show ¬ xp a E ≤ 1048576 by omega), Bool.false_and, if_neg (by decide), if_pos c1]
    omega
  · rw [if_neg c1, if_neg c1, decide_eq_true (show xp a E ≤ 1048576 by omega), Bool.true_and]
    by_cases c2 : xp a E < -1048576
    · rw [if_pos c2, if_pos rfl, decide_eq_false (show ¬ -1048576 ≤ xp a E by omega), if_neg (by decide), if_pos c2]
      rfl
    · rw [if_neg c2, decide_eq_true (show -1048576 ≤ xp a E by omega), if_pos rfl, if_neg c2]
theorem hi_big {a : Nat} {E : Int} (hl : 64 < blen a) : hi a E = lo a E + 1 := by
  have h0 : a ≠ 0 := fun e => by rw [e] at hl; exact absurd hl (by decide)
  have e0 : (a == 0) = false := by simpa using h0
  have : ext a E = false := by
    unfold ext
    rw [e0, decide_eq_false (show ¬ blen a ≤ 64 by omega)]
    simp
  unfold hi
  rw [this, if_neg (by decide)]
theorem fin_up {a : Nat} {E : Int} (s : Bool) (hl : 64 < blen a) (ht : tp a + 1 < 2 ^ 64) : fin s ((tp a + 1 : Nat) : Int) (xp a E) true = sgi s (hi a E) := by
  have := TP_eq
  have h0 : a ≠ 0 := fun e => by rw [e] at hl; exact absurd hl (by decide)
  rw [hi_big hl]
  unfold fin lo
  rw [if_neg h0]
  congr 1
  by_cases c1 : 1048576 < xp a E
  · rw [if_pos c1, if_pos c1, if_pos rfl]
    omega
  · rw [if_neg c1, if_neg c1]
    by_cases c2 : xp a E < -1048576
    · rw [if_pos c2, if_pos c2, if_pos rfl]
      rfl
    · rw [if_neg c2, if_neg c2]
      omega
theorem fin_carry {a : Nat} {E : Int} (s : Bool) (hl : 64 < blen a) (ht : tp a + 1 = 2 ^ 64) : fin s 9223372036854775808 (xp a E + 1) true = sgi s (hi a E) := by
  have := TP_eq
  have h0 : a ≠ 0 := fun e => by rw [e] at hl; exact absurd hl (by decide)
  rw [hi_big hl]
  unfold fin lo
  rw [if_neg h0]
  congr 1
  by_cases c1 : 1048576 < xp a E
  · rw [if_pos (show 1048576 < xp a E + 1 by omega), if_pos c1, if_pos rfl]
    omega
  · rw [if_neg c1]
    by_cases c3 : 1048576 < xp a E + 1
    · rw [if_pos c3, if_pos rfl, if_neg (show ¬ xp a E < -1048576 by omega)]
      omega
    · rw [if_neg c3]
      by_cases c2 : xp a E < -1048576
      · rw [if_pos c2]
        by_cases c4 : xp a E + 1 < -1048576
        · rw [if_pos c4, if_pos rfl]
          rfl
        · rw [if_neg c4]
          omega
      · rw [if_neg c2, if_neg (by omega)]
        omega
theorem tp_one {a : Nat} (h : 64 < blen a) : a / 2 ^ ((blen a : Int) - 64).toNat = tp a := by
  rw [tp_big (by omega), show ((blen a : Int) - 64).toNat = blen a - 64 by omega]
theorem tp_shl {a : Nat} (h : blen a ≤ 64) : a * 2 ^ (64 - (blen a : Int)).toNat = tp a := by
  rw [tp_small h, show (64 - (blen a : Int)).toNat = 64 - blen a by omega]
set_option maxHeartbeats 4000000 in
theorem yround_zero {w : World} {A : Option Addr} {n c a : Nat} {s sg0 up : Bool} {z e N E : Int} (h : Wr w s A n c z) (hn : n ≤ 100000) (hN : (mk z e).1 = N) (hE : (mk z e).2 = E) (ha : N.natAbs = a) (hs : decide (N < 0) = sg0) (h0 : a = 0) :
    Calls Tryd.prog 42 #[.agg #[.bool s, .slice A n c, .int .i64 e], .bool up] w (PN w 0) := by
  obtain ⟨b1, b2⟩ := mk_bd z e
  rw [hE] at b1 b2
  have HN := Lib.hid hN
  have HE := Lib.hid hE
  have HA := Lib.hid ha
  have HSG := Lib.hid hs
  clear hN hE ha hs
  subst h0
  go_enter Tryd.func42, Tryd.ntmps42
  go_upto_region 1 with (fail)
  have X1 := (Bo.newAt w (g := w.heap.size) (by simp) #[.bool s, .slice A n c, .int .i64 e] 39).below (bel1 _ (.cells #[.int .i64 0, .bool false, .int .u64 0, .int .i64 0] 24))
  have XR := (Bo.newAt (w.alloc (.cells #[.bool s, .slice A n c, .int .i64 e] 39)) (g := w.heap.size + 1) (by simp) #[.int .i64 0, .bool false, .int .u64 0, .int .i64 0] 24)
  have HB := Lib.hid (bel2 w (.cells #[.bool s, .slice A n c, .int .i64 e] 39) (.cells #[.int .i64 0, .bool false, .int .u64 0, .int .i64 0] 24))
  replace h := h.below HB.out
  generalize hW1 : ((w.alloc (.cells #[.bool s, .slice A n c, .int .i64 e] 39)).alloc (.cells #[.int .i64 0, .bool false, .int .u64 0, .int .i64 0] 24)) = w1 at *
  clear hW1
  have xX10 := X1.at (i := 0) (v := .bool s) rfl
  have xX11 := X1.at (i := 1) (v := .slice A n c) rfl
  have xX12 := X1.at (i := 2) (v := .int .i64 e) rfl
  go_wp2_with fail
  refine (q3Make h hn HN.out HE.out).mono ?_
  rintro ee w2 ⟨s1, A1, n1, c1, rfl, p1, k1, B⟩
  clear xX10 xX11 xX12
  replace X1 := X1.below B
  replace XR := XR.below B
  replace h := h.below B
  replace HB := Lib.hid (bt HB.out B)
  clear B
  go_upto_region 2 with (fail)
  have lX5 := Nat.le_refl (World.heap w2).size
  have nX5X1 := X1.lt
  have nX5XR := XR.lt
  replace X1 := X1.below (bel1 _ (.cells #[.bool s1, .slice A1 n1 c1, .int .i64 E] 39))
  replace XR := XR.below (bel1 _ (.cells #[.bool s1, .slice A1 n1 c1, .int .i64 E] 39))
  replace p1 := p1.below (bel1 _ (.cells #[.bool s1, .slice A1 n1 c1, .int .i64 E] 39))
  replace HB := Lib.hid (bt HB.out (bel1 _ (.cells #[.bool s1, .slice A1 n1 c1, .int .i64 E] 39)))
  have X5 := Bo.new w2 #[.bool s1, .slice A1 n1 c1, .int .i64 E] 39
  generalize hWn : World.alloc w2 (.cells #[.bool s1, .slice A1 n1 c1, .int .i64 E] 39) = w3 at *
  clear hWn
  clear lX5
  have hz : n1 = 0 := by have := p1.1.pos; have := HA.out; omega
  subst hz
  clear p1
  have xXR0 := XR.at (i := 0) (v := .int .i64 0) rfl
  have zXR0 := XR.frozen 0
  have xXR1 := XR.at (i := 1) (v := .bool false) rfl
  have zXR1 := XR.frozen 1
  have xXR2 := XR.at (i := 2) (v := .int .u64 0) rfl
  have zXR2 := XR.frozen 2
  have xXR3 := XR.at (i := 3) (v := .int .i64 0) rfl
  have zXR3 := XR.frozen 3
  have xX50 := X5.at (i := 0) (v := .bool s1) rfl
  have xX51 := X5.at (i := 1) (v := .slice A1 0 c1) rfl
  have xX52 := X5.at (i := 2) (v := .int .i64 E) rfl
  go_wp2
  clear xXR0 zXR0 xXR1 zXR1 xXR2 zXR2 xXR3 zXR3 xX50 xX51 xX52
  have SX := StN.mk4 XR (.int .i64 0) (.bool false) (.int .u64 0) (.int .i64 0)
  replace X5 := X5.stn SX (by omega)
  replace HB := Lib.hid (SX.below HB.out (by omega))
  replace XR := SX.box
  clear SX
  generalize (World.setCell (World.setCell (World.setCell (World.setCell w3 ⟨w.heap.size + 1, 0, none⟩ (.int .i64 0)) ⟨w.heap.size + 1, 1, none⟩ (.bool false)) ⟨w.heap.size + 1, 2, none⟩ (.int .u64 0)) ⟨w.heap.size + 1, 3, none⟩ (.int .i64 0)) = w4 at *
  have r0 := XR.cell 0
  have r1 := XR.cell 1
  have r2 := XR.cell 2
  have r3 := XR.cell 3
  exact bodyPost_ret (v := .agg #[.int .i64 0, .bool false, .int .u64 0, .int .i64 0]) (by simp [results, Tryd.results42, go_sem, r0, r1, r2, r3]) rfl ⟨_, _, _, _, rfl, Fq.nought, HB.out⟩
set_option maxHeartbeats 4000000 in
theorem yround_ss {w : World} {A : Option Addr} {n c a : Nat} {s sg0 : Bool} {z e N E L x r : Int} (h : Wr w s A n c z) (hn : n ≤ 100000) (hN : (mk z e).1 = N) (hE : (mk z e).2 = E) (ha : N.natAbs = a) (hs : decide (N < 0) = sg0) (h0 : a ≠ 0) (hL : ((blen a : Nat) : Int) = L) (hl : L ≤ 64) (hx : E + L - 64 = x) (hb : L ≤ 3200000) (hr : fin sg0 (tp a) x false = r) :
    Calls Tryd.prog 42 #[.agg #[.bool s, .slice A n c, .int .i64 e], .bool sg0] w (PN w r) := by
  obtain ⟨b1, b2⟩ := mk_bd z e
  rw [hE] at b1 b2
  have HN := Lib.hid hN
  have HE := Lib.hid hE
  have HA := Lib.hid ha
  have HSG := Lib.hid hs
  have HL := Lib.hid hL
  have hl0 : blen a ≠ 0 := fun e => h0 (blen_eq_zero.1 e)
  have g1 := tp_ge h0
  have g2 := tp_lt a
  have HX1 : Hid (IntKind.i64.wrap (E + L) = E + L) := Lib.hid (IntWalk.i64_in _ (by omega))
  have HX2 : Hid (IntKind.i64.wrap (E + L - 64) = x) := Lib.hid (by rw [hx]; exact IntWalk.i64_in _ (by omega))
  obtain ⟨T, hT⟩ : ∃ T, ((tp a : Nat) : Int) = T := ⟨_, rfl⟩
  rw [hT] at hr
  have HT := Lib.hid hT
  have HR := Lib.hid hr
  obtain ⟨v, hv⟩ : ∃ v, 64 - L = v := ⟨_, rfl⟩
  have HV : Hid (IntKind.i64.wrap (64 - L) = v) := Lib.hid (by rw [hv]; exact IntWalk.i64_in _ (by omega))
  have HSH : Hid (a * 2 ^ v.toNat = tp a) := Lib.hid (by rw [← hv, ← hL]; exact tp_shl (by omega))
  have hv1 : 0 ≤ v := by omega
  have hv2 : v ≤ 64 := by omega
  have hT1 : 9223372036854775808 ≤ T := by omega
  have hT2 : T < 18446744073709551616 := by omega
  have HG2 := Lib.hid g2
  clear hN hE ha hs hL hx hr hT hv g1 g2 hl0
  go_enter Tryd.func42, Tryd.ntmps42
  go_upto_region 1 with (fail)
  have X1 := (Bo.newAt w (g := w.heap.size) (by simp) #[.bool s, .slice A n c, .int .i64 e] 39).below (bel1 _ (.cells #[.int .i64 0, .bool false, .int .u64 0, .int .i64 0] 24))
  have XR := (Bo.newAt (w.alloc (.cells #[.bool s, .slice A n c, .int .i64 e] 39)) (g := w.heap.size + 1) (by simp) #[.int .i64 0, .bool false, .int .u64 0, .int .i64 0] 24)
  have HB := Lib.hid (bel2 w (.cells #[.bool s, .slice A n c, .int .i64 e] 39) (.cells #[.int .i64 0, .bool false, .int .u64 0, .int .i64 0] 24))
  replace h := h.below HB.out
  generalize hW1 : ((w.alloc (.cells #[.bool s, .slice A n c, .int .i64 e] 39)).alloc (.cells #[.int .i64 0, .bool false, .int .u64 0, .int .i64 0] 24)) = w1 at *
  clear hW1
  have xX10 := X1.at (i := 0) (v := .bool s) rfl
  have xX11 := X1.at (i := 1) (v := .slice A n c) rfl
  have xX12 := X1.at (i := 2) (v := .int .i64 e) rfl
  go_wp2_with fail
  refine (q3Make h hn HN.out HE.out).mono ?_
  rintro ee w2 ⟨s1, A1, n1, c1, rfl, p1, k1, B⟩
  clear xX10 xX11 xX12
  replace X1 := X1.below B
  replace XR := XR.below B
  replace h := h.below B
  replace HB := Lib.hid (bt HB.out B)
  clear B
  go_upto_region 2 with (fail)
  have lX5 := Nat.le_refl (World.heap w2).size
  have nX5X1 := X1.lt
  have nX5XR := XR.lt
  replace X1 := X1.below (bel1 _ (.cells #[.bool s1, .slice A1 n1 c1, .int .i64 E] 39))
  replace XR := XR.below (bel1 _ (.cells #[.bool s1, .slice A1 n1 c1, .int .i64 E] 39))
  replace p1 := p1.below (bel1 _ (.cells #[.bool s1, .slice A1 n1 c1, .int .i64 E] 39))
  replace HB := Lib.hid (bt HB.out (bel1 _ (.cells #[.bool s1, .slice A1 n1 c1, .int .i64 E] 39)))
  have X5 := Bo.new w2 #[.bool s1, .slice A1 n1 c1, .int .i64 E] 39
  generalize hWn : World.alloc w2 (.cells #[.bool s1, .slice A1 n1 c1, .int .i64 E] 39) = w3 at *
  clear hWn
  clear lX5
  obtain rfl : s1 = sg0 := p1.2.trans HSG.out
  have p2 : Nm w3 A1 n1 c1 a := HA.out ▸ p1.1
  have hbl := p2.rd.blen_le
  have hn1 : n1 ≤ 100000 := by omega
  have hpos : 0 < n1 := p2.pos.2 (by omega)
  clear p1 HSG
  have e0 : ((n1 : Int) == 0) = false := by
    have : (n1 : Int) ≠ 0 := by omega
    simpa using this
  have hbg : n1 ≤ 1099511627776 := by omega
  have f1 : (s1 != s1) = false := by cases s1 <;> rfl
  have f2 : (!s1 != s1) = true := by cases s1 <;> rfl
  have f3 : (s1 == s1) = true := by cases s1 <;> rfl
  have f4 : ((!s1) == s1) = false := by cases s1 <;> rfl
  have xX50 := X5.at (i := 0) (v := .bool s1) rfl
  have xX51 := X5.at (i := 1) (v := .slice A1 n1 c1) rfl
  have xX52 := X5.at (i := 2) (v := .int .i64 E) rfl
  go_wp2_with fail
  refine (rLen p2.rd HL.out).mono ?_
  rintro ee w4 ⟨rfl, B⟩
  clear xX50 xX51 xX52
  replace XR := XR.below B
  replace X5 := X5.below B
  replace p2 := p2.below B
  replace HB := Lib.hid (bt HB.out B)
  clear B
  have xX50 := X5.at (i := 0) (v := .bool s1) rfl
  have xX51 := X5.at (i := 1) (v := .slice A1 n1 c1) rfl
  have xX52 := X5.at (i := 2) (v := .int .i64 E) rfl
  go_upto_region 7 with (fail)
  clear xX50 xX51 xX52
  refine Jo.region_joint (T := [0, 1, 2, 3, 4, 5, 6, 7, 8, 9, 10, 11, 12, 13, 14, 15, 16]) (ds := [some 32, some 33, some 34, some 35, some 36, some 37, some 38, some 39, some 40, some 41, some 42, some 43, some 44, some 45, some 46, some 47, some 48, none]) (ls := [[], [0], [1], [], [3], [4], [], [6], [5, 7], [8], [], [10], [], [11, 12], [13], [], [2, 9, 14, 15], []]) (k := 18) (L := [(some 32, 0), (some 33, 1), (some 34, 2), (some 35, 3), (some 36, 4), (some 37, 5), (some 38, 6), (some 39, 7), (some 40, 8), (some 41, 9), (some 42, 10), (some 43, 11), (some 44, 12), (some 45, 13), (some 46, 14), (some 47, 15), (some 48, 16)]) (fuel := 1) (J := fun wj => Below (World.heap w4).size w4 wj)
    (F := [Jo.Fact.eq (.pointer (some ⟨w2.heap.size, 0, none⟩)), Jo.Fact.eq (.pointer (some ⟨w2.heap.size, 0, none⟩)), Jo.Fact.eq (.bool s1), Jo.Fact.eq (.pointer (some ⟨w2.heap.size, 0, none⟩)), Jo.Fact.eq (.pointer (some ⟨w2.heap.size, 1, none⟩)), Jo.Fact.eq (.slice A1 n1 c1), Jo.Fact.eq (.int .i64 L), Jo.Fact.eq (.int .i64 v), Jo.Fact.nm (tp a) 100100, Jo.Fact.eq (.int .u64 T), Jo.Fact.eq (.pointer (some ⟨w2.heap.size, 2, none⟩)), Jo.Fact.eq (.int .i64 E), Jo.Fact.eq (.int .i64 L), Jo.Fact.eq (.int .i64 (E + L)), Jo.Fact.eq (.int .i64 x), Jo.Fact.eq (.bool false), Jo.Fact.num r, Jo.Fact.any])
    (by kernel_rfl) (by kernel_rfl) (by decide) rfl rfl (fun _ _ h b => bt h b) ((Below.refl _ _).drew) ?_ (fun vs w5 hJ hd => ?_)
  · refine Jo.jcons (i := 0) (o := ⟨some 32, _, _, _, _, _⟩) (di := some 32) (L := []) (f := Jo.Fact.eq (.pointer (some ⟨w2.heap.size, 0, none⟩))) rfl rfl rfl rfl (fun vs wj hJ hd K hK => ?_) ?_
    · clear hd
      simp only [Jo.putl, List.foldl_nil, Act.put, List.setIfInBounds_toArray, List.set_cons_zero, List.set_cons_succ] at hK ⊢
      go_simp
      exact hK.out _ _ rfl (Below.refl _ _)
    refine Jo.jcons (i := 1) (o := ⟨some 33, _, _, _, _, _⟩) (di := some 33) (L := [(some 32, 0)]) (f := Jo.Fact.eq (.pointer (some ⟨w2.heap.size, 0, none⟩))) rfl rfl rfl rfl (fun vs wj hJ hd K hK => ?_) ?_
    · have d0 : (Jo.Fact.eq (.pointer (some ⟨w2.heap.size, 0, none⟩))).P (vs 0) wj := hd 0 (by decide)
      clear hd
      simp only [Jo.putl, List.foldl_cons, List.foldl_nil, Act.put, List.setIfInBounds_toArray, List.set_cons_zero, List.set_cons_succ] at hK ⊢
      generalize vs 0 = u0 at hK d0 ⊢
      replace d0 : u0 = _ := d0
      subst d0
      go_simp
      exact hK.out _ _ rfl (Below.refl _ _)
    refine Jo.jcons (i := 2) (o := ⟨some 34, _, _, _, _, _⟩) (di := some 34) (L := [(some 33, 1)]) (f := Jo.Fact.eq (.bool s1)) rfl rfl rfl rfl (fun vs wj hJ hd K hK => ?_) ?_
    · have d1 : (Jo.Fact.eq (.pointer (some ⟨w2.heap.size, 0, none⟩))).P (vs 1) wj := hd 1 (by decide)
      clear hd
      simp only [Jo.putl, List.foldl_cons, List.foldl_nil, Act.put, List.setIfInBounds_toArray, List.set_cons_zero, List.set_cons_succ] at hK ⊢
      generalize vs 1 = u1 at hK d1 ⊢
      replace d1 : u1 = _ := d1
      subst d1
      have xX50 : World.cell? wj ⟨w2.heap.size, 0, none⟩ = some (.bool s1) := (X5.below hJ).cell 0
      have xX51 : World.cell? wj ⟨w2.heap.size, 1, none⟩ = some (.slice A1 n1 c1) := (X5.below hJ).cell 1
      have xX52 : World.cell? wj ⟨w2.heap.size, 2, none⟩ = some (.int .i64 E) := (X5.below hJ).cell 2
      go_simp
      exact hK.out _ _ rfl (Below.refl _ _)
    refine Jo.jcons (i := 3) (o := ⟨some 35, _, _, _, _, _⟩) (di := some 35) (L := []) (f := Jo.Fact.eq (.pointer (some ⟨w2.heap.size, 0, none⟩))) rfl rfl rfl rfl (fun vs wj hJ hd K hK => ?_) ?_
    · clear hd
      simp only [Jo.putl, List.foldl_nil, Act.put, List.setIfInBounds_toArray, List.set_cons_zero, List.set_cons_succ] at hK ⊢
      go_simp
      exact hK.out _ _ rfl (Below.refl _ _)
    refine Jo.jcons (i := 4) (o := ⟨some 36, _, _, _, _, _⟩) (di := some 36) (L := [(some 35, 3)]) (f := Jo.Fact.eq (.pointer (some ⟨w2.heap.size, 1, none⟩))) rfl rfl rfl rfl (fun vs wj hJ hd K hK => ?_) ?_
    · have d3 : (Jo.Fact.eq (.pointer (some ⟨w2.heap.size, 0, none⟩))).P (vs 3) wj := hd 3 (by decide)
      clear hd
      simp only [Jo.putl, List.foldl_cons, List.foldl_nil, Act.put, List.setIfInBounds_toArray, List.set_cons_zero, List.set_cons_succ] at hK ⊢
      generalize vs 3 = u3 at hK d3 ⊢
      replace d3 : u3 = _ := d3
      subst d3
      go_simp
      exact hK.out _ _ rfl (Below.refl _ _)
    refine Jo.jcons (i := 5) (o := ⟨some 37, _, _, _, _, _⟩) (di := some 37) (L := [(some 36, 4)]) (f := Jo.Fact.eq (.slice A1 n1 c1)) rfl rfl rfl rfl (fun vs wj hJ hd K hK => ?_) ?_
    · have d4 : (Jo.Fact.eq (.pointer (some ⟨w2.heap.size, 1, none⟩))).P (vs 4) wj := hd 4 (by decide)
      clear hd
      simp only [Jo.putl, List.foldl_cons, List.foldl_nil, Act.put, List.setIfInBounds_toArray, List.set_cons_zero, List.set_cons_succ] at hK ⊢
      generalize vs 4 = u4 at hK d4 ⊢
      replace d4 : u4 = _ := d4
      subst d4
      have xX50 : World.cell? wj ⟨w2.heap.size, 0, none⟩ = some (.bool s1) := (X5.below hJ).cell 0
      have xX51 : World.cell? wj ⟨w2.heap.size, 1, none⟩ = some (.slice A1 n1 c1) := (X5.below hJ).cell 1
      have xX52 : World.cell? wj ⟨w2.heap.size, 2, none⟩ = some (.int .i64 E) := (X5.below hJ).cell 2
      go_simp
      exact hK.out _ _ rfl (Below.refl _ _)
    refine Jo.jcons (i := 6) (o := ⟨some 38, _, _, _, _, _⟩) (di := some 38) (L := []) (f := Jo.Fact.eq (.int .i64 L)) rfl rfl rfl rfl (fun vs wj hJ hd K hK => ?_) ?_
    · clear hd
      simp only [Jo.putl, List.foldl_nil, Act.put, List.setIfInBounds_toArray, List.set_cons_zero, List.set_cons_succ] at hK ⊢
      go_simp
      exact hK.out _ _ rfl (Below.refl _ _)
    refine Jo.jcons (i := 7) (o := ⟨some 39, _, _, _, _, _⟩) (di := some 39) (L := [(some 38, 6)]) (f := Jo.Fact.eq (.int .i64 v)) rfl rfl rfl rfl (fun vs wj hJ hd K hK => ?_) ?_
    · have d6 : (Jo.Fact.eq (.int .i64 L)).P (vs 6) wj := hd 6 (by decide)
      clear hd
      simp only [Jo.putl, List.foldl_cons, List.foldl_nil, Act.put, List.setIfInBounds_toArray, List.set_cons_zero, List.set_cons_succ] at hK ⊢
      generalize vs 6 = u6 at hK d6 ⊢
      replace d6 : u6 = _ := d6
      subst d6
      have hv := HV.out
      go_simp
      exact hK.out _ _ rfl (Below.refl _ _)
    refine Jo.jcons (i := 8) (o := ⟨some 40, _, _, _, _, _⟩) (di := some 40) (L := [(some 37, 5), (some 39, 7)]) (f := Jo.Fact.nm (tp a) 100100) rfl rfl rfl rfl (fun vs wj hJ hd K hK => ?_) ?_
    · have d5 : (Jo.Fact.eq (.slice A1 n1 c1)).P (vs 5) wj := hd 5 (by decide)
      have d7 : (Jo.Fact.eq (.int .i64 v)).P (vs 7) wj := hd 7 (by decide)
      clear hd
      simp only [Jo.putl, List.foldl_cons, List.foldl_nil, Act.put, List.setIfInBounds_toArray, List.set_cons_zero, List.set_cons_succ] at hK ⊢
      generalize vs 5 = u5 at hK d5 ⊢
      generalize vs 7 = u7 at hK d7 ⊢
      replace d5 : u5 = _ := d5
      subst d5
      replace d7 : u7 = _ := d7
      subst d7
      go_simp
      refine (rShlN (p2.below hJ).rd (by omega) hv1 (by omega) HSH.out).mono ?_
      rintro ee wk ⟨A3, n3, c3, rfl, p3, k3, B⟩
      exact hK.out _ _ ⟨A3, n3, c3, rfl, p3, by omega⟩ B
    refine Jo.jcons (i := 9) (o := ⟨some 41, _, _, _, _, _⟩) (di := some 41) (L := [(some 40, 8)]) (f := Jo.Fact.eq (.int .u64 T)) rfl rfl rfl rfl (fun vs wj hJ hd K hK => ?_) ?_
    · have d8 : (Jo.Fact.nm (tp a) 100100).P (vs 8) wj := hd 8 (by decide)
      clear hd
      simp only [Jo.putl, List.foldl_cons, List.foldl_nil, Act.put, List.setIfInBounds_toArray, List.set_cons_zero, List.set_cons_succ] at hK ⊢
      generalize vs 8 = u8 at hK d8 ⊢
      obtain ⟨A3, n3, c3, rfl, p3, k3⟩ := d8
      go_simp
      refine (yWord p3 HG2.out HT.out).mono ?_
      rintro ee wk ⟨rfl, B⟩
      exact hK.out _ _ rfl B
    refine Jo.jcons (i := 10) (o := ⟨some 42, _, _, _, _, _⟩) (di := some 42) (L := []) (f := Jo.Fact.eq (.pointer (some ⟨w2.heap.size, 2, none⟩))) rfl rfl rfl rfl (fun vs wj hJ hd K hK => ?_) ?_
    · clear hd
      simp only [Jo.putl, List.foldl_nil, Act.put, List.setIfInBounds_toArray, List.set_cons_zero, List.set_cons_succ] at hK ⊢
      go_simp
      exact hK.out _ _ rfl (Below.refl _ _)
    refine Jo.jcons (i := 11) (o := ⟨some 43, _, _, _, _, _⟩) (di := some 43) (L := [(some 42, 10)]) (f := Jo.Fact.eq (.int .i64 E)) rfl rfl rfl rfl (fun vs wj hJ hd K hK => ?_) ?_
    · have d10 : (Jo.Fact.eq (.pointer (some ⟨w2.heap.size, 2, none⟩))).P (vs 10) wj := hd 10 (by decide)
      clear hd
      simp only [Jo.putl, List.foldl_cons, List.foldl_nil, Act.put, List.setIfInBounds_toArray, List.set_cons_zero, List.set_cons_succ] at hK ⊢
      generalize vs 10 = u10 at hK d10 ⊢
      replace d10 : u10 = _ := d10
      subst d10
      have xX50 : World.cell? wj ⟨w2.heap.size, 0, none⟩ = some (.bool s1) := (X5.below hJ).cell 0
      have xX51 : World.cell? wj ⟨w2.heap.size, 1, none⟩ = some (.slice A1 n1 c1) := (X5.below hJ).cell 1
      have xX52 : World.cell? wj ⟨w2.heap.size, 2, none⟩ = some (.int .i64 E) := (X5.below hJ).cell 2
      go_simp
      exact hK.out _ _ rfl (Below.refl _ _)
    refine Jo.jcons (i := 12) (o := ⟨some 44, _, _, _, _, _⟩) (di := some 44) (L := []) (f := Jo.Fact.eq (.int .i64 L)) rfl rfl rfl rfl (fun vs wj hJ hd K hK => ?_) ?_
    · clear hd
      simp only [Jo.putl, List.foldl_nil, Act.put, List.setIfInBounds_toArray, List.set_cons_zero, List.set_cons_succ] at hK ⊢
      go_simp
      exact hK.out _ _ rfl (Below.refl _ _)
    refine Jo.jcons (i := 13) (o := ⟨some 45, _, _, _, _, _⟩) (di := some 45) (L := [(some 43, 11), (some 44, 12)]) (f := Jo.Fact.eq (.int .i64 (E + L))) rfl rfl rfl rfl (fun vs wj hJ hd K hK => ?_) ?_
    · have d11 : (Jo.Fact.eq (.int .i64 E)).P (vs 11) wj := hd 11 (by decide)
      have d12 : (Jo.Fact.eq (.int .i64 L)).P (vs 12) wj := hd 12 (by decide)
      clear hd
      simp only [Jo.putl, List.foldl_cons, List.foldl_nil, Act.put, List.setIfInBounds_toArray, List.set_cons_zero, List.set_cons_succ] at hK ⊢
      generalize vs 11 = u11 at hK d11 ⊢
      generalize vs 12 = u12 at hK d12 ⊢
      replace d11 : u11 = _ := d11
      subst d11
      replace d12 : u12 = _ := d12
      subst d12
      have hx1 := HX1.out
      go_simp
      exact hK.out _ _ rfl (Below.refl _ _)
    refine Jo.jcons (i := 14) (o := ⟨some 46, _, _, _, _, _⟩) (di := some 46) (L := [(some 45, 13)]) (f := Jo.Fact.eq (.int .i64 x)) rfl rfl rfl rfl (fun vs wj hJ hd K hK => ?_) ?_
    · have d13 : (Jo.Fact.eq (.int .i64 (E + L))).P (vs 13) wj := hd 13 (by decide)
      clear hd
      simp only [Jo.putl, List.foldl_cons, List.foldl_nil, Act.put, List.setIfInBounds_toArray, List.set_cons_zero, List.set_cons_succ] at hK ⊢
      generalize vs 13 = u13 at hK d13 ⊢
      replace d13 : u13 = _ := d13
      subst d13
      have hx2 := HX2.out
      go_simp
      exact hK.out _ _ rfl (Below.refl _ _)
    refine Jo.jcons (i := 15) (o := ⟨some 47, _, _, _, _, _⟩) (di := some 47) (L := []) (f := Jo.Fact.eq (.bool false)) rfl rfl rfl rfl (fun vs wj hJ hd K hK => ?_) ?_
    · clear hd
      simp only [Jo.putl, List.foldl_nil, Act.put, List.setIfInBounds_toArray, List.set_cons_zero, List.set_cons_succ] at hK ⊢
      go_simp
      exact hK.out _ _ rfl (Below.refl _ _)
    refine Jo.jcons (i := 16) (o := ⟨some 48, _, _, _, _, _⟩) (di := some 48) (L := [(some 34, 2), (some 41, 9), (some 46, 14), (some 47, 15)]) (f := Jo.Fact.num r) rfl rfl rfl rfl (fun vs wj hJ hd K hK => ?_) ?_
    · have d2 : (Jo.Fact.eq (.bool s1)).P (vs 2) wj := hd 2 (by decide)
      have d9 : (Jo.Fact.eq (.int .u64 T)).P (vs 9) wj := hd 9 (by decide)
      have d14 : (Jo.Fact.eq (.int .i64 x)).P (vs 14) wj := hd 14 (by decide)
      have d15 : (Jo.Fact.eq (.bool false)).P (vs 15) wj := hd 15 (by decide)
      clear hd
      simp only [Jo.putl, List.foldl_cons, List.foldl_nil, Act.put, List.setIfInBounds_toArray, List.set_cons_zero, List.set_cons_succ] at hK ⊢
      generalize vs 2 = u2 at hK d2 ⊢
      generalize vs 9 = u9 at hK d9 ⊢
      generalize vs 14 = u14 at hK d14 ⊢
      generalize vs 15 = u15 at hK d15 ⊢
      replace d2 : u2 = _ := d2
      subst d2
      replace d9 : u9 = _ := d9
      subst d9
      replace d14 : u14 = _ := d14
      subst d14
      replace d15 : u15 = _ := d15
      subst d15
      go_simp
      refine (yFin hT1 hT2 HR.out).mono ?_
      rintro ee wk ⟨K4, s4, M4, E4, rfl, q4, B⟩
      exact hK.out _ _ ⟨K4, s4, M4, E4, rfl, q4⟩ B
    exact Jo.Steps.nil
  have d0 : (Jo.Fact.eq (.pointer (some ⟨w2.heap.size, 0, none⟩))).P (vs 0) w5 := hd 0 (by decide)
  have d1 : (Jo.Fact.eq (.pointer (some ⟨w2.heap.size, 0, none⟩))).P (vs 1) w5 := hd 1 (by decide)
  have d2 : (Jo.Fact.eq (.bool s1)).P (vs 2) w5 := hd 2 (by decide)
  have d3 : (Jo.Fact.eq (.pointer (some ⟨w2.heap.size, 0, none⟩))).P (vs 3) w5 := hd 3 (by decide)
  have d4 : (Jo.Fact.eq (.pointer (some ⟨w2.heap.size, 1, none⟩))).P (vs 4) w5 := hd 4 (by decide)
  have d5 : (Jo.Fact.eq (.slice A1 n1 c1)).P (vs 5) w5 := hd 5 (by decide)
  have d6 : (Jo.Fact.eq (.int .i64 L)).P (vs 6) w5 := hd 6 (by decide)
  have d7 : (Jo.Fact.eq (.int .i64 v)).P (vs 7) w5 := hd 7 (by decide)
  have d8 : (Jo.Fact.nm (tp a) 100100).P (vs 8) w5 := hd 8 (by decide)
  have d9 : (Jo.Fact.eq (.int .u64 T)).P (vs 9) w5 := hd 9 (by decide)
  have d10 : (Jo.Fact.eq (.pointer (some ⟨w2.heap.size, 2, none⟩))).P (vs 10) w5 := hd 10 (by decide)
  have d11 : (Jo.Fact.eq (.int .i64 E)).P (vs 11) w5 := hd 11 (by decide)
  have d12 : (Jo.Fact.eq (.int .i64 L)).P (vs 12) w5 := hd 12 (by decide)
  have d13 : (Jo.Fact.eq (.int .i64 (E + L))).P (vs 13) w5 := hd 13 (by decide)
  have d14 : (Jo.Fact.eq (.int .i64 x)).P (vs 14) w5 := hd 14 (by decide)
  have d15 : (Jo.Fact.eq (.bool false)).P (vs 15) w5 := hd 15 (by decide)
  have d16 : (Jo.Fact.num r).P (vs 16) w5 := hd 16 (by decide)
  clear hd
  simp only [Jo.putl, List.foldl_cons, List.foldl_nil, Act.put, List.setIfInBounds_toArray, List.set_cons_zero, List.set_cons_succ]
  generalize vs 0 = u0 at d0 ⊢
  generalize vs 1 = u1 at d1 ⊢
  generalize vs 2 = u2 at d2 ⊢
  generalize vs 3 = u3 at d3 ⊢
  generalize vs 4 = u4 at d4 ⊢
  generalize vs 5 = u5 at d5 ⊢
  generalize vs 6 = u6 at d6 ⊢
  generalize vs 7 = u7 at d7 ⊢
  generalize vs 8 = u8 at d8 ⊢
  generalize vs 9 = u9 at d9 ⊢
  generalize vs 10 = u10 at d10 ⊢
  generalize vs 11 = u11 at d11 ⊢
  generalize vs 12 = u12 at d12 ⊢
  generalize vs 13 = u13 at d13 ⊢
  generalize vs 14 = u14 at d14 ⊢
  generalize vs 15 = u15 at d15 ⊢
  generalize vs 16 = u16 at d16 ⊢
  clear vs
  replace d0 : u0 = _ := d0
  subst d0
  replace d1 : u1 = _ := d1
  subst d1
  replace d2 : u2 = _ := d2
  subst d2
  replace d3 : u3 = _ := d3
  subst d3
  replace d4 : u4 = _ := d4
  subst d4
  replace d5 : u5 = _ := d5
  subst d5
  replace d6 : u6 = _ := d6
  subst d6
  replace d7 : u7 = _ := d7
  subst d7
  obtain ⟨A3, n3, c3, rfl, _, _⟩ := d8
  replace d9 : u9 = _ := d9
  subst d9
  replace d10 : u10 = _ := d10
  subst d10
  replace d11 : u11 = _ := d11
  subst d11
  replace d12 : u12 = _ := d12
  subst d12
  replace d13 : u13 = _ := d13
  subst d13
  replace d14 : u14 = _ := d14
  subst d14
  replace d15 : u15 = _ := d15
  subst d15
  obtain ⟨K4, s4, M4, E4, rfl, q4⟩ := d16
  replace XR := XR.below hJ
  replace X5 := X5.below hJ
  replace p2 := p2.below hJ
  replace HB := Lib.hid (bt HB.out hJ)
  have xXR0 := XR.at (i := 0) (v := .int .i64 0) rfl
  have zXR0 := XR.frozen 0
  have xXR1 := XR.at (i := 1) (v := .bool false) rfl
  have zXR1 := XR.frozen 1
  have xXR2 := XR.at (i := 2) (v := .int .u64 0) rfl
  have zXR2 := XR.frozen 2
  have xXR3 := XR.at (i := 3) (v := .int .i64 0) rfl
  have zXR3 := XR.frozen 3
  refine Jo.jnext (i := 17) (o := ⟨none, _, _, _, _, _⟩) (by kernel_rfl) rfl (fun K hK => ?_)
  go_simp
  refine hK.out _ _ ?_
  clear hK K xXR0 zXR0 xXR1 zXR1 xXR2 zXR2 xXR3 zXR3
  have SX := StN.mk4 XR (.int .i64 K4) (.bool s4) (.int .u64 M4) (.int .i64 E4)
  replace X5 := X5.stn SX (by omega)
  replace HB := Lib.hid (SX.below HB.out (by omega))
  replace XR := SX.box
  clear SX
  generalize (World.setCell (World.setCell (World.setCell (World.setCell w5 ⟨w.heap.size + 1, 0, none⟩ (.int .i64 K4)) ⟨w.heap.size + 1, 1, none⟩ (.bool s4)) ⟨w.heap.size + 1, 2, none⟩ (.int .u64 M4)) ⟨w.heap.size + 1, 3, none⟩ (.int .i64 E4)) = w6 at *
  refine Jo.jdone (by kernel_rfl) ?_
  go_wp2
  have r0 := XR.cell 0
  have r1 := XR.cell 1
  have r2 := XR.cell 2
  have r3 := XR.cell 3
  exact bodyPost_ret (v := .agg #[.int .i64 K4, .bool s4, .int .u64 M4, .int .i64 E4]) (by simp [results, Tryd.results42, go_sem, r0, r1, r2, r3]) rfl ⟨_, _, _, _, rfl, q4, HB.out⟩
set_option maxHeartbeats 4000000 in
theorem yround_sd {w : World} {A : Option Addr} {n c a : Nat} {s sg0 : Bool} {z e N E L x r : Int} (h : Wr w s A n c z) (hn : n ≤ 100000) (hN : (mk z e).1 = N) (hE : (mk z e).2 = E) (ha : N.natAbs = a) (hs : decide (N < 0) = sg0) (h0 : a ≠ 0) (hL : ((blen a : Nat) : Int) = L) (hl : L ≤ 64) (hx : E + L - 64 = x) (hb : L ≤ 3200000) (hr : fin sg0 (tp a) x true = r) :
    Calls Tryd.prog 42 #[.agg #[.bool s, .slice A n c, .int .i64 e], .bool (!sg0)] w (PN w r) := by
  obtain ⟨b1, b2⟩ := mk_bd z e
  rw [hE] at b1 b2
  have HN := Lib.hid hN
  have HE := Lib.hid hE
  have HA := Lib.hid ha
  have HSG := Lib.hid hs
  have HL := Lib.hid hL
  have hl0 : blen a ≠ 0 := fun e => h0 (blen_eq_zero.1 e)
  have g1 := tp_ge h0
  have g2 := tp_lt a
  have HX1 : Hid (IntKind.i64.wrap (E + L) = E + L) := Lib.hid (IntWalk.i64_in _ (by omega))
  have HX2 : Hid (IntKind.i64.wrap (E + L - 64) = x) := Lib.hid (by rw [hx]; exact IntWalk.i64_in _ (by omega))
  obtain ⟨T, hT⟩ : ∃ T, ((tp a : Nat) : Int) = T := ⟨_, rfl⟩
  rw [hT] at hr
  have HT := Lib.hid hT
  have HR := Lib.hid hr
  obtain ⟨v, hv⟩ : ∃ v, 64 - L = v := ⟨_, rfl⟩
  have HV : Hid (IntKind.i64.wrap (64 - L) = v) := Lib.hid (by rw [hv]; exact IntWalk.i64_in _ (by omega))
  have HSH : Hid (a * 2 ^ v.toNat = tp a) := Lib.hid (by rw [← hv, ← hL]; exact tp_shl (by omega))
  have hv1 : 0 ≤ v := by omega
  have hv2 : v ≤ 64 := by omega
  have hT1 : 9223372036854775808 ≤ T := by omega
  have hT2 : T < 18446744073709551616 := by omega
  have HG2 := Lib.hid g2
  clear hN hE ha hs hL hx hr hT hv g1 g2 hl0
  go_enter Tryd.func42, Tryd.ntmps42
  go_upto_region 1 with (fail)
  have X1 := (Bo.newAt w (g := w.heap.size) (by simp) #[.bool s, .slice A n c, .int .i64 e] 39).below (bel1 _ (.cells #[.int .i64 0, .bool false, .int .u64 0, .int .i64 0] 24))
  have XR := (Bo.newAt (w.alloc (.cells #[.bool s, .slice A n c, .int .i64 e] 39)) (g := w.heap.size + 1) (by simp) #[.int .i64 0, .bool false, .int .u64 0, .int .i64 0] 24)
  have HB := Lib.hid (bel2 w (.cells #[.bool s, .slice A n c, .int .i64 e] 39) (.cells #[.int .i64 0, .bool false, .int .u64 0, .int .i64 0] 24))
  replace h := h.below HB.out
  generalize hW1 : ((w.alloc (.cells #[.bool s, .slice A n c, .int .i64 e] 39)).alloc (.cells #[.int .i64 0, .bool false, .int .u64 0, .int .i64 0] 24)) = w1 at *
  clear hW1
  have xX10 := X1.at (i := 0) (v := .bool s) rfl
  have xX11 := X1.at (i := 1) (v := .slice A n c) rfl
  have xX12 := X1.at (i := 2) (v := .int .i64 e) rfl
  go_wp2_with fail
  refine (q3Make h hn HN.out HE.out).mono ?_
  rintro ee w2 ⟨s1, A1, n1, c1, rfl, p1, k1, B⟩
  clear xX10 xX11 xX12
  replace X1 := X1.below B
  replace XR := XR.below B
  replace h := h.below B
  replace HB := Lib.hid (bt HB.out B)
  clear B
  go_upto_region 2 with (fail)
  have lX5 := Nat.le_refl (World.heap w2).size
  have nX5X1 := X1.lt
  have nX5XR := XR.lt
  replace X1 := X1.below (bel1 _ (.cells #[.bool s1, .slice A1 n1 c1, .int .i64 E] 39))
  replace XR := XR.below (bel1 _ (.cells #[.bool s1, .slice A1 n1 c1, .int .i64 E] 39))
  replace p1 := p1.below (bel1 _ (.cells #[.bool s1, .slice A1 n1 c1, .int .i64 E] 39))
  replace HB := Lib.hid (bt HB.out (bel1 _ (.cells #[.bool s1, .slice A1 n1 c1, .int .i64 E] 39)))
  have X5 := Bo.new w2 #[.bool s1, .slice A1 n1 c1, .int .i64 E] 39
  generalize hWn : World.alloc w2 (.cells #[.bool s1, .slice A1 n1 c1, .int .i64 E] 39) = w3 at *
  clear hWn
  clear lX5
  obtain rfl : s1 = sg0 := p1.2.trans HSG.out
  have p2 : Nm w3 A1 n1 c1 a := HA.out ▸ p1.1
  have hbl := p2.rd.blen_le
  have hn1 : n1 ≤ 100000 := by omega
  have hpos : 0 < n1 := p2.pos.2 (by omega)
  clear p1 HSG
  have e0 : ((n1 : Int) == 0) = false := by
    have : (n1 : Int) ≠ 0 := by omega
    simpa using this
  have hbg : n1 ≤ 1099511627776 := by omega
  have f1 : (s1 != s1) = false := by cases s1 <;> rfl
  have f2 : (!s1 != s1) = true := by cases s1 <;> rfl
  have f3 : (s1 == s1) = true := by cases s1 <;> rfl
  have f4 : ((!s1) == s1) = false := by cases s1 <;> rfl
  have xX50 := X5.at (i := 0) (v := .bool s1) rfl
  have xX51 := X5.at (i := 1) (v := .slice A1 n1 c1) rfl
  have xX52 := X5.at (i := 2) (v := .int .i64 E) rfl
  go_wp2_with fail
  refine (rLen p2.rd HL.out).mono ?_
  rintro ee w4 ⟨rfl, B⟩
  clear xX50 xX51 xX52
  replace XR := XR.below B
  replace X5 := X5.below B
  replace p2 := p2.below B
  replace HB := Lib.hid (bt HB.out B)
  clear B
  have xX50 := X5.at (i := 0) (v := .bool s1) rfl
  have xX51 := X5.at (i := 1) (v := .slice A1 n1 c1) rfl
  have xX52 := X5.at (i := 2) (v := .int .i64 E) rfl
  go_upto_region 7 with (fail)
  clear xX50 xX51 xX52
  refine Jo.region_joint (T := [0, 1, 2, 3, 4, 5, 6, 7, 8, 9, 10, 11, 12, 13, 14, 15, 16]) (ds := [some 32, some 33, some 34, some 35, some 36, some 37, some 38, some 39, some 40, some 41, some 42, some 43, some 44, some 45, some 46, some 47, some 48, none]) (ls := [[], [0], [1], [], [3], [4], [], [6], [5, 7], [8], [], [10], [], [11, 12], [13], [], [2, 9, 14, 15], []]) (k := 18) (L := [(some 32, 0), (some 33, 1), (some 34, 2), (some 35, 3), (some 36, 4), (some 37, 5), (some 38, 6), (some 39, 7), (some 40, 8), (some 41, 9), (some 42, 10), (some 43, 11), (some 44, 12), (some 45, 13), (some 46, 14), (some 47, 15), (some 48, 16)]) (fuel := 1) (J := fun wj => Below (World.heap w4).size w4 wj)
    (F := [Jo.Fact.eq (.pointer (some ⟨w2.heap.size, 0, none⟩)), Jo.Fact.eq (.pointer (some ⟨w2.heap.size, 0, none⟩)), Jo.Fact.eq (.bool s1), Jo.Fact.eq (.pointer (some ⟨w2.heap.size, 0, none⟩)), Jo.Fact.eq (.pointer (some ⟨w2.heap.size, 1, none⟩)), Jo.Fact.eq (.slice A1 n1 c1), Jo.Fact.eq (.int .i64 L), Jo.Fact.eq (.int .i64 v), Jo.Fact.nm (tp a) 100100, Jo.Fact.eq (.int .u64 T), Jo.Fact.eq (.pointer (some ⟨w2.heap.size, 2, none⟩)), Jo.Fact.eq (.int .i64 E), Jo.Fact.eq (.int .i64 L), Jo.Fact.eq (.int .i64 (E + L)), Jo.Fact.eq (.int .i64 x), Jo.Fact.eq (.bool true), Jo.Fact.num r, Jo.Fact.any])
    (by kernel_rfl) (by kernel_rfl) (by decide) rfl rfl (fun _ _ h b => bt h b) ((Below.refl _ _).drew) ?_ (fun vs w5 hJ hd => ?_)
  · refine Jo.jcons (i := 0) (o := ⟨some 32, _, _, _, _, _⟩) (di := some 32) (L := []) (f := Jo.Fact.eq (.pointer (some ⟨w2.heap.size, 0, none⟩))) rfl rfl rfl rfl (fun vs wj hJ hd K hK => ?_) ?_
    · clear hd
      simp only [Jo.putl, List.foldl_nil, Act.put, List.setIfInBounds_toArray, List.set_cons_zero, List.set_cons_succ] at hK ⊢
      go_simp
      exact hK.out _ _ rfl (Below.refl _ _)
    refine Jo.jcons (i := 1) (o := ⟨some 33, _, _, _, _, _⟩) (di := some 33) (L := [(some 32, 0)]) (f := Jo.Fact.eq (.pointer (some ⟨w2.heap.size, 0, none⟩))) rfl rfl rfl rfl (fun vs wj hJ hd K hK => ?_) ?_
    · have d0 : (Jo.Fact.eq (.pointer (some ⟨w2.heap.size, 0, none⟩))).P (vs 0) wj := hd 0 (by decide)
      clear hd
      simp only [Jo.putl, List.foldl_cons, List.foldl_nil, Act.put, List.setIfInBounds_toArray, List.set_cons_zero, List.set_cons_succ] at hK ⊢
      generalize vs 0 = u0 at hK d0 ⊢
      replace d0 : u0 = _ := d0
      subst d0
      go_simp
      exact hK.out _ _ rfl (Below.refl _ _)
    refine Jo.jcons (i := 2) (o := ⟨some 34, _, _, _, _, _⟩) (di := some 34) (L := [(some 33, 1)]) (f := Jo.Fact.eq (.bool s1)) rfl rfl rfl rfl (fun vs wj hJ hd K hK => ?_) ?_
    · have d1 : (Jo.Fact.eq (.pointer (some ⟨w2.heap.size, 0, none⟩))).P (vs 1) wj := hd 1 (by decide)
      clear hd
      simp only [Jo.putl, List.foldl_cons, List.foldl_nil, Act.put, List.setIfInBounds_toArray, List.set_cons_zero, List.set_cons_succ] at hK ⊢
      generalize vs 1 = u1 at hK d1 ⊢
      replace d1 : u1 = _ := d1
      subst d1
      have xX50 : World.cell? wj ⟨w2.heap.size, 0, none⟩ = some (.bool s1) := (X5.below hJ).cell 0
      have xX51 : World.cell? wj ⟨w2.heap.size, 1, none⟩ = some (.slice A1 n1 c1) := (X5.below hJ).cell 1
      have xX52 : World.cell? wj ⟨w2.heap.size, 2, none⟩ = some (.int .i64 E) := (X5.below hJ).cell 2
      go_simp
      exact hK.out _ _ rfl (Below.refl _ _)
    refine Jo.jcons (i := 3) (o := ⟨some 35, _, _, _, _, _⟩) (di := some 35) (L := []) (f := Jo.Fact.eq (.pointer (some ⟨w2.heap.size, 0, none⟩))) rfl rfl rfl rfl (fun vs wj hJ hd K hK => ?_) ?_
    · clear hd
      simp only [Jo.putl, List.foldl_nil, Act.put, List.setIfInBounds_toArray, List.set_cons_zero, List.set_cons_succ] at hK ⊢
      go_simp
      exact hK.out _ _ rfl (Below.refl _ _)
    refine Jo.jcons (i := 4) (o := ⟨some 36, _, _, _, _, _⟩) (di := some 36) (L := [(some 35, 3)]) (f := Jo.Fact.eq (.pointer (some ⟨w2.heap.size, 1, none⟩))) rfl rfl rfl rfl (fun vs wj hJ hd K hK => ?_) ?_
    · have d3 : (Jo.Fact.eq (.pointer (some ⟨w2.heap.size, 0, none⟩))).P (vs 3) wj := hd 3 (by decide)
      clear hd
      simp only [Jo.putl, List.foldl_cons, List.foldl_nil, Act.put, List.setIfInBounds_toArray, List.set_cons_zero, List.set_cons_succ] at hK ⊢
      generalize vs 3 = u3 at hK d3 ⊢
      replace d3 : u3 = _ := d3
      subst d3
      go_simp
      exact hK.out _ _ rfl (Below.refl _ _)
    refine Jo.jcons (i := 5) (o := ⟨some 37, _, _, _, _, _⟩) (di := some 37) (L := [(some 36, 4)]) (f := Jo.Fact.eq (.slice A1 n1 c1)) rfl rfl rfl rfl (fun vs wj hJ hd K hK => ?_) ?_
    · have d4 : (Jo.Fact.eq (.pointer (some ⟨w2.heap.size, 1, none⟩))).P (vs 4) wj := hd 4 (by decide)
      clear hd
      simp only [Jo.putl, List.foldl_cons, List.foldl_nil, Act.put, List.setIfInBounds_toArray, List.set_cons_zero, List.set_cons_succ] at hK ⊢
      generalize vs 4 = u4 at hK d4 ⊢
      replace d4 : u4 = _ := d4
      subst d4
      have xX50 : World.cell? wj ⟨w2.heap.size, 0, none⟩ = some (.bool s1) := (X5.below hJ).cell 0
      have xX51 : World.cell? wj ⟨w2.heap.size, 1, none⟩ = some (.slice A1 n1 c1) := (X5.below hJ).cell 1
      have xX52 : World.cell? wj ⟨w2.heap.size, 2, none⟩ = some (.int .i64 E) := (X5.below hJ).cell 2
      go_simp
      exact hK.out _ _ rfl (Below.refl _ _)
    refine Jo.jcons (i := 6) (o := ⟨some 38, _, _, _, _, _⟩) (di := some 38) (L := []) (f := Jo.Fact.eq (.int .i64 L)) rfl rfl rfl rfl (fun vs wj hJ hd K hK => ?_) ?_
    · clear hd
      simp only [Jo.putl, List.foldl_nil, Act.put, List.setIfInBounds_toArray, List.set_cons_zero, List.set_cons_succ] at hK ⊢
      go_simp
      exact hK.out _ _ rfl (Below.refl _ _)
    refine Jo.jcons (i := 7) (o := ⟨some 39, _, _, _, _, _⟩) (di := some 39) (L := [(some 38, 6)]) (f := Jo.Fact.eq (.int .i64 v)) rfl rfl rfl rfl (fun vs wj hJ hd K hK => ?_) ?_
    · have d6 : (Jo.Fact.eq (.int .i64 L)).P (vs 6) wj := hd 6 (by decide)
      clear hd
      simp only [Jo.putl, List.foldl_cons, List.foldl_nil, Act.put, List.setIfInBounds_toArray, List.set_cons_zero, List.set_cons_succ] at hK ⊢
      generalize vs 6 = u6 at hK d6 ⊢
      replace d6 : u6 = _ := d6
      subst d6
      have hv := HV.out
      go_simp
      exact hK.out _ _ rfl (Below.refl _ _)
    refine Jo.jcons (i := 8) (o := ⟨some 40, _, _, _, _, _⟩) (di := some 40) (L := [(some 37, 5), (some 39, 7)]) (f := Jo.Fact.nm (tp a) 100100) rfl rfl rfl rfl (fun vs wj hJ hd K hK => ?_) ?_
    · have d5 : (Jo.Fact.eq (.slice A1 n1 c1)).P (vs 5) wj := hd 5 (by decide)
      have d7 : (Jo.Fact.eq (.int .i64 v)).P (vs 7) wj := hd 7 (by decide)
      clear hd
      simp only [Jo.putl, List.foldl_cons, List.foldl_nil, Act.put, List.setIfInBounds_toArray, List.set_cons_zero, List.set_cons_succ] at hK ⊢
      generalize vs 5 = u5 at hK d5 ⊢
      generalize vs 7 = u7 at hK d7 ⊢
      replace d5 : u5 = _ := d5
      subst d5
      replace d7 : u7 = _ := d7
      subst d7
      go_simp
      refine (rShlN (p2.below hJ).rd (by omega) hv1 (by omega) HSH.out).mono ?_
      rintro ee wk ⟨A3, n3, c3, rfl, p3, k3, B⟩
      exact hK.out _ _ ⟨A3, n3, c3, rfl, p3, by omega⟩ B
    refine Jo.jcons (i := 9) (o := ⟨some 41, _, _, _, _, _⟩) (di := some 41) (L := [(some 40, 8)]) (f := Jo.Fact.eq (.int .u64 T)) rfl rfl rfl rfl (fun vs wj hJ hd K hK => ?_) ?_
    · have d8 : (Jo.Fact.nm (tp a) 100100).P (vs 8) wj := hd 8 (by decide)
      clear hd
      simp only [Jo.putl, List.foldl_cons, List.foldl_nil, Act.put, List.setIfInBounds_toArray, List.set_cons_zero, List.set_cons_succ] at hK ⊢
      generalize vs 8 = u8 at hK d8 ⊢
      obtain ⟨A3, n3, c3, rfl, p3, k3⟩ := d8
      go_simp
      refine (yWord p3 HG2.out HT.out).mono ?_
      rintro ee wk ⟨rfl, B⟩
      exact hK.out _ _ rfl B
    refine Jo.jcons (i := 10) (o := ⟨some 42, _, _, _, _, _⟩) (di := some 42) (L := []) (f := Jo.Fact.eq (.pointer (some ⟨w2.heap.size, 2, none⟩))) rfl rfl rfl rfl (fun vs wj hJ hd K hK => ?_) ?_
    · clear hd
      simp only [Jo.putl, List.foldl_nil, Act.put, List.setIfInBounds_toArray, List.set_cons_zero, List.set_cons_succ] at hK ⊢
      go_simp
      exact hK.out _ _ rfl (Below.refl _ _)
    refine Jo.jcons (i := 11) (o := ⟨some 43, _, _, _, _, _⟩) (di := some 43) (L := [(some 42, 10)]) (f := Jo.Fact.eq (.int .i64 E)) rfl rfl rfl rfl (fun vs wj hJ hd K hK => ?_) ?_
    · have d10 : (Jo.Fact.eq (.pointer (some ⟨w2.heap.size, 2, none⟩))).P (vs 10) wj := hd 10 (by decide)
      clear hd
      simp only [Jo.putl, List.foldl_cons, List.foldl_nil, Act.put, List.setIfInBounds_toArray, List.set_cons_zero, List.set_cons_succ] at hK ⊢
      generalize vs 10 = u10 at hK d10 ⊢
      replace d10 : u10 = _ := d10
      subst d10
      have xX50 : World.cell? wj ⟨w2.heap.size, 0, none⟩ = some (.bool s1) := (X5.below hJ).cell 0
      have xX51 : World.cell? wj ⟨w2.heap.size, 1, none⟩ = some (.slice A1 n1 c1) := (X5.below hJ).cell 1
      have xX52 : World.cell? wj ⟨w2.heap.size, 2, none⟩ = some (.int .i64 E) := (X5.below hJ).cell 2
      go_simp
      exact hK.out _ _ rfl (Below.refl _ _)
    refine Jo.jcons (i := 12) (o := ⟨some 44, _, _, _, _, _⟩) (di := some 44) (L := []) (f := Jo.Fact.eq (.int .i64 L)) rfl rfl rfl rfl (fun vs wj hJ hd K hK => ?_) ?_
    · clear hd
      simp only [Jo.putl, List.foldl_nil, Act.put, List.setIfInBounds_toArray, List.set_cons_zero, List.set_cons_succ] at hK ⊢
      go_simp
      exact hK.out _ _ rfl (Below.refl _ _)
    refine Jo.jcons (i := 13) (o := ⟨some 45, _, _, _, _, _⟩) (di := some 45) (L := [(some 43, 11), (some 44, 12)]) (f := Jo.Fact.eq (.int .i64 (E + L))) rfl rfl rfl rfl (fun vs wj hJ hd K hK => ?_) ?_
    · have d11 : (Jo.Fact.eq (.int .i64 E)).P (vs 11) wj := hd 11 (by decide)
      have d12 : (Jo.Fact.eq (.int .i64 L)).P (vs 12) wj := hd 12 (by decide)
      clear hd
      simp only [Jo.putl, List.foldl_cons, List.foldl_nil, Act.put, List.setIfInBounds_toArray, List.set_cons_zero, List.set_cons_succ] at hK ⊢
      generalize vs 11 = u11 at hK d11 ⊢
      generalize vs 12 = u12 at hK d12 ⊢
      replace d11 : u11 = _ := d11
      subst d11
      replace d12 : u12 = _ := d12
      subst d12
      have hx1 := HX1.out
      go_simp
      exact hK.out _ _ rfl (Below.refl _ _)
    refine Jo.jcons (i := 14) (o := ⟨some 46, _, _, _, _, _⟩) (di := some 46) (L := [(some 45, 13)]) (f := Jo.Fact.eq (.int .i64 x)) rfl rfl rfl rfl (fun vs wj hJ hd K hK => ?_) ?_
    · have d13 : (Jo.Fact.eq (.int .i64 (E + L))).P (vs 13) wj := hd 13 (by decide)
      clear hd
      simp only [Jo.putl, List.foldl_cons, List.foldl_nil, Act.put, List.setIfInBounds_toArray, List.set_cons_zero, List.set_cons_succ] at hK ⊢
      generalize vs 13 = u13 at hK d13 ⊢
      replace d13 : u13 = _ := d13
      subst d13
      have hx2 := HX2.out
      go_simp
      exact hK.out _ _ rfl (Below.refl _ _)
    refine Jo.jcons (i := 15) (o := ⟨some 47, _, _, _, _, _⟩) (di := some 47) (L := []) (f := Jo.Fact.eq (.bool true)) rfl rfl rfl rfl (fun vs wj hJ hd K hK => ?_) ?_
    · clear hd
      simp only [Jo.putl, List.foldl_nil, Act.put, List.setIfInBounds_toArray, List.set_cons_zero, List.set_cons_succ] at hK ⊢
      go_simp
      exact hK.out _ _ rfl (Below.refl _ _)
    refine Jo.jcons (i := 16) (o := ⟨some 48, _, _, _, _, _⟩) (di := some 48) (L := [(some 34, 2), (some 41, 9), (some 46, 14), (some 47, 15)]) (f := Jo.Fact.num r) rfl rfl rfl rfl (fun vs wj hJ hd K hK => ?_) ?_
    · have d2 : (Jo.Fact.eq (.bool s1)).P (vs 2) wj := hd 2 (by decide)
      have d9 : (Jo.Fact.eq (.int .u64 T)).P (vs 9) wj := hd 9 (by decide)
      have d14 : (Jo.Fact.eq (.int .i64 x)).P (vs 14) wj := hd 14 (by decide)
      have d15 : (Jo.Fact.eq (.bool true)).P (vs 15) wj := hd 15 (by decide)
      clear hd
      simp only [Jo.putl, List.foldl_cons, List.foldl_nil, Act.put, List.setIfInBounds_toArray, List.set_cons_zero, List.set_cons_succ] at hK ⊢
      generalize vs 2 = u2 at hK d2 ⊢
      generalize vs 9 = u9 at hK d9 ⊢
      generalize vs 14 = u14 at hK d14 ⊢
      generalize vs 15 = u15 at hK d15 ⊢
      replace d2 : u2 = _ := d2
      subst d2
      replace d9 : u9 = _ := d9
      subst d9
      replace d14 : u14 = _ := d14
      subst d14
      replace d15 : u15 = _ := d15
      subst d15
      go_simp
      refine (yFin hT1 hT2 HR.out).mono ?_
      rintro ee wk ⟨K4, s4, M4, E4, rfl, q4, B⟩
      exact hK.out _ _ ⟨K4, s4, M4, E4, rfl, q4⟩ B
    exact Jo.Steps.nil
  have d0 : (Jo.Fact.eq (.pointer (some ⟨w2.heap.size, 0, none⟩))).P (vs 0) w5 := hd 0 (by decide)
  have d1 : (Jo.Fact.eq (.pointer (some ⟨w2.heap.size, 0, none⟩))).P (vs 1) w5 := hd 1 (by decide)
  have d2 : (Jo.Fact.eq (.bool s1)).P (vs 2) w5 := hd 2 (by decide)
  have d3 : (Jo.Fact.eq (.pointer (some ⟨w2.heap.size, 0, none⟩))).P (vs 3) w5 := hd 3 (by decide)
  have d4 : (Jo.Fact.eq (.pointer (some ⟨w2.heap.size, 1, none⟩))).P (vs 4) w5 := hd 4 (by decide)
  have d5 : (Jo.Fact.eq (.slice A1 n1 c1)).P (vs 5) w5 := hd 5 (by decide)
  have d6 : (Jo.Fact.eq (.int .i64 L)).P (vs 6) w5 := hd 6 (by decide)
  have d7 : (Jo.Fact.eq (.int .i64 v)).P (vs 7) w5 := hd 7 (by decide)
  have d8 : (Jo.Fact.nm (tp a) 100100).P (vs 8) w5 := hd 8 (by decide)
  have d9 : (Jo.Fact.eq (.int .u64 T)).P (vs 9) w5 := hd 9 (by decide)
  have d10 : (Jo.Fact.eq (.pointer (some ⟨w2.heap.size, 2, none⟩))).P (vs 10) w5 := hd 10 (by decide)
  have d11 : (Jo.Fact.eq (.int .i64 E)).P (vs 11) w5 := hd 11 (by decide)
  have d12 : (Jo.Fact.eq (.int .i64 L)).P (vs 12) w5 := hd 12 (by decide)
  have d13 : (Jo.Fact.eq (.int .i64 (E + L))).P (vs 13) w5 := hd 13 (by decide)
  have d14 : (Jo.Fact.eq (.int .i64 x)).P (vs 14) w5 := hd 14 (by decide)
  have d15 : (Jo.Fact.eq (.bool true)).P (vs 15) w5 := hd 15 (by decide)
  have d16 : (Jo.Fact.num r).P (vs 16) w5 := hd 16 (by decide)
  clear hd
  simp only [Jo.putl, List.foldl_cons, List.foldl_nil, Act.put, List.setIfInBounds_toArray, List.set_cons_zero, List.set_cons_succ]
  generalize vs 0 = u0 at d0 ⊢
  generalize vs 1 = u1 at d1 ⊢
  generalize vs 2 = u2 at d2 ⊢
  generalize vs 3 = u3 at d3 ⊢
  generalize vs 4 = u4 at d4 ⊢
  generalize vs 5 = u5 at d5 ⊢
  generalize vs 6 = u6 at d6 ⊢
  generalize vs 7 = u7 at d7 ⊢
  generalize vs 8 = u8 at d8 ⊢
  generalize vs 9 = u9 at d9 ⊢
  generalize vs 10 = u10 at d10 ⊢
  generalize vs 11 = u11 at d11 ⊢
  generalize vs 12 = u12 at d12 ⊢
  generalize vs 13 = u13 at d13 ⊢
  generalize vs 14 = u14 at d14 ⊢
  generalize vs 15 = u15 at d15 ⊢
  generalize vs 16 = u16 at d16 ⊢
  clear vs
  replace d0 : u0 = _ := d0
  subst d0
  replace d1 : u1 = _ := d1
  subst d1
  replace d2 : u2 = _ := d2
  subst d2
  replace d3 : u3 = _ := d3
  subst d3
  replace d4 : u4 = _ := d4
  subst d4
  replace d5 : u5 = _ := d5
  subst d5
  replace d6 : u6 = _ := d6
  subst d6
  replace d7 : u7 = _ := d7
  subst d7
  obtain ⟨A3, n3, c3, rfl, _, _⟩ := d8
  replace d9 : u9 = _ := d9
  subst d9
  replace d10 : u10 = _ := d10
  subst d10
  replace d11 : u11 = _ := d11
  subst d11
  replace d12 : u12 = _ := d12
  subst d12
  replace d13 : u13 = _ := d13
  subst d13
  replace d14 : u14 = _ := d14
  subst d14
  replace d15 : u15 = _ := d15
  subst d15
  obtain ⟨K4, s4, M4, E4, rfl, q4⟩ := d16
  replace XR := XR.below hJ
  replace X5 := X5.below hJ
  replace p2 := p2.below hJ
  replace HB := Lib.hid (bt HB.out hJ)
  have xXR0 := XR.at (i := 0) (v := .int .i64 0) rfl
  have zXR0 := XR.frozen 0
  have xXR1 := XR.at (i := 1) (v := .bool false) rfl
  have zXR1 := XR.frozen 1
  have xXR2 := XR.at (i := 2) (v := .int .u64 0) rfl
  have zXR2 := XR.frozen 2
  have xXR3 := XR.at (i := 3) (v := .int .i64 0) rfl
  have zXR3 := XR.frozen 3
  refine Jo.jnext (i := 17) (o := ⟨none, _, _, _, _, _⟩) (by kernel_rfl) rfl (fun K hK => ?_)
  go_simp
  refine hK.out _ _ ?_
  clear hK K xXR0 zXR0 xXR1 zXR1 xXR2 zXR2 xXR3 zXR3
  have SX := StN.mk4 XR (.int .i64 K4) (.bool s4) (.int .u64 M4) (.int .i64 E4)
  replace X5 := X5.stn SX (by omega)
  replace HB := Lib.hid (SX.below HB.out (by omega))
  replace XR := SX.box
  clear SX
  generalize (World.setCell (World.setCell (World.setCell (World.setCell w5 ⟨w.heap.size + 1, 0, none⟩ (.int .i64 K4)) ⟨w.heap.size + 1, 1, none⟩ (.bool s4)) ⟨w.heap.size + 1, 2, none⟩ (.int .u64 M4)) ⟨w.heap.size + 1, 3, none⟩ (.int .i64 E4)) = w6 at *
  refine Jo.jdone (by kernel_rfl) ?_
  go_wp2
  have r0 := XR.cell 0
  have r1 := XR.cell 1
  have r2 := XR.cell 2
  have r3 := XR.cell 3
  exact bodyPost_ret (v := .agg #[.int .i64 K4, .bool s4, .int .u64 M4, .int .i64 E4]) (by simp [results, Tryd.results42, go_sem, r0, r1, r2, r3]) rfl ⟨_, _, _, _, rfl, q4, HB.out⟩
set_option maxHeartbeats 4000000 in
theorem yround_bs {w : World} {A : Option Addr} {n c a : Nat} {s sg0 : Bool} {z e N E L x r : Int} (h : Wr w s A n c z) (hn : n ≤ 100000) (hN : (mk z e).1 = N) (hE : (mk z e).2 = E) (ha : N.natAbs = a) (hs : decide (N < 0) = sg0) (h0 : a ≠ 0) (hL : ((blen a : Nat) : Int) = L) (hl : 64 < L) (hx : E + L - 64 = x) (hb : L ≤ 3200000) (hr : fin sg0 (tp a) x false = r) :
    Calls Tryd.prog 42 #[.agg #[.bool s, .slice A n c, .int .i64 e], .bool sg0] w (PN w r) := by
  obtain ⟨b1, b2⟩ := mk_bd z e
  rw [hE] at b1 b2
  have HN := Lib.hid hN
  have HE := Lib.hid hE
  have HA := Lib.hid ha
  have HSG := Lib.hid hs
  have HL := Lib.hid hL
  have hl0 : blen a ≠ 0 := fun e => h0 (blen_eq_zero.1 e)
  have g1 := tp_ge h0
  have g2 := tp_lt a
  have HX1 : Hid (IntKind.i64.wrap (E + L) = E + L) := Lib.hid (IntWalk.i64_in _ (by omega))
  have HX2 : Hid (IntKind.i64.wrap (E + L - 64) = x) := Lib.hid (by rw [hx]; exact IntWalk.i64_in _ (by omega))
  obtain ⟨v, hv⟩ : ∃ v, L - 64 = v := ⟨_, rfl⟩
  have HV : Hid (IntKind.i64.wrap (L - 64) = v) := Lib.hid (by rw [hv]; exact IntWalk.i64_in _ (by omega))
  have HSH : Hid (a / 2 ^ v.toNat = tp a) := Lib.hid (by rw [← hv, ← hL]; exact tp_one (by omega))
  obtain ⟨T, hT⟩ : ∃ T, ((tp a : Nat) : Int) = T := ⟨_, rfl⟩
  rw [hT] at hr
  have HT := Lib.hid hT
  have HR := Lib.hid hr
  have hT1 : 9223372036854775808 ≤ T := by omega
  have hT2 : T < 18446744073709551616 := by omega
  have HG2 := Lib.hid g2
  clear hN hE ha hs hL hx hr hT hv g1 g2 hl0
  go_enter Tryd.func42, Tryd.ntmps42
  go_upto_region 1 with (fail)
  have X1 := (Bo.newAt w (g := w.heap.size) (by simp) #[.bool s, .slice A n c, .int .i64 e] 39).below (bel1 _ (.cells #[.int .i64 0, .bool false, .int .u64 0, .int .i64 0] 24))
  have XR := (Bo.newAt (w.alloc (.cells #[.bool s, .slice A n c, .int .i64 e] 39)) (g := w.heap.size + 1) (by simp) #[.int .i64 0, .bool false, .int .u64 0, .int .i64 0] 24)
  have HB := Lib.hid (bel2 w (.cells #[.bool s, .slice A n c, .int .i64 e] 39) (.cells #[.int .i64 0, .bool false, .int .u64 0, .int .i64 0] 24))
  replace h := h.below HB.out
  generalize hW1 : ((w.alloc (.cells #[.bool s, .slice A n c, .int .i64 e] 39)).alloc (.cells #[.int .i64 0, .bool false, .int .u64 0, .int .i64 0] 24)) = w1 at *
  clear hW1
  have xX10 := X1.at (i := 0) (v := .bool s) rfl
  have xX11 := X1.at (i := 1) (v := .slice A n c) rfl
  have xX12 := X1.at (i := 2) (v := .int .i64 e) rfl
  go_wp2_with fail
  refine (q3Make h hn HN.out HE.out).mono ?_
  rintro ee w2 ⟨s1, A1, n1, c1, rfl, p1, k1, B⟩
  clear xX10 xX11 xX12
  replace X1 := X1.below B
  replace XR := XR.below B
  replace h := h.below B
  replace HB := Lib.hid (bt HB.out B)
  clear B
  go_upto_region 2 with (fail)
  have lX5 := Nat.le_refl (World.heap w2).size
  have nX5X1 := X1.lt
  have nX5XR := XR.lt
  replace X1 := X1.below (bel1 _ (.cells #[.bool s1, .slice A1 n1 c1, .int .i64 E] 39))
  replace XR := XR.below (bel1 _ (.cells #[.bool s1, .slice A1 n1 c1, .int .i64 E] 39))
  replace p1 := p1.below (bel1 _ (.cells #[.bool s1, .slice A1 n1 c1, .int .i64 E] 39))
  replace HB := Lib.hid (bt HB.out (bel1 _ (.cells #[.bool s1, .slice A1 n1 c1, .int .i64 E] 39)))
  have X5 := Bo.new w2 #[.bool s1, .slice A1 n1 c1, .int .i64 E] 39
  generalize hWn : World.alloc w2 (.cells #[.bool s1, .slice A1 n1 c1, .int .i64 E] 39) = w3 at *
  clear hWn
  clear lX5
  obtain rfl : s1 = sg0 := p1.2.trans HSG.out
  have p2 : Nm w3 A1 n1 c1 a := HA.out ▸ p1.1
  have hbl := p2.rd.blen_le
  have hn1 : n1 ≤ 100000 := by omega
  have hpos : 0 < n1 := p2.pos.2 (by omega)
  clear p1 HSG
  have e0 : ((n1 : Int) == 0) = false := by
    have : (n1 : Int) ≠ 0 := by omega
    simpa using this
  have hbg : n1 ≤ 1099511627776 := by omega
  have f1 : (s1 != s1) = false := by cases s1 <;> rfl
  have f2 : (!s1 != s1) = true := by cases s1 <;> rfl
  have f3 : (s1 == s1) = true := by cases s1 <;> rfl
  have f4 : ((!s1) == s1) = false := by cases s1 <;> rfl
  have xX50 := X5.at (i := 0) (v := .bool s1) rfl
  have xX51 := X5.at (i := 1) (v := .slice A1 n1 c1) rfl
  have xX52 := X5.at (i := 2) (v := .int .i64 E) rfl
  go_wp2_with fail
  refine (rLen p2.rd HL.out).mono ?_
  rintro ee w4 ⟨rfl, B⟩
  clear xX50 xX51 xX52
  replace XR := XR.below B
  replace X5 := X5.below B
  replace p2 := p2.below B
  replace HB := Lib.hid (bt HB.out B)
  clear B
  have xX50 := X5.at (i := 0) (v := .bool s1) rfl
  have xX51 := X5.at (i := 1) (v := .slice A1 n1 c1) rfl
  have xX52 := X5.at (i := 2) (v := .int .i64 E) rfl
  have hv := HV.out
  go_wp2_with fail
  refine (rShrP v p2.rd (by omega)).mono ?_
  rintro ee w5 ⟨A3, n3, c3, rfl, p3, k3, B⟩
  clear xX50 xX51 xX52
  replace XR := XR.below B
  replace X5 := X5.below B
  replace p2 := p2.below B
  replace HB := Lib.hid (bt HB.out B)
  clear B hv
  rw [HSH.out] at p3
  have xX50 := X5.at (i := 0) (v := .bool s1) rfl
  have xX51 := X5.at (i := 1) (v := .slice A1 n1 c1) rfl
  have xX52 := X5.at (i := 2) (v := .int .i64 E) rfl
  have hx1 := HX1.out
  have hx2 := HX2.out
  go_upto_region 15 with (fail)
  clear hx1 hx2
  clear xX50 xX51 xX52
  have p9 := p3
  refine Jo.region_joint (T := [0, 1, 2, 3, 4, 5, 6, 7]) (ds := [some 71, some 72, some 73, some 74, some 75, some 76, some 77, some 78, none]) (ls := [[], [0], [1], [], [3], [], [], [2, 4, 5, 6], []]) (k := 9) (L := [(some 71, 0), (some 72, 1), (some 73, 2), (some 74, 3), (some 75, 4), (some 76, 5), (some 77, 6), (some 78, 7)]) (fuel := 1) (J := fun wj => Below (World.heap w5).size w5 wj)
    (F := [Jo.Fact.eq (.pointer (some ⟨w2.heap.size, 0, none⟩)), Jo.Fact.eq (.pointer (some ⟨w2.heap.size, 0, none⟩)), Jo.Fact.eq (.bool s1), Jo.Fact.eq (.slice A3 n3 c3), Jo.Fact.eq (.int .u64 T), Jo.Fact.eq (.int .i64 x), Jo.Fact.eq (.bool false), Jo.Fact.num r, Jo.Fact.any])
    (by kernel_rfl) (by kernel_rfl) (by decide) rfl rfl (fun _ _ h b => bt h b) ((Below.refl _ _).drew) ?_ (fun vs w8 hJ hd => ?_)
  · refine Jo.jcons (i := 0) (o := ⟨some 71, _, _, _, _, _⟩) (di := some 71) (L := []) (f := Jo.Fact.eq (.pointer (some ⟨w2.heap.size, 0, none⟩))) rfl rfl rfl rfl (fun vs wj hJ hd K hK => ?_) ?_
    · clear hd
      simp only [Jo.putl, List.foldl_nil, Act.put, List.setIfInBounds_toArray, List.set_cons_zero, List.set_cons_succ] at hK ⊢
      go_simp
      exact hK.out _ _ rfl (Below.refl _ _)
    refine Jo.jcons (i := 1) (o := ⟨some 72, _, _, _, _, _⟩) (di := some 72) (L := [(some 71, 0)]) (f := Jo.Fact.eq (.pointer (some ⟨w2.heap.size, 0, none⟩))) rfl rfl rfl rfl (fun vs wj hJ hd K hK => ?_) ?_
    · have d0 : (Jo.Fact.eq (.pointer (some ⟨w2.heap.size, 0, none⟩))).P (vs 0) wj := hd 0 (by decide)
      clear hd
      simp only [Jo.putl, List.foldl_cons, List.foldl_nil, Act.put, List.setIfInBounds_toArray, List.set_cons_zero, List.set_cons_succ] at hK ⊢
      generalize vs 0 = u0 at hK d0 ⊢
      replace d0 : u0 = _ := d0
      subst d0
      go_simp
      exact hK.out _ _ rfl (Below.refl _ _)
    refine Jo.jcons (i := 2) (o := ⟨some 73, _, _, _, _, _⟩) (di := some 73) (L := [(some 72, 1)]) (f := Jo.Fact.eq (.bool s1)) rfl rfl rfl rfl (fun vs wj hJ hd K hK => ?_) ?_
    · have d1 : (Jo.Fact.eq (.pointer (some ⟨w2.heap.size, 0, none⟩))).P (vs 1) wj := hd 1 (by decide)
      clear hd
      simp only [Jo.putl, List.foldl_cons, List.foldl_nil, Act.put, List.setIfInBounds_toArray, List.set_cons_zero, List.set_cons_succ] at hK ⊢
      generalize vs 1 = u1 at hK d1 ⊢
      replace d1 : u1 = _ := d1
      subst d1
      have xX50 : World.cell? wj ⟨w2.heap.size, 0, none⟩ = some (.bool s1) := (X5.below hJ).cell 0
      have xX51 : World.cell? wj ⟨w2.heap.size, 1, none⟩ = some (.slice A1 n1 c1) := (X5.below hJ).cell 1
      have xX52 : World.cell? wj ⟨w2.heap.size, 2, none⟩ = some (.int .i64 E) := (X5.below hJ).cell 2
      go_simp
      exact hK.out _ _ rfl (Below.refl _ _)
    refine Jo.jcons (i := 3) (o := ⟨some 74, _, _, _, _, _⟩) (di := some 74) (L := []) (f := Jo.Fact.eq (.slice A3 n3 c3)) rfl rfl rfl rfl (fun vs wj hJ hd K hK => ?_) ?_
    · clear hd
      simp only [Jo.putl, List.foldl_nil, Act.put, List.setIfInBounds_toArray, List.set_cons_zero, List.set_cons_succ] at hK ⊢
      go_simp
      exact hK.out _ _ rfl (Below.refl _ _)
    refine Jo.jcons (i := 4) (o := ⟨some 75, _, _, _, _, _⟩) (di := some 75) (L := [(some 74, 3)]) (f := Jo.Fact.eq (.int .u64 T)) rfl rfl rfl rfl (fun vs wj hJ hd K hK => ?_) ?_
    · have d3 : (Jo.Fact.eq (.slice A3 n3 c3)).P (vs 3) wj := hd 3 (by decide)
      clear hd
      simp only [Jo.putl, List.foldl_cons, List.foldl_nil, Act.put, List.setIfInBounds_toArray, List.set_cons_zero, List.set_cons_succ] at hK ⊢
      generalize vs 3 = u3 at hK d3 ⊢
      replace d3 : u3 = _ := d3
      subst d3
      go_simp
      refine (yWord (p9.below hJ) HG2.out HT.out).mono ?_
      rintro ee wk ⟨rfl, B⟩
      exact hK.out _ _ rfl B
    refine Jo.jcons (i := 5) (o := ⟨some 76, _, _, _, _, _⟩) (di := some 76) (L := []) (f := Jo.Fact.eq (.int .i64 x)) rfl rfl rfl rfl (fun vs wj hJ hd K hK => ?_) ?_
    · clear hd
      simp only [Jo.putl, List.foldl_nil, Act.put, List.setIfInBounds_toArray, List.set_cons_zero, List.set_cons_succ] at hK ⊢
      go_simp
      exact hK.out _ _ rfl (Below.refl _ _)
    refine Jo.jcons (i := 6) (o := ⟨some 77, _, _, _, _, _⟩) (di := some 77) (L := []) (f := Jo.Fact.eq (.bool false)) rfl rfl rfl rfl (fun vs wj hJ hd K hK => ?_) ?_
    · clear hd
      simp only [Jo.putl, List.foldl_nil, Act.put, List.setIfInBounds_toArray, List.set_cons_zero, List.set_cons_succ] at hK ⊢
      go_simp
      exact hK.out _ _ rfl (Below.refl _ _)
    refine Jo.jcons (i := 7) (o := ⟨some 78, _, _, _, _, _⟩) (di := some 78) (L := [(some 73, 2), (some 75, 4), (some 76, 5), (some 77, 6)]) (f := Jo.Fact.num r) rfl rfl rfl rfl (fun vs wj hJ hd K hK => ?_) ?_
    · have d2 : (Jo.Fact.eq (.bool s1)).P (vs 2) wj := hd 2 (by decide)
      have d4 : (Jo.Fact.eq (.int .u64 T)).P (vs 4) wj := hd 4 (by decide)
      have d5 : (Jo.Fact.eq (.int .i64 x)).P (vs 5) wj := hd 5 (by decide)
      have d6 : (Jo.Fact.eq (.bool false)).P (vs 6) wj := hd 6 (by decide)
      clear hd
      simp only [Jo.putl, List.foldl_cons, List.foldl_nil, Act.put, List.setIfInBounds_toArray, List.set_cons_zero, List.set_cons_succ] at hK ⊢
      generalize vs 2 = u2 at hK d2 ⊢
      generalize vs 4 = u4 at hK d4 ⊢
      generalize vs 5 = u5 at hK d5 ⊢
      generalize vs 6 = u6 at hK d6 ⊢
      replace d2 : u2 = _ := d2
      subst d2
      replace d4 : u4 = _ := d4
      subst d4
      replace d5 : u5 = _ := d5
      subst d5
      replace d6 : u6 = _ := d6
      subst d6
      go_simp
      refine (yFin hT1 hT2 HR.out).mono ?_
      rintro ee wk ⟨K4, s4, M4, E4, rfl, q4, B⟩
      exact hK.out _ _ ⟨K4, s4, M4, E4, rfl, q4⟩ B
    exact Jo.Steps.nil
  have d0 : (Jo.Fact.eq (.pointer (some ⟨w2.heap.size, 0, none⟩))).P (vs 0) w8 := hd 0 (by decide)
  have d1 : (Jo.Fact.eq (.pointer (some ⟨w2.heap.size, 0, none⟩))).P (vs 1) w8 := hd 1 (by decide)
  have d2 : (Jo.Fact.eq (.bool s1)).P (vs 2) w8 := hd 2 (by decide)
  have d3 : (Jo.Fact.eq (.slice A3 n3 c3)).P (vs 3) w8 := hd 3 (by decide)
  have d4 : (Jo.Fact.eq (.int .u64 T)).P (vs 4) w8 := hd 4 (by decide)
  have d5 : (Jo.Fact.eq (.int .i64 x)).P (vs 5) w8 := hd 5 (by decide)
  have d6 : (Jo.Fact.eq (.bool false)).P (vs 6) w8 := hd 6 (by decide)
  have d7 : (Jo.Fact.num r).P (vs 7) w8 := hd 7 (by decide)
  clear hd
  simp only [Jo.putl, List.foldl_cons, List.foldl_nil, Act.put, List.setIfInBounds_toArray, List.set_cons_zero, List.set_cons_succ]
  generalize vs 0 = u0 at d0 ⊢
  generalize vs 1 = u1 at d1 ⊢
  generalize vs 2 = u2 at d2 ⊢
  generalize vs 3 = u3 at d3 ⊢
  generalize vs 4 = u4 at d4 ⊢
  generalize vs 5 = u5 at d5 ⊢
  generalize vs 6 = u6 at d6 ⊢
  generalize vs 7 = u7 at d7 ⊢
  clear vs
  replace d0 : u0 = _ := d0
  subst d0
  replace d1 : u1 = _ := d1
  subst d1
  replace d2 : u2 = _ := d2
  subst d2
  replace d3 : u3 = _ := d3
  subst d3
  replace d4 : u4 = _ := d4
  subst d4
  replace d5 : u5 = _ := d5
  subst d5
  replace d6 : u6 = _ := d6
  subst d6
  obtain ⟨K4, s4, M4, E4, rfl, q4⟩ := d7
  replace XR := XR.below hJ
  replace X5 := X5.below hJ
  replace p9 := p9.below hJ
  replace HB := Lib.hid (bt HB.out hJ)
  have xXR0 := XR.at (i := 0) (v := .int .i64 0) rfl
  have zXR0 := XR.frozen 0
  have xXR1 := XR.at (i := 1) (v := .bool false) rfl
  have zXR1 := XR.frozen 1
  have xXR2 := XR.at (i := 2) (v := .int .u64 0) rfl
  have zXR2 := XR.frozen 2
  have xXR3 := XR.at (i := 3) (v := .int .i64 0) rfl
  have zXR3 := XR.frozen 3
  refine Jo.jnext (i := 8) (o := ⟨none, _, _, _, _, _⟩) (by kernel_rfl) rfl (fun K hK => ?_)
  go_simp
  refine hK.out _ _ ?_
  clear hK K xXR0 zXR0 xXR1 zXR1 xXR2 zXR2 xXR3 zXR3
  have SX := StN.mk4 XR (.int .i64 K4) (.bool s4) (.int .u64 M4) (.int .i64 E4)
  replace X5 := X5.stn SX (by omega)
  replace HB := Lib.hid (SX.below HB.out (by omega))
  replace XR := SX.box
  clear SX
  generalize (World.setCell (World.setCell (World.setCell (World.setCell w8 ⟨w.heap.size + 1, 0, none⟩ (.int .i64 K4)) ⟨w.heap.size + 1, 1, none⟩ (.bool s4)) ⟨w.heap.size + 1, 2, none⟩ (.int .u64 M4)) ⟨w.heap.size + 1, 3, none⟩ (.int .i64 E4)) = w9 at *
  refine Jo.jdone (by kernel_rfl) ?_
  go_wp2
  have r0 := XR.cell 0
  have r1 := XR.cell 1
  have r2 := XR.cell 2
  have r3 := XR.cell 3
  exact bodyPost_ret (v := .agg #[.int .i64 K4, .bool s4, .int .u64 M4, .int .i64 E4]) (by simp [results, Tryd.results42, go_sem, r0, r1, r2, r3]) rfl ⟨_, _, _, _, rfl, q4, HB.out⟩
set_option maxHeartbeats 4000000 in
theorem yround_bd {w : World} {A : Option Addr} {n c a : Nat} {s sg0 : Bool} {z e N E L x r : Int} (h : Wr w s A n c z) (hn : n ≤ 100000) (hN : (mk z e).1 = N) (hE : (mk z e).2 = E) (ha : N.natAbs = a) (hs : decide (N < 0) = sg0) (h0 : a ≠ 0) (hL : ((blen a : Nat) : Int) = L) (hl : 64 < L) (hx : E + L - 64 = x) (hb : L ≤ 3200000) (hc : tp a + 1 < 2 ^ 64) (hr : fin sg0 ((tp a + 1 : Nat) : Int) x true = r) :
    Calls Tryd.prog 42 #[.agg #[.bool s, .slice A n c, .int .i64 e], .bool (!sg0)] w (PN w r) := by
  obtain ⟨b1, b2⟩ := mk_bd z e
  rw [hE] at b1 b2
  have HN := Lib.hid hN
  have HE := Lib.hid hE
  have HA := Lib.hid ha
  have HSG := Lib.hid hs
  have HL := Lib.hid hL
  have hl0 : blen a ≠ 0 := fun e => h0 (blen_eq_zero.1 e)
  have g1 := tp_ge h0
  have g2 := tp_lt a
  have HX1 : Hid (IntKind.i64.wrap (E + L) = E + L) := Lib.hid (IntWalk.i64_in _ (by omega))
  have HX2 : Hid (IntKind.i64.wrap (E + L - 64) = x) := Lib.hid (by rw [hx]; exact IntWalk.i64_in _ (by omega))
  obtain ⟨v, hv⟩ : ∃ v, L - 64 = v := ⟨_, rfl⟩
  have HV : Hid (IntKind.i64.wrap (L - 64) = v) := Lib.hid (by rw [hv]; exact IntWalk.i64_in _ (by omega))
  have HSH : Hid (a / 2 ^ v.toNat = tp a) := Lib.hid (by rw [← hv, ← hL]; exact tp_one (by omega))
  obtain ⟨U, hU⟩ : ∃ U, tp a + 1 = U := ⟨_, rfl⟩
  have HU := Lib.hid hU
  rw [hU] at hr hc
  obtain ⟨T, hT⟩ : ∃ T, ((U : Nat) : Int) = T := ⟨_, rfl⟩
  rw [hT] at hr
  have HT := Lib.hid hT
  have HR := Lib.hid hr
  have hT1 : 9223372036854775808 ≤ T := by omega
  have hT2 : T < 18446744073709551616 := by omega
  have HG2 := Lib.hid hc
  obtain ⟨ℓ, hℓ⟩ : ∃ ℓ, ((blen U : Nat) : Int) = ℓ := ⟨_, rfl⟩
  have hℓ2 : ℓ ≤ 64 := by
    have := blen_mono_le hc
    omega
  have HLU := Lib.hid hℓ
  clear hN hE ha hs hL hx hr hT hv g1 g2 hl0 hc hU hℓ
  go_enter Tryd.func42, Tryd.ntmps42
  go_upto_region 1 with (fail)
  have X1 := (Bo.newAt w (g := w.heap.size) (by simp) #[.bool s, .slice A n c, .int .i64 e] 39).below (bel1 _ (.cells #[.int .i64 0, .bool false, .int .u64 0, .int .i64 0] 24))
  have XR := (Bo.newAt (w.alloc (.cells #[.bool s, .slice A n c, .int .i64 e] 39)) (g := w.heap.size + 1) (by simp) #[.int .i64 0, .bool false, .int .u64 0, .int .i64 0] 24)
  have HB := Lib.hid (bel2 w (.cells #[.bool s, .slice A n c, .int .i64 e] 39) (.cells #[.int .i64 0, .bool false, .int .u64 0, .int .i64 0] 24))
  replace h := h.below HB.out
  generalize hW1 : ((w.alloc (.cells #[.bool s, .slice A n c, .int .i64 e] 39)).alloc (.cells #[.int .i64 0, .bool false, .int .u64 0, .int .i64 0] 24)) = w1 at *
  clear hW1
  have xX10 := X1.at (i := 0) (v := .bool s) rfl
  have xX11 := X1.at (i := 1) (v := .slice A n c) rfl
  have xX12 := X1.at (i := 2) (v := .int .i64 e) rfl
  go_wp2_with fail
  refine (q3Make h hn HN.out HE.out).mono ?_
  rintro ee w2 ⟨s1, A1, n1, c1, rfl, p1, k1, B⟩
  clear xX10 xX11 xX12
  replace X1 := X1.below B
  replace XR := XR.below B
  replace h := h.below B
  replace HB := Lib.hid (bt HB.out B)
  clear B
  go_upto_region 2 with (fail)
  have lX5 := Nat.le_refl (World.heap w2).size
  have nX5X1 := X1.lt
  have nX5XR := XR.lt
  replace X1 := X1.below (bel1 _ (.cells #[.bool s1, .slice A1 n1 c1, .int .i64 E] 39))
  replace XR := XR.below (bel1 _ (.cells #[.bool s1, .slice A1 n1 c1, .int .i64 E] 39))
  replace p1 := p1.below (bel1 _ (.cells #[.bool s1, .slice A1 n1 c1, .int .i64 E] 39))
  replace HB := Lib.hid (bt HB.out (bel1 _ (.cells #[.bool s1, .slice A1 n1 c1, .int .i64 E] 39)))
  have X5 := Bo.new w2 #[.bool s1, .slice A1 n1 c1, .int .i64 E] 39
  generalize hWn : World.alloc w2 (.cells #[.bool s1, .slice A1 n1 c1, .int .i64 E] 39) = w3 at *
  clear hWn
  clear lX5
  obtain rfl : s1 = sg0 := p1.2.trans HSG.out
  have p2 : Nm w3 A1 n1 c1 a := HA.out ▸ p1.1
  have hbl := p2.rd.blen_le
  have hn1 : n1 ≤ 100000 := by omega
  have hpos : 0 < n1 := p2.pos.2 (by omega)
  clear p1 HSG
  have e0 : ((n1 : Int) == 0) = false := by
    have : (n1 : Int) ≠ 0 := by omega
    simpa using this
  have hbg : n1 ≤ 1099511627776 := by omega
  have f1 : (s1 != s1) = false := by cases s1 <;> rfl
  have f2 : (!s1 != s1) = true := by cases s1 <;> rfl
  have f3 : (s1 == s1) = true := by cases s1 <;> rfl
  have f4 : ((!s1) == s1) = false := by cases s1 <;> rfl
  have xX50 := X5.at (i := 0) (v := .bool s1) rfl
  have xX51 := X5.at (i := 1) (v := .slice A1 n1 c1) rfl
  have xX52 := X5.at (i := 2) (v := .int .i64 E) rfl
  go_wp2_with fail
  refine (rLen p2.rd HL.out).mono ?_
  rintro ee w4 ⟨rfl, B⟩
  clear xX50 xX51 xX52
  replace XR := XR.below B
  replace X5 := X5.below B
  replace p2 := p2.below B
  replace HB := Lib.hid (bt HB.out B)
  clear B
  have xX50 := X5.at (i := 0) (v := .bool s1) rfl
  have xX51 := X5.at (i := 1) (v := .slice A1 n1 c1) rfl
  have xX52 := X5.at (i := 2) (v := .int .i64 E) rfl
  have hv := HV.out
  go_wp2_with fail
  refine (rShrP v p2.rd (by omega)).mono ?_
  rintro ee w5 ⟨A3, n3, c3, rfl, p3, k3, B⟩
  clear xX50 xX51 xX52
  replace XR := XR.below B
  replace X5 := X5.below B
  replace p2 := p2.below B
  replace HB := Lib.hid (bt HB.out B)
  clear B hv
  rw [HSH.out] at p3
  have xX50 := X5.at (i := 0) (v := .bool s1) rfl
  have xX51 := X5.at (i := 1) (v := .slice A1 n1 c1) rfl
  have xX52 := X5.at (i := 2) (v := .int .i64 E) rfl
  have hx1 := HX1.out
  have hx2 := HX2.out
  go_wp2_with fail
  clear hx1 hx2
  refine (rAddE (p3.rd.below (bel1 _ _)) (one_rd _) (by omega) (by omega) HU.out).mono ?_
  rintro ee w6 ⟨A4, n4, c4, rfl, p4, k4, B⟩
  replace B := bt (bel1 _ _) B
  clear xX50 xX51 xX52
  replace XR := XR.below B
  replace X5 := X5.below B
  replace p3 := p3.below B
  replace HB := Lib.hid (bt HB.out B)
  clear B
  have hn3 : n3 ≤ 100000 := by omega
  go_wp2_with fail
  refine (rLen p4.rd HLU.out).mono ?_
  rintro ee w7 ⟨rfl, B⟩
  replace XR := XR.below B
  replace X5 := X5.below B
  replace p4 := p4.below B
  replace HB := Lib.hid (bt HB.out B)
  clear B
  go_upto_region 15 with (fail)
  have p9 := p4
  refine Jo.region_joint (T := [0, 1, 2, 3, 4, 5, 6, 7]) (ds := [some 71, some 72, some 73, some 74, some 75, some 76, some 77, some 78, none]) (ls := [[], [0], [1], [], [3], [], [], [2, 4, 5, 6], []]) (k := 9) (L := [(some 71, 0), (some 72, 1), (some 73, 2), (some 74, 3), (some 75, 4), (some 76, 5), (some 77, 6), (some 78, 7)]) (fuel := 1) (J := fun wj => Below (World.heap w7).size w7 wj)
    (F := [Jo.Fact.eq (.pointer (some ⟨w2.heap.size, 0, none⟩)), Jo.Fact.eq (.pointer (some ⟨w2.heap.size, 0, none⟩)), Jo.Fact.eq (.bool s1), Jo.Fact.eq (.slice A4 n4 c4), Jo.Fact.eq (.int .u64 T), Jo.Fact.eq (.int .i64 x), Jo.Fact.eq (.bool true), Jo.Fact.num r, Jo.Fact.any])
    (by kernel_rfl) (by kernel_rfl) (by decide) rfl rfl (fun _ _ h b => bt h b) ((Below.refl _ _).drew) ?_ (fun vs w8 hJ hd => ?_)
  · refine Jo.jcons (i := 0) (o := ⟨some 71, _, _, _, _, _⟩) (di := some 71) (L := []) (f := Jo.Fact.eq (.pointer (some ⟨w2.heap.size, 0, none⟩))) rfl rfl rfl rfl (fun vs wj hJ hd K hK => ?_) ?_
    · clear hd
      simp only [Jo.putl, List.foldl_nil, Act.put, List.setIfInBounds_toArray, List.set_cons_zero, List.set_cons_succ] at hK ⊢
      go_simp
      exact hK.out _ _ rfl (Below.refl _ _)
    refine Jo.jcons (i := 1) (o := ⟨some 72, _, _, _, _, _⟩) (di := some 72) (L := [(some 71, 0)]) (f := Jo.Fact.eq (.pointer (some ⟨w2.heap.size, 0, none⟩))) rfl rfl rfl rfl (fun vs wj hJ hd K hK => ?_) ?_
    · have d0 : (Jo.Fact.eq (.pointer (some ⟨w2.heap.size, 0, none⟩))).P (vs 0) wj := hd 0 (by decide)
      clear hd
      simp only [Jo.putl, List.foldl_cons, List.foldl_nil, Act.put, List.setIfInBounds_toArray, List.set_cons_zero, List.set_cons_succ] at hK ⊢
      generalize vs 0 = u0 at hK d0 ⊢
      replace d0 : u0 = _ := d0
      subst d0
      go_simp
      exact hK.out _ _ rfl (Below.refl _ _)
    refine Jo.jcons (i := 2) (o := ⟨some 73, _, _, _, _, _⟩) (di := some 73) (L := [(some 72, 1)]) (f := Jo.Fact.eq (.bool s1)) rfl rfl rfl rfl (fun vs wj hJ hd K hK => ?_) ?_
    · have d1 : (Jo.Fact.eq (.pointer (some ⟨w2.heap.size, 0, none⟩))).P (vs 1) wj := hd 1 (by decide)
      clear hd
      simp only [Jo.putl, List.foldl_cons, List.foldl_nil, Act.put, List.setIfInBounds_toArray, List.set_cons_zero, List.set_cons_succ] at hK ⊢
      generalize vs 1 = u1 at hK d1 ⊢
      replace d1 : u1 = _ := d1
      subst d1
      have xX50 : World.cell? wj ⟨w2.heap.size, 0, none⟩ = some (.bool s1) := (X5.below hJ).cell 0
      have xX51 : World.cell? wj ⟨w2.heap.size, 1, none⟩ = some (.slice A1 n1 c1) := (X5.below hJ).cell 1
      have xX52 : World.cell? wj ⟨w2.heap.size, 2, none⟩ = some (.int .i64 E) := (X5.below hJ).cell 2
      go_simp
      exact hK.out _ _ rfl (Below.refl _ _)
    refine Jo.jcons (i := 3) (o := ⟨some 74, _, _, _, _, _⟩) (di := some 74) (L := []) (f := Jo.Fact.eq (.slice A4 n4 c4)) rfl rfl rfl rfl (fun vs wj hJ hd K hK => ?_) ?_
    · clear hd
      simp only [Jo.putl, List.foldl_nil, Act.put, List.setIfInBounds_toArray, List.set_cons_zero, List.set_cons_succ] at hK ⊢
      go_simp
      exact hK.out _ _ rfl (Below.refl _ _)
    refine Jo.jcons (i := 4) (o := ⟨some 75, _, _, _, _, _⟩) (di := some 75) (L := [(some 74, 3)]) (f := Jo.Fact.eq (.int .u64 T)) rfl rfl rfl rfl (fun vs wj hJ hd K hK => ?_) ?_
    · have d3 : (Jo.Fact.eq (.slice A4 n4 c4)).P (vs 3) wj := hd 3 (by decide)
      clear hd
      simp only [Jo.putl, List.foldl_cons, List.foldl_nil, Act.put, List.setIfInBounds_toArray, List.set_cons_zero, List.set_cons_succ] at hK ⊢
      generalize vs 3 = u3 at hK d3 ⊢
      replace d3 : u3 = _ := d3
      subst d3
      go_simp
      refine (yWord (p9.below hJ) HG2.out HT.out).mono ?_
      rintro ee wk ⟨rfl, B⟩
      exact hK.out _ _ rfl B
    refine Jo.jcons (i := 5) (o := ⟨some 76, _, _, _, _, _⟩) (di := some 76) (L := []) (f := Jo.Fact.eq (.int .i64 x)) rfl rfl rfl rfl (fun vs wj hJ hd K hK => ?_) ?_
    · clear hd
      simp only [Jo.putl, List.foldl_nil, Act.put, List.setIfInBounds_toArray, List.set_cons_zero, List.set_cons_succ] at hK ⊢
      go_simp
      exact hK.out _ _ rfl (Below.refl _ _)
    refine Jo.jcons (i := 6) (o := ⟨some 77, _, _, _, _, _⟩) (di := some 77) (L := []) (f := Jo.Fact.eq (.bool true)) rfl rfl rfl rfl (fun vs wj hJ hd K hK => ?_) ?_
    · clear hd
      simp only [Jo.putl, List.foldl_nil, Act.put, List.setIfInBounds_toArray, List.set_cons_zero, List.set_cons_succ] at hK ⊢
      go_simp
      exact hK.out _ _ rfl (Below.refl _ _)
    refine Jo.jcons (i := 7) (o := ⟨some 78, _, _, _, _, _⟩) (di := some 78) (L := [(some 73, 2), (some 75, 4), (some 76, 5), (some 77, 6)]) (f := Jo.Fact.num r) rfl rfl rfl rfl (fun vs wj hJ hd K hK => ?_) ?_
    · have d2 : (Jo.Fact.eq (.bool s1)).P (vs 2) wj := hd 2 (by decide)
      have d4 : (Jo.Fact.eq (.int .u64 T)).P (vs 4) wj := hd 4 (by decide)
      have d5 : (Jo.Fact.eq (.int .i64 x)).P (vs 5) wj := hd 5 (by decide)
      have d6 : (Jo.Fact.eq (.bool true)).P (vs 6) wj := hd 6 (by decide)
      clear hd
      simp only [Jo.putl, List.foldl_cons, List.foldl_nil, Act.put, List.setIfInBounds_toArray, List.set_cons_zero, List.set_cons_succ] at hK ⊢
      generalize vs 2 = u2 at hK d2 ⊢
      generalize vs 4 = u4 at hK d4 ⊢
      generalize vs 5 = u5 at hK d5 ⊢
      generalize vs 6 = u6 at hK d6 ⊢
      replace d2 : u2 = _ := d2
      subst d2
      replace d4 : u4 = _ := d4
      subst d4
      replace d5 : u5 = _ := d5
      subst d5
      replace d6 : u6 = _ := d6
      subst d6
      go_simp
      refine (yFin hT1 hT2 HR.out).mono ?_
      rintro ee wk ⟨K4, s4, M4, E4, rfl, q4, B⟩
      exact hK.out _ _ ⟨K4, s4, M4, E4, rfl, q4⟩ B
    exact Jo.Steps.nil
  have d0 : (Jo.Fact.eq (.pointer (some ⟨w2.heap.size, 0, none⟩))).P (vs 0) w8 := hd 0 (by decide)
  have d1 : (Jo.Fact.eq (.pointer (some ⟨w2.heap.size, 0, none⟩))).P (vs 1) w8 := hd 1 (by decide)
  have d2 : (Jo.Fact.eq (.bool s1)).P (vs 2) w8 := hd 2 (by decide)
  have d3 : (Jo.Fact.eq (.slice A4 n4 c4)).P (vs 3) w8 := hd 3 (by decide)
  have d4 : (Jo.Fact.eq (.int .u64 T)).P (vs 4) w8 := hd 4 (by decide)
  have d5 : (Jo.Fact.eq (.int .i64 x)).P (vs 5) w8 := hd 5 (by decide)
  have d6 : (Jo.Fact.eq (.bool true)).P (vs 6) w8 := hd 6 (by decide)
  have d7 : (Jo.Fact.num r).P (vs 7) w8 := hd 7 (by decide)
  clear hd
  simp only [Jo.putl, List.foldl_cons, List.foldl_nil, Act.put, List.setIfInBounds_toArray, List.set_cons_zero, List.set_cons_succ]
  generalize vs 0 = u0 at d0 ⊢
  generalize vs 1 = u1 at d1 ⊢
  generalize vs 2 = u2 at d2 ⊢
  generalize vs 3 = u3 at d3 ⊢
  generalize vs 4 = u4 at d4 ⊢
  generalize vs 5 = u5 at d5 ⊢
  generalize vs 6 = u6 at d6 ⊢
  generalize vs 7 = u7 at d7 ⊢
  clear vs
  replace d0 : u0 = _ := d0
  subst d0
  replace d1 : u1 = _ := d1
  subst d1
  replace d2 : u2 = _ := d2
  subst d2
  replace d3 : u3 = _ := d3
  subst d3
  replace d4 : u4 = _ := d4
  subst d4
  replace d5 : u5 = _ := d5
  subst d5
  replace d6 : u6 = _ := d6
  subst d6
  obtain ⟨K4, s4, M4, E4, rfl, q4⟩ := d7
  replace XR := XR.below hJ
  replace X5 := X5.below hJ
  replace p9 := p9.below hJ
  replace HB := Lib.hid (bt HB.out hJ)
  have xXR0 := XR.at (i := 0) (v := .int .i64 0) rfl
  have zXR0 := XR.frozen 0
  have xXR1 := XR.at (i := 1) (v := .bool false) rfl
  have zXR1 := XR.frozen 1
  have xXR2 := XR.at (i := 2) (v := .int .u64 0) rfl
  have zXR2 := XR.frozen 2
  have xXR3 := XR.at (i := 3) (v := .int .i64 0) rfl
  have zXR3 := XR.frozen 3
  refine Jo.jnext (i := 8) (o := ⟨none, _, _, _, _, _⟩) (by kernel_rfl) rfl (fun K hK => ?_)
  go_simp
  refine hK.out _ _ ?_
  clear hK K xXR0 zXR0 xXR1 zXR1 xXR2 zXR2 xXR3 zXR3
  have SX := StN.mk4 XR (.int .i64 K4) (.bool s4) (.int .u64 M4) (.int .i64 E4)
  replace X5 := X5.stn SX (by omega)
  replace HB := Lib.hid (SX.below HB.out (by omega))
  replace XR := SX.box
  clear SX
  generalize (World.setCell (World.setCell (World.setCell (World.setCell w8 ⟨w.heap.size + 1, 0, none⟩ (.int .i64 K4)) ⟨w.heap.size + 1, 1, none⟩ (.bool s4)) ⟨w.heap.size + 1, 2, none⟩ (.int .u64 M4)) ⟨w.heap.size + 1, 3, none⟩ (.int .i64 E4)) = w9 at *
  refine Jo.jdone (by kernel_rfl) ?_
  go_wp2
  have r0 := XR.cell 0
  have r1 := XR.cell 1
  have r2 := XR.cell 2
  have r3 := XR.cell 3
  exact bodyPost_ret (v := .agg #[.int .i64 K4, .bool s4, .int .u64 M4, .int .i64 E4]) (by simp [results, Tryd.results42, go_sem, r0, r1, r2, r3]) rfl ⟨_, _, _, _, rfl, q4, HB.out⟩
set_option maxHeartbeats 4000000 in
theorem yround_bc {w : World} {A : Option Addr} {n c a : Nat} {s sg0 : Bool} {z e N E L x r : Int} (h : Wr w s A n c z) (hn : n ≤ 100000) (hN : (mk z e).1 = N) (hE : (mk z e).2 = E) (ha : N.natAbs = a) (hs : decide (N < 0) = sg0) (h0 : a ≠ 0) (hL : ((blen a : Nat) : Int) = L) (hl : 64 < L) (hx : E + L - 64 = x) (hb : L ≤ 3200000) (hc : tp a + 1 = 2 ^ 64) (hr : fin sg0 9223372036854775808 (x + 1) true = r) :
    Calls Tryd.prog 42 #[.agg #[.bool s, .slice A n c, .int .i64 e], .bool (!sg0)] w (PN w r) := by
  obtain ⟨b1, b2⟩ := mk_bd z e
  rw [hE] at b1 b2
  have HN := Lib.hid hN
  have HE := Lib.hid hE
  have HA := Lib.hid ha
  have HSG := Lib.hid hs
  have HL := Lib.hid hL
  have hl0 : blen a ≠ 0 := fun e => h0 (blen_eq_zero.1 e)
  have g1 := tp_ge h0
  have g2 := tp_lt a
  have HX1 : Hid (IntKind.i64.wrap (E + L) = E + L) := Lib.hid (IntWalk.i64_in _ (by omega))
  have HX2 : Hid (IntKind.i64.wrap (E + L - 64) = x) := Lib.hid (by rw [hx]; exact IntWalk.i64_in _ (by omega))
  obtain ⟨v, hv⟩ : ∃ v, L - 64 = v := ⟨_, rfl⟩
  have HV : Hid (IntKind.i64.wrap (L - 64) = v) := Lib.hid (by rw [hv]; exact IntWalk.i64_in _ (by omega))
  have HSH : Hid (a / 2 ^ v.toNat = tp a) := Lib.hid (by rw [← hv, ← hL]; exact tp_one (by omega))
  obtain ⟨U, hU⟩ : ∃ U, tp a + 1 = U := ⟨_, rfl⟩
  have HU := Lib.hid hU
  rw [hU] at hc
  have HR := Lib.hid hr
  have hT1 : (9223372036854775808 : Int) ≤ 9223372036854775808 := by decide
  have hT2 : (9223372036854775808 : Int) < 18446744073709551616 := by decide
  have hc2 : U = 18446744073709551616 := hc
  have HG2 : Hid (9223372036854775808 < 18446744073709551616) := Lib.hid (by decide)
  have HW3 : Hid (IntKind.i64.wrap (x + 1) = x + 1) := Lib.hid (IntWalk.i64_in _ (by omega))
  have HLU : Hid (((blen U : Nat) : Int) = 65) := Lib.hid (by rw [hc, blen_pow]; rfl)
  have HDV : Hid (U / 2 ^ (1 : Int).toNat = 9223372036854775808) := Lib.hid (by rw [hc2]; decide)
  clear hN hE ha hs hL hx hr hv g1 g2 hl0 hc hU hc2
  go_enter Tryd.func42, Tryd.ntmps42
  go_upto_region 1 with (fail)
  have X1 := (Bo.newAt w (g := w.heap.size) (by simp) #[.bool s, .slice A n c, .int .i64 e] 39).below (bel1 _ (.cells #[.int .i64 0, .bool false, .int .u64 0, .int .i64 0] 24))
  have XR := (Bo.newAt (w.alloc (.cells #[.bool s, .slice A n c, .int .i64 e] 39)) (g := w.heap.size + 1) (by simp) #[.int .i64 0, .bool false, .int .u64 0, .int .i64 0] 24)
  have HB := Lib.hid (bel2 w (.cells #[.bool s, .slice A n c, .int .i64 e] 39) (.cells #[.int .i64 0, .bool false, .int .u64 0, .int .i64 0] 24))
  replace h := h.below HB.out
  generalize hW1 : ((w.alloc (.cells #[.bool s, .slice A n c, .int .i64 e] 39)).alloc (.cells #[.int .i64 0, .bool false, .int .u64 0, .int .i64 0] 24)) = w1 at *
  clear hW1
  have xX10 := X1.at (i := 0) (v := .bool s) rfl
  have xX11 := X1.at (i := 1) (v := .slice A n c) rfl
  have xX12 := X1.at (i := 2) (v := .int .i64 e) rfl
  go_wp2_with fail
  refine (q3Make h hn HN.out HE.out).mono ?_
  rintro ee w2 ⟨s1, A1, n1, c1, rfl, p1, k1, B⟩
  clear xX10 xX11 xX12
  replace X1 := X1.below B
  replace XR := XR.below B
  replace h := h.below B
  replace HB := Lib.hid (bt HB.out B)
  clear B
  go_upto_region 2 with (fail)
  have lX5 := Nat.le_refl (World.heap w2).size
  have nX5X1 := X1.lt
  have nX5XR := XR.lt
  replace X1 := X1.below (bel1 _ (.cells #[.bool s1, .slice A1 n1 c1, .int .i64 E] 39))
  replace XR := XR.below (bel1 _ (.cells #[.bool s1, .slice A1 n1 c1, .int .i64 E] 39))
  replace p1 := p1.below (bel1 _ (.cells #[.bool s1, .slice A1 n1 c1, .int .i64 E] 39))
  replace HB := Lib.hid (bt HB.out (bel1 _ (.cells #[.bool s1, .slice A1 n1 c1, .int .i64 E] 39)))
  have X5 := Bo.new w2 #[.bool s1, .slice A1 n1 c1, .int .i64 E] 39
  generalize hWn : World.alloc w2 (.cells #[.bool s1, .slice A1 n1 c1, .int .i64 E] 39) = w3 at *
  clear hWn
  clear lX5
  obtain rfl : s1 = sg0 := p1.2.trans HSG.out
  have p2 : Nm w3 A1 n1 c1 a := HA.out ▸ p1.1
  have hbl := p2.rd.blen_le
  have hn1 : n1 ≤ 100000 := by omega
  have hpos : 0 < n1 := p2.pos.2 (by omega)
  clear p1 HSG
  have e0 : ((n1 : Int) == 0) = false := by
    have : (n1 : Int) ≠ 0 := by omega
    simpa using this
  have hbg : n1 ≤ 1099511627776 := by omega
  have f1 : (s1 != s1) = false := by cases s1 <;> rfl
  have f2 : (!s1 != s1) = true := by cases s1 <;> rfl
  have f3 : (s1 == s1) = true := by cases s1 <;> rfl
  have f4 : ((!s1) == s1) = false := by cases s1 <;> rfl
  have xX50 := X5.at (i := 0) (v := .bool s1) rfl
  have xX51 := X5.at (i := 1) (v := .slice A1 n1 c1) rfl
  have xX52 := X5.at (i := 2) (v := .int .i64 E) rfl
  go_wp2_with fail
  refine (rLen p2.rd HL.out).mono ?_
  rintro ee w4 ⟨rfl, B⟩
  clear xX50 xX51 xX52
  replace XR := XR.below B
  replace X5 := X5.below B
  replace p2 := p2.below B
  replace HB := Lib.hid (bt HB.out B)
  clear B
  have xX50 := X5.at (i := 0) (v := .bool s1) rfl
  have xX51 := X5.at (i := 1) (v := .slice A1 n1 c1) rfl
  have xX52 := X5.at (i := 2) (v := .int .i64 E) rfl
  have hv := HV.out
  go_wp2_with fail
  refine (rShrP v p2.rd (by omega)).mono ?_
  rintro ee w5 ⟨A3, n3, c3, rfl, p3, k3, B⟩
  clear xX50 xX51 xX52
  replace XR := XR.below B
  replace X5 := X5.below B
  replace p2 := p2.below B
  replace HB := Lib.hid (bt HB.out B)
  clear B hv
  rw [HSH.out] at p3
  have xX50 := X5.at (i := 0) (v := .bool s1) rfl
  have xX51 := X5.at (i := 1) (v := .slice A1 n1 c1) rfl
  have xX52 := X5.at (i := 2) (v := .int .i64 E) rfl
  have hx1 := HX1.out
  have hx2 := HX2.out
  go_wp2_with fail
  clear hx1 hx2
  refine (rAddE (p3.rd.below (bel1 _ _)) (one_rd _) (by omega) (by omega) HU.out).mono ?_
  rintro ee w6 ⟨A4, n4, c4, rfl, p4, k4, B⟩
  replace B := bt (bel1 _ _) B
  clear xX50 xX51 xX52
  replace XR := XR.below B
  replace X5 := X5.below B
  replace p3 := p3.below B
  replace HB := Lib.hid (bt HB.out B)
  clear B
  have hn3 : n3 ≤ 100000 := by omega
  go_wp2_with fail
  refine (rLen p4.rd HLU.out).mono ?_
  rintro ee w7 ⟨rfl, B⟩
  replace XR := XR.below B
  replace X5 := X5.below B
  replace p4 := p4.below B
  replace HB := Lib.hid (bt HB.out B)
  clear B
  go_wp2_with fail
  refine (rShrP 1 p4.rd (by omega)).mono ?_
  rintro ee w71 ⟨A5, n5, c5, rfl, p5, k5, B⟩
  replace XR := XR.below B
  replace X5 := X5.below B
  replace p4 := p4.below B
  replace HB := Lib.hid (bt HB.out B)
  clear B
  rw [HDV.out] at p5
  have hw3 := HW3.out
  go_upto_region 15 with (fail)
  clear hw3
  have p9 := p5
  refine Jo.region_joint (T := [0, 1, 2, 3, 4, 5, 6, 7]) (ds := [some 71, some 72, some 73, some 74, some 75, some 76, some 77, some 78, none]) (ls := [[], [0], [1], [], [3], [], [], [2, 4, 5, 6], []]) (k := 9) (L := [(some 71, 0), (some 72, 1), (some 73, 2), (some 74, 3), (some 75, 4), (some 76, 5), (some 77, 6), (some 78, 7)]) (fuel := 1) (J := fun wj => Below (World.heap w71).size w71 wj)
    (F := [Jo.Fact.eq (.pointer (some ⟨w2.heap.size, 0, none⟩)), Jo.Fact.eq (.pointer (some ⟨w2.heap.size, 0, none⟩)), Jo.Fact.eq (.bool s1), Jo.Fact.eq (.slice A5 n5 c5), Jo.Fact.eq (.int .u64 9223372036854775808), Jo.Fact.eq (.int .i64 (x + 1)), Jo.Fact.eq (.bool true), Jo.Fact.num r, Jo.Fact.any])
    (by kernel_rfl) (by kernel_rfl) (by decide) rfl rfl (fun _ _ h b => bt h b) ((Below.refl _ _).drew) ?_ (fun vs w8 hJ hd => ?_)
  · refine Jo.jcons (i := 0) (o := ⟨some 71, _, _, _, _, _⟩) (di := some 71) (L := []) (f := Jo.Fact.eq (.pointer (some ⟨w2.heap.size, 0, none⟩))) rfl rfl rfl rfl (fun vs wj hJ hd K hK => ?_) ?_
    · clear hd
      simp only [Jo.putl, List.foldl_nil, Act.put, List.setIfInBounds_toArray, List.set_cons_zero, List.set_cons_succ] at hK ⊢
      go_simp
      exact hK.out _ _ rfl (Below.refl _ _)
    refine Jo.jcons (i := 1) (o := ⟨some 72, _, _, _, _, _⟩) (di := some 72) (L := [(some 71, 0)]) (f := Jo.Fact.eq (.pointer (some ⟨w2.heap.size, 0, none⟩))) rfl rfl rfl rfl (fun vs wj hJ hd K hK => ?_) ?_
    · have d0 : (Jo.Fact.eq (.pointer (some ⟨w2.heap.size, 0, none⟩))).P (vs 0) wj := hd 0 (by decide)
      clear hd
      simp only [Jo.putl, List.foldl_cons, List.foldl_nil, Act.put, List.setIfInBounds_toArray, List.set_cons_zero, List.set_cons_succ] at hK ⊢
      generalize vs 0 = u0 at hK d0 ⊢
      replace d0 : u0 = _ := d0
      subst d0
      go_simp
      exact hK.out _ _ rfl (Below.refl _ _)
    refine Jo.jcons (i := 2) (o := ⟨some 73, _, _, _, _, _⟩) (di := some 73) (L := [(some 72, 1)]) (f := Jo.Fact.eq (.bool s1)) rfl rfl rfl rfl (fun vs wj hJ hd K hK => ?_) ?_
    · have d1 : (Jo.Fact.eq (.pointer (some ⟨w2.heap.size, 0, none⟩))).P (vs 1) wj := hd 1 (by decide)
      clear hd
      simp only [Jo.putl, List.foldl_cons, List.foldl_nil, Act.put, List.setIfInBounds_toArray, List.set_cons_zero, List.set_cons_succ] at hK ⊢
      generalize vs 1 = u1 at hK d1 ⊢
      replace d1 : u1 = _ := d1
      subst d1
      have xX50 : World.cell? wj ⟨w2.heap.size, 0, none⟩ = some (.bool s1) := (X5.below hJ).cell 0
      have xX51 : World.cell? wj ⟨w2.heap.size, 1, none⟩ = some (.slice A1 n1 c1) := (X5.below hJ).cell 1
      have xX52 : World.cell? wj ⟨w2.heap.size, 2, none⟩ = some (.int .i64 E) := (X5.below hJ).cell 2
      go_simp
      exact hK.out _ _ rfl (Below.refl _ _)
    refine Jo.jcons (i := 3) (o := ⟨some 74, _, _, _, _, _⟩) (di := some 74) (L := []) (f := Jo.Fact.eq (.slice A5 n5 c5)) rfl rfl rfl rfl (fun vs wj hJ hd K hK => ?_) ?_
    · clear hd
      simp only [Jo.putl, List.foldl_nil, Act.put, List.setIfInBounds_toArray, List.set_cons_zero, List.set_cons_succ] at hK ⊢
      go_simp
      exact hK.out _ _ rfl (Below.refl _ _)
    refine Jo.jcons (i := 4) (o := ⟨some 75, _, _, _, _, _⟩) (di := some 75) (L := [(some 74, 3)]) (f := Jo.Fact.eq (.int .u64 9223372036854775808)) rfl rfl rfl rfl (fun vs wj hJ hd K hK => ?_) ?_
    · have d3 : (Jo.Fact.eq (.slice A5 n5 c5)).P (vs 3) wj := hd 3 (by decide)
      clear hd
      simp only [Jo.putl, List.foldl_cons, List.foldl_nil, Act.put, List.setIfInBounds_toArray, List.set_cons_zero, List.set_cons_succ] at hK ⊢
      generalize vs 3 = u3 at hK d3 ⊢
      replace d3 : u3 = _ := d3
      subst d3
      go_simp
      refine (yWord (p9.below hJ) HG2.out rfl).mono ?_
      rintro ee wk ⟨rfl, B⟩
      exact hK.out _ _ rfl B
    refine Jo.jcons (i := 5) (o := ⟨some 76, _, _, _, _, _⟩) (di := some 76) (L := []) (f := Jo.Fact.eq (.int .i64 (x + 1))) rfl rfl rfl rfl (fun vs wj hJ hd K hK => ?_) ?_
    · clear hd
      simp only [Jo.putl, List.foldl_nil, Act.put, List.setIfInBounds_toArray, List.set_cons_zero, List.set_cons_succ] at hK ⊢
      go_simp
      exact hK.out _ _ rfl (Below.refl _ _)
    refine Jo.jcons (i := 6) (o := ⟨some 77, _, _, _, _, _⟩) (di := some 77) (L := []) (f := Jo.Fact.eq (.bool true)) rfl rfl rfl rfl (fun vs wj hJ hd K hK => ?_) ?_
    · clear hd
      simp only [Jo.putl, List.foldl_nil, Act.put, List.setIfInBounds_toArray, List.set_cons_zero, List.set_cons_succ] at hK ⊢
      go_simp
      exact hK.out _ _ rfl (Below.refl _ _)
    refine Jo.jcons (i := 7) (o := ⟨some 78, _, _, _, _, _⟩) (di := some 78) (L := [(some 73, 2), (some 75, 4), (some 76, 5), (some 77, 6)]) (f := Jo.Fact.num r) rfl rfl rfl rfl (fun vs wj hJ hd K hK => ?_) ?_
    · have d2 : (Jo.Fact.eq (.bool s1)).P (vs 2) wj := hd 2 (by decide)
      have d4 : (Jo.Fact.eq (.int .u64 9223372036854775808)).P (vs 4) wj := hd 4 (by decide)
      have d5 : (Jo.Fact.eq (.int .i64 (x + 1))).P (vs 5) wj := hd 5 (by decide)
      have d6 : (Jo.Fact.eq (.bool true)).P (vs 6) wj := hd 6 (by decide)
      clear hd
      simp only [Jo.putl, List.foldl_cons, List.foldl_nil, Act.put, List.setIfInBounds_toArray, List.set_cons_zero, List.set_cons_succ] at hK ⊢
      generalize vs 2 = u2 at hK d2 ⊢
      generalize vs 4 = u4 at hK d4 ⊢
      generalize vs 5 = u5 at hK d5 ⊢
      generalize vs 6 = u6 at hK d6 ⊢
      replace d2 : u2 = _ := d2
      subst d2
      replace d4 : u4 = _ := d4
      subst d4
      replace d5 : u5 = _ := d5
      subst d5
      replace d6 : u6 = _ := d6
      subst d6
      go_simp
      refine (yFin hT1 hT2 HR.out).mono ?_
      rintro ee wk ⟨K4, s4, M4, E4, rfl, q4, B⟩
      exact hK.out _ _ ⟨K4, s4, M4, E4, rfl, q4⟩ B
    exact Jo.Steps.nil
  have d0 : (Jo.Fact.eq (.pointer (some ⟨w2.heap.size, 0, none⟩))).P (vs 0) w8 := hd 0 (by decide)
  have d1 : (Jo.Fact.eq (.pointer (some ⟨w2.heap.size, 0, none⟩))).P (vs 1) w8 := hd 1 (by decide)
  have d2 : (Jo.Fact.eq (.bool s1)).P (vs 2) w8 := hd 2 (by decide)
  have d3 : (Jo.Fact.eq (.slice A5 n5 c5)).P (vs 3) w8 := hd 3 (by decide)
  have d4 : (Jo.Fact.eq (.int .u64 9223372036854775808)).P (vs 4) w8 := hd 4 (by decide)
  have d5 : (Jo.Fact.eq (.int .i64 (x + 1))).P (vs 5) w8 := hd 5 (by decide)
  have d6 : (Jo.Fact.eq (.bool true)).P (vs 6) w8 := hd 6 (by decide)
  have d7 : (Jo.Fact.num r).P (vs 7) w8 := hd 7 (by decide)
  clear hd
  simp only [Jo.putl, List.foldl_cons, List.foldl_nil, Act.put, List.setIfInBounds_toArray, List.set_cons_zero, List.set_cons_succ]
  generalize vs 0 = u0 at d0 ⊢
  generalize vs 1 = u1 at d1 ⊢
  generalize vs 2 = u2 at d2 ⊢
  generalize vs 3 = u3 at d3 ⊢
  generalize vs 4 = u4 at d4 ⊢
  generalize vs 5 = u5 at d5 ⊢
  generalize vs 6 = u6 at d6 ⊢
  generalize vs 7 = u7 at d7 ⊢
  clear vs
  replace d0 : u0 = _ := d0
  subst d0
  replace d1 : u1 = _ := d1
  subst d1
  replace d2 : u2 = _ := d2
  subst d2
  replace d3 : u3 = _ := d3
  subst d3
  replace d4 : u4 = _ := d4
  subst d4
  replace d5 : u5 = _ := d5
  subst d5
  replace d6 : u6 = _ := d6
  subst d6
  obtain ⟨K4, s4, M4, E4, rfl, q4⟩ := d7
  replace XR := XR.below hJ
  replace X5 := X5.below hJ
  replace p9 := p9.below hJ
  replace HB := Lib.hid (bt HB.out hJ)
  have xXR0 := XR.at (i := 0) (v := .int .i64 0) rfl
  have zXR0 := XR.frozen 0
  have xXR1 := XR.at (i := 1) (v := .bool false) rfl
  have zXR1 := XR.frozen 1
  have xXR2 := XR.at (i := 2) (v := .int .u64 0) rfl
  have zXR2 := XR.frozen 2
  have xXR3 := XR.at (i := 3) (v := .int .i64 0) rfl
  have zXR3 := XR.frozen 3
  refine Jo.jnext (i := 8) (o := ⟨none, _, _, _, _, _⟩) (by kernel_rfl) rfl (fun K hK => ?_)
  go_simp
  refine hK.out _ _ ?_
  clear hK K xXR0 zXR0 xXR1 zXR1 xXR2 zXR2 xXR3 zXR3
  have SX := StN.mk4 XR (.int .i64 K4) (.bool s4) (.int .u64 M4) (.int .i64 E4)
  replace X5 := X5.stn SX (by omega)
  replace HB := Lib.hid (SX.below HB.out (by omega))
  replace XR := SX.box
  clear SX
  generalize (World.setCell (World.setCell (World.setCell (World.setCell w8 ⟨w.heap.size + 1, 0, none⟩ (.int .i64 K4)) ⟨w.heap.size + 1, 1, none⟩ (.bool s4)) ⟨w.heap.size + 1, 2, none⟩ (.int .u64 M4)) ⟨w.heap.size + 1, 3, none⟩ (.int .i64 E4)) = w9 at *
  refine Jo.jdone (by kernel_rfl) ?_
  go_wp2
  have r0 := XR.cell 0
  have r1 := XR.cell 1
  have r2 := XR.cell 2
  have r3 := XR.cell 3
  exact bodyPost_ret (v := .agg #[.int .i64 K4, .bool s4, .int .u64 M4, .int .i64 E4]) (by simp [results, Tryd.results42, go_sem, r0, r1, r2, r3]) rfl ⟨_, _, _, _, rfl, q4, HB.out⟩
theorem yRound {w : World} {A : Option Addr} {n c : Nat} {s up : Bool} {z e N E r : Int} (h : Wr w s A n c z) (hn : n ≤ 100000) (hN : (mk z e).1 = N) (hE : (mk z e).2 = E) (hr : rnd up N E = r) :
    Calls Tryd.prog 42 #[.agg #[.bool s, .slice A n c, .int .i64 e], .bool up] w (PN w r) := by
  obtain ⟨σ, hσ⟩ : ∃ σ, decide (N < 0) = σ := ⟨_, rfl⟩
  have hbl : blen N.natAbs ≤ 3200000 := by
    have hb := h.rd.blen_le
    have : blen N.natAbs ≤ blen z.natAbs := by
      rcases mk_cases z e with h0 | ⟨h0, h1, h2, h3, h4, h5, h6⟩
      · rw [h0] at hN
        rw [← hN]
        exact Nat.zero_le _
      · rw [hN] at h6 h4
        rw [h6, natAbs_mul_pow, blen_mul (by omega)]
        omega
    omega
  by_cases h0 : N.natAbs = 0
  · have hN0 : N = 0 := by omega
    have : r = 0 := by
      rw [← hr, hN0, rnd_ext rfl]
      rfl
    rw [this]
    exact yround_zero h hn hN hE rfl hσ h0
  · by_cases hs : σ = up
    · subst hs
      rw [rnd_same hσ.symm rfl, ← fin_nc σ h0] at hr
      by_cases hl : blen N.natAbs ≤ 64
      · exact yround_ss h hn hN hE rfl hσ h0 rfl (by omega) rfl (by omega) hr
      · exact yround_bs h hn hN hE rfl hσ h0 rfl (by omega) rfl (by omega) hr
    · obtain rfl : (!σ) = up := by cases σ <;> cases up <;> first | rfl | exact absurd rfl hs
      rw [rnd_diff hσ.symm] at hr
      by_cases hl : blen N.natAbs ≤ 64
      · rw [← fin_small σ h0 hl] at hr
        exact yround_sd h hn hN hE rfl hσ h0 rfl (by omega) rfl (by omega) hr
      · have g := tp_lt N.natAbs
        by_cases hc : tp N.natAbs + 1 < 2 ^ 64
        · rw [← fin_up σ (by omega) hc] at hr
          exact yround_bd h hn hN hE rfl hσ h0 rfl (by omega) rfl (by omega) hc hr
        · rw [← fin_carry σ (by omega) (by omega)] at hr
          exact yround_bc h hn hN hE rfl hσ h0 rfl (by omega) rfl (by omega) (by omega) hr
theorem of_rnd {n : Int} (h1 : -9223372036854775808 ≤ n) (h2 : n ≤ 9223372036854775807) : rnd true (mk n 0).1 (mk n 0).2 = sgi (decide (n < 0)) (lo n.natAbs 0) := by
  by_cases h0 : n = 0
  · subst h0
    rw [mk_zero]
    rw [rnd_ext rfl]
  · have hv := v2_pow_le (n := n.natAbs) (by omega)
    have hv2 : v2 n.natAbs < 64 := by
      have : 2 ^ v2 n.natAbs < 2 ^ 64 := by omega
      exact (Nat.pow_lt_pow_iff_right (a := 2) (by decide)).1 this
    obtain ⟨e1, e2, e3, e4, e5⟩ := mk_in (z := n) (e := 0) h0 (by decide) (by omega)
    revert e1 e3 e4 e5
    generalize mk n 0 = p
    obtain ⟨N, E⟩ := p
    intro e1 e3 e4 e5
    simp only at e1 e3 e4 e5 ⊢
    have ea : n.natAbs = N.natAbs * 2 ^ v2 n.natAbs := by
      have := congrArg Int.natAbs e5
      rwa [natAbs_mul_pow] at this
    have hN0 : N.natAbs ≠ 0 := by omega
    have hbl : blen N.natAbs + v2 n.natAbs ≤ 64 := by
      have b1 := blen_mul hN0 (v2 n.natAbs)
      have b2 := blen_mono_le (n := n.natAbs) (k := 64) (by omega)
      rw [← ea] at b1
      omega
    have hx : ext N.natAbs E = true := by
      have e0 : (N.natAbs == 0) = false := by simpa using hN0
      unfold ext xp
      rw [e0, Bool.false_or, decide_eq_true (by omega), decide_eq_true (by omega), decide_eq_true (by omega)]
      rfl
    rw [rnd_ext hx, show decide (N < 0) = decide (n < 0) by simp only [e3]]
    congr 1
    have := lo_mul hN0 (v2 n.natAbs) 0
    rw [← ea] at this
    rw [this, e1]
set_option maxHeartbeats 2000000 in
theorem yOf {n r : Int} (w : World) (h1 : -9223372036854775808 ≤ n) (h2 : n ≤ 9223372036854775807) (hr : sgi (decide (n < 0)) (lo n.natAbs 0) = r) : Calls Tryd.prog 47 #[.int .i64 n] w (PN w r) := by
  have HR := Lib.hid ((of_rnd h1 h2).trans hr)
  clear hr
  obtain ⟨N, hN⟩ : ∃ N, (mk n 0).1 = N := ⟨_, rfl⟩
  obtain ⟨E, hE⟩ : ∃ E, (mk n 0).2 = E := ⟨_, rfl⟩
  have HR := Lib.hid (show rnd true (mk N E).1 (mk N E).2 = r by
    have := HR.out
    rw [← hN, ← hE, show mk (mk n 0).1 (mk n 0).2 = mk n 0 from mk_nf n 0]
    exact this)
  have HN := Lib.hid hN
  have HE := Lib.hid hE
  clear hN hE
  go_enter Tryd.func47, Tryd.ntmps47
  go_upto_region 1 with (fail)
  have XR := (Bo.newAt w (g := w.heap.size) (by simp) #[.int .i64 0, .bool false, .int .u64 0, .int .i64 0] 24)
  have HB := Lib.hid (bel1 w (.cells #[.int .i64 0, .bool false, .int .u64 0, .int .i64 0] 24))
  generalize hW1 : (w.alloc (.cells #[.int .i64 0, .bool false, .int .u64 0, .int .i64 0] 24)) = w1 at *
  clear hW1
  go_wp2_with fail
  refine (qFrom n _ h1 h2).mono ?_
  rintro ee w2 ⟨s1, A1, n1, c1, rfl, p1, k1, B⟩
  replace XR := XR.below B
  replace HB := Lib.hid (bt HB.out B)
  clear B
  go_wp2_with fail
  refine (q3Make p1.wr (by omega) HN.out HE.out).mono ?_
  rintro ee w3 ⟨s2, A2, n2, c2, rfl, p2, k2, B⟩
  replace XR := XR.below B
  replace p1 := p1.below B
  replace HB := Lib.hid (bt HB.out B)
  clear B
  go_wp2_with fail
  refine (yRound p2.wr (by omega) rfl rfl HR.out).mono ?_
  rintro ee w4 ⟨K3, s3, M3, E3, rfl, q3, B⟩
  replace XR := XR.below B
  replace p2 := p2.below B
  replace HB := Lib.hid (bt HB.out B)
  clear B
  have xXR0 := XR.at (i := 0) (v := .int .i64 0) rfl
  have zXR0 := XR.frozen 0
  have xXR1 := XR.at (i := 1) (v := .bool false) rfl
  have zXR1 := XR.frozen 1
  have xXR2 := XR.at (i := 2) (v := .int .u64 0) rfl
  have zXR2 := XR.frozen 2
  have xXR3 := XR.at (i := 3) (v := .int .i64 0) rfl
  have zXR3 := XR.frozen 3
  go_wp2
  clear xXR0 zXR0 xXR1 zXR1 xXR2 zXR2 xXR3 zXR3
  have SX := StN.mk4 XR (.int .i64 K3) (.bool s3) (.int .u64 M3) (.int .i64 E3)
  replace HB := Lib.hid (SX.below HB.out (by omega))
  replace XR := SX.box
  clear SX
  generalize (World.setCell (World.setCell (World.setCell (World.setCell w4 ⟨w.heap.size, 0, none⟩ (.int .i64 K3)) ⟨w.heap.size, 1, none⟩ (.bool s3)) ⟨w.heap.size, 2, none⟩ (.int .u64 M3)) ⟨w.heap.size, 3, none⟩ (.int .i64 E3)) = w5 at *
  have r0 := XR.cell 0
  have r1 := XR.cell 1
  have r2 := XR.cell 2
  have r3 := XR.cell 3
  exact bodyPost_ret (v := .agg #[.int .i64 K3, .bool s3, .int .u64 M3, .int .i64 E3]) (by simp [results, Tryd.results47, go_sem, r0, r1, r2, r3]) rfl ⟨_, _, _, _, rfl, q3, HB.out⟩
end Go.Proofs.YtbhnpmkdmnnclaaDoor
