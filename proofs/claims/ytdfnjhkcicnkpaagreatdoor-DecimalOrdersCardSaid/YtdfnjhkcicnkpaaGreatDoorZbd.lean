/-
  Contracts and words that the statements' proofs rest on, several texts in one: Tp, Ud, Ub.
-/
import Derived.Test.YtdfnjhkcicnkpaaGreatDoorZam
import Derived.Test.YtdfnjhkcicnkpaaGreatDoorZax
import Derived.Test.YtdfnjhkcicnkpaaGreatDoorZay
import Derived.Test.YtdfnjhkcicnkpaaGreatDoorZaz
import Derived.Test.YtdfnjhkcicnkpaaGreatDoorZbb
/-
  What decimal.Parse answers.
-/
namespace Go.Proofs.YtdfnjhkcicnkpaaGreatDoor
open Go.RowKit
set_option linter.unusedVariables false
set_option linter.unusedSimpArgs false
set_option maxRecDepth 100000

def Jo.Fact.dec (r : (Int × Int) × Int) : Jo.Fact := ⟨fun v w => ∃ s A n c, v = .tuple #[.agg #[.bool s, .slice A n c, .int .i64 r.1.2], .int .i64 r.2] ∧ Wn w s A n c r.1.1 ∧ n ≤ 5, fun v w w' h b => by
  obtain ⟨s, A, n, c, e, h, k⟩ := h
  exact ⟨s, A, n, c, e, h.below b, k⟩⟩
theorem vMakeW {w : World} {A : Option Addr} {n c : Nat} {s : Bool} {z t : Int} {r : (Int × Int) × Int} (h : Wr w s A n c z) (hn : n ≤ 100000) (h1 : -9223372036854775808 ≤ t) (h2 : t ≤ 9223372036854775807) (hr : mkA z t = r) :
    Calls Tryz.prog 12 #[.agg #[.bool s, .slice A n c], .int .i64 t] w (PD w r) := by
  obtain ⟨a, h, e⟩ := h
  exact vMakeD h hn h1 h2 e hr
theorem dReadE {l : List UInt8} {v : Value} (w : World) (hl : l.length ≤ 1000) (hv : readV (tread l) = v) : Calls Tryz.prog 25 #[.string (st l)] w fun e w' => e = .returned v ∧ Below w.heap.size w w' := by
  subst hv
  exact dRead l w hl
theorem tparse_some {l : List UInt8} {s : Bool} {ds : List UInt8} {t : Int} (h : tread l = some (s, ds, t)) (hl : l.length ≤ 100) : tparse l = mkA (sg s (dval ds)) t := by
  unfold tparse mkA
  rw [if_neg (by omega), h, ← zs_sg]
  rfl

set_option maxHeartbeats 2000000 in
theorem vParse_long (l : List UInt8) (w : World) (hl : 100 < l.length) : Calls Tryz.prog 9 #[.string (st l)] w (PD w ((0, 0), 3)) := by
  have hsz : (st l).size = l.length := st_size l
  obtain ⟨d, hd⟩ : ∃ d, l.length = d := ⟨_, rfl⟩
  rw [hd] at hsz hl
  have t1 : decide ((100 : Int) < (d : Int)) = true := by simp; omega
  clear hd
  go_enter Tryz.func9, Tryz.ntmps9
  go_upto_region 1 with (fail)
  have XR := (Bo.newAt w (g := w.heap.size) (by simp) #[.bool false, .slice none 0 0, .int .i64 0] 27)
  have HB := Lib.hid (bel1 w (.cells #[.bool false, .slice none 0 0, .int .i64 0] 27))
  generalize hW1 : (w.alloc (.cells #[.bool false, .slice none 0 0, .int .i64 0] 27)) = w1 at *
  clear hW1
  have xXR0 := XR.at (i := 0) (v := .bool false) rfl
  have zXR0 := XR.frozen 0
  have xXR1 := XR.at (i := 1) (v := .slice none 0 0) rfl
  have zXR1 := XR.frozen 1
  have xXR2 := XR.at (i := 2) (v := .int .i64 0) rfl
  have zXR2 := XR.frozen 2
  go_wp2
  clear xXR0 zXR0 xXR1 zXR1 xXR2 zXR2
  have SX := StN.mk3 XR (.bool false) (.slice none 0 0) (.int .i64 0)
  replace HB := Lib.hid (SX.below HB.out (by omega))
  replace XR := SX.box
  clear SX
  generalize (World.setCell (World.setCell (World.setCell w1 ⟨w.heap.size, 0, none⟩ (.bool false)) ⟨w.heap.size, 1, none⟩ (.slice none 0 0)) ⟨w.heap.size, 2, none⟩ (.int .i64 0)) = w2 at *
  go_wp2
  have r0 := XR.cell 0
  have r1 := XR.cell 1
  have r2 := XR.cell 2
  exact bodyPost_ret (v := .tuple #[.agg #[.bool false, .slice none 0 0, .int .i64 0], .int .i64 3]) (by simp [results, Tryz.results9, go_sem, r0, r1, r2]) rfl ⟨false, none, 0, 0, rfl, Wn.zero, by omega, HB.out⟩

set_option maxHeartbeats 2000000 in
theorem vParse_none (l : List UInt8) (w : World) (hl : l.length ≤ 100) (hr : tread l = none) : Calls Tryz.prog 9 #[.string (st l)] w (PD w ((0, 0), 2)) := by
  have HC := Lib.hid (fun w => dReadE (l := l) (v := .tuple #[.agg #[.bool false, .string ⟨#[]⟩, .int .i64 0], .bool false]) w (by omega) (by rw [hr]; rfl))
  have hsz : (st l).size = l.length := st_size l
  obtain ⟨d, hd⟩ : ∃ d, l.length = d := ⟨_, rfl⟩
  rw [hd] at hsz hl
  have t1 : decide ((100 : Int) < (d : Int)) = false := by simp; omega
  clear hd hr
  go_enter Tryz.func9, Tryz.ntmps9
  go_upto_region 1 with (fail)
  have XR := (Bo.newAt w (g := w.heap.size) (by simp) #[.bool false, .slice none 0 0, .int .i64 0] 27)
  have HB := Lib.hid (bel1 w (.cells #[.bool false, .slice none 0 0, .int .i64 0] 27))
  generalize hW1 : (w.alloc (.cells #[.bool false, .slice none 0 0, .int .i64 0] 27)) = w1 at *
  clear hW1
  go_wp2_with fail
  refine (HC.out _).mono ?_
  rintro ee w2 ⟨rfl, B⟩
  replace XR := XR.below B
  replace HB := Lib.hid (bt HB.out B)
  clear B
  go_upto_region 4 with (fail)
  have g4 := XR.lt
  replace XR := XR.below (bel1 _ (.cells #[.bool false, .string ⟨#[]⟩, .int .i64 0] 45))
  replace HB := Lib.hid (bt HB.out (bel1 _ (.cells #[.bool false, .string ⟨#[]⟩, .int .i64 0] 45)))
  have X4 := Bo.new w2 #[.bool false, .string ⟨#[]⟩, .int .i64 0] 45
  generalize hWn : w2.alloc (.cells #[.bool false, .string ⟨#[]⟩, .int .i64 0] 45) = w3 at *
  clear hWn
  have xXR0 := XR.at (i := 0) (v := .bool false) rfl
  have zXR0 := XR.frozen 0
  have xXR1 := XR.at (i := 1) (v := .slice none 0 0) rfl
  have zXR1 := XR.frozen 1
  have xXR2 := XR.at (i := 2) (v := .int .i64 0) rfl
  have zXR2 := XR.frozen 2
  go_wp2
  clear xXR0 zXR0 xXR1 zXR1 xXR2 zXR2
  have SX := StN.mk3 XR (.bool false) (.slice none 0 0) (.int .i64 0)
  replace X4 := X4.stn SX (by omega)
  replace HB := Lib.hid (SX.below HB.out (by omega))
  replace XR := SX.box
  clear SX
  generalize (World.setCell (World.setCell (World.setCell w3 ⟨w.heap.size, 0, none⟩ (.bool false)) ⟨w.heap.size, 1, none⟩ (.slice none 0 0)) ⟨w.heap.size, 2, none⟩ (.int .i64 0)) = w4 at *
  go_wp2
  have r0 := XR.cell 0
  have r1 := XR.cell 1
  have r2 := XR.cell 2
  exact bodyPost_ret (v := .tuple #[.agg #[.bool false, .slice none 0 0, .int .i64 0], .int .i64 2]) (by simp [results, Tryz.results9, go_sem, r0, r1, r2]) rfl ⟨false, none, 0, 0, rfl, Wn.zero, by omega, HB.out⟩

set_option maxHeartbeats 4000000 in
theorem vParse_some {l ds : List UInt8} {s : Bool} {t : Int} {r : (Int × Int) × Int} (w : World) (hl : l.length ≤ 100) (hr : tread l = some (s, ds, t)) (hm : mkA (sg s (dval ds)) t = r) : Calls Tryz.prog 9 #[.string (st l)] w (PD w r) := by
  obtain ⟨hdg, hd40, ht1, ht2⟩ := tread_dig hr
  have HC := Lib.hid (fun w => dReadE (l := l) (v := .tuple #[.agg #[.bool s, .string (st ds), .int .i64 t], .bool true]) w (by omega) (by rw [hr]; rfl))
  have HL := Lib.hid (fun w => dLimbs ds w (by omega) hdg)
  have hsz : (st l).size = l.length := st_size l
  obtain ⟨d, hd⟩ : ∃ d, l.length = d := ⟨_, rfl⟩
  rw [hd] at hsz hl
  have t1 : decide ((100 : Int) < (d : Int)) = false := by simp; omega
  obtain ⟨V, hV⟩ : ∃ V, dval ds = V := ⟨_, rfl⟩
  rw [hV] at hm
  have HL := Lib.hid (show ∀ w, Calls Tryz.prog 27 #[.string (st ds)] w (P1N w 100 V) from hV ▸ HL.out)
  have HM := Lib.hid hm
  clear hd hr hdg hd40 hV hm
  go_enter Tryz.func9, Tryz.ntmps9
  go_upto_region 1 with (fail)
  have XR := (Bo.newAt w (g := w.heap.size) (by simp) #[.bool false, .slice none 0 0, .int .i64 0] 27)
  have HB := Lib.hid (bel1 w (.cells #[.bool false, .slice none 0 0, .int .i64 0] 27))
  generalize hW1 : (w.alloc (.cells #[.bool false, .slice none 0 0, .int .i64 0] 27)) = w1 at *
  clear hW1
  go_wp2_with fail
  refine (HC.out _).mono ?_
  rintro ee w2 ⟨rfl, B⟩
  replace XR := XR.below B
  replace HB := Lib.hid (bt HB.out B)
  clear B
  go_upto_region 4 with (fail)
  have g4 := XR.lt
  replace XR := XR.below (bel1 _ (.cells #[.bool s, .string (st ds), .int .i64 t] 45))
  replace HB := Lib.hid (bt HB.out (bel1 _ (.cells #[.bool s, .string (st ds), .int .i64 t] 45)))
  have X4 := Bo.new w2 #[.bool s, .string (st ds), .int .i64 t] 45
  generalize hWn : w2.alloc (.cells #[.bool s, .string (st ds), .int .i64 t] 45) = w3 at *
  clear hWn
  have xX40 := X4.at (i := 0) (v := .bool s) rfl
  have xX41 := X4.at (i := 1) (v := .string (st ds)) rfl
  have xX42 := X4.at (i := 2) (v := .int .i64 t) rfl
  go_upto_region 6 with (fail)
  refine Jo.region_joint (T := [0, 1, 2, 3, 4, 5, 6, 7, 8, 9, 10]) (ds := [some 18, some 19, some 20, some 21, some 22, some 23, some 24, some 25, some 26, some 27, some 28, none, some 3]) (ls := [[], [0], [], [2], [3], [1, 4], [], [6], [5, 7], [8], [8], [], []]) (k := 13) (L := [(some 18, 0), (some 19, 1), (some 20, 2), (some 21, 3), (some 22, 4), (some 23, 5), (some 24, 6), (some 25, 7), (some 26, 8), (some 27, 9), (some 28, 10)]) (fuel := 2) (J := fun wj => Below (World.heap w3).size w3 wj)
    (F := [Jo.Fact.eq (.pointer (some ⟨w2.heap.size, 0, none⟩)), Jo.Fact.eq (.bool s), Jo.Fact.eq (.pointer (some ⟨w2.heap.size, 1, none⟩)), Jo.Fact.eq (.string (st ds)), Jo.Fact.nm V 100, Jo.Fact.wn (sg s V) 100, Jo.Fact.eq (.pointer (some ⟨w2.heap.size, 2, none⟩)), Jo.Fact.eq (.int .i64 t), Jo.Fact.dec r, Jo.Fact.dy r.1.1 r.1.2 5, Jo.Fact.eq (.int .i64 r.2), Jo.Fact.any, Jo.Fact.any])
    (by kernel_rfl) (by kernel_rfl) (by decide) rfl rfl (fun _ _ h b => bt h b) ((Below.refl _ _).drew) ?_ (fun vs w4 hJ hd => ?_)
  clear xX40 xX41 xX42
  · refine Jo.jcons (i := 0) (o := ⟨some 18, _, _, _, _, _⟩) (di := some 18) (L := []) (f := Jo.Fact.eq (.pointer (some ⟨w2.heap.size, 0, none⟩))) rfl rfl rfl rfl (fun vs wj hJ hd K hK => ?_) ?_
    · clear hd
      simp only [Jo.putl, List.foldl_nil, Act.put, List.setIfInBounds_toArray, List.set_cons_zero, List.set_cons_succ] at hK ⊢
      go_simp
      exact hK.out _ _ rfl (Below.refl _ _)
    refine Jo.jcons (i := 1) (o := ⟨some 19, _, _, _, _, _⟩) (di := some 19) (L := [(some 18, 0)]) (f := Jo.Fact.eq (.bool s)) rfl rfl rfl rfl (fun vs wj hJ hd K hK => ?_) ?_
    · have d0 : (Jo.Fact.eq (.pointer (some ⟨w2.heap.size, 0, none⟩))).P (vs 0) wj := hd 0 (by decide)
      clear hd
      simp only [Jo.putl, List.foldl_cons, List.foldl_nil, Act.put, List.setIfInBounds_toArray, List.set_cons_zero, List.set_cons_succ] at hK ⊢
      generalize vs 0 = u0 at hK d0 ⊢
      replace d0 : u0 = _ := d0
      subst d0
      have xX40 : World.cell? wj ⟨w2.heap.size, 0, none⟩ = some (.bool s) := (X4.below hJ).cell 0
      have xX41 : World.cell? wj ⟨w2.heap.size, 1, none⟩ = some (.string (st ds)) := (X4.below hJ).cell 1
      have xX42 : World.cell? wj ⟨w2.heap.size, 2, none⟩ = some (.int .i64 t) := (X4.below hJ).cell 2
      go_simp
      exact hK.out _ _ rfl (Below.refl _ _)
    refine Jo.jcons (i := 2) (o := ⟨some 20, _, _, _, _, _⟩) (di := some 20) (L := []) (f := Jo.Fact.eq (.pointer (some ⟨w2.heap.size, 1, none⟩))) rfl rfl rfl rfl (fun vs wj hJ hd K hK => ?_) ?_
    · clear hd
      simp only [Jo.putl, List.foldl_nil, Act.put, List.setIfInBounds_toArray, List.set_cons_zero, List.set_cons_succ] at hK ⊢
      go_simp
      exact hK.out _ _ rfl (Below.refl _ _)
    refine Jo.jcons (i := 3) (o := ⟨some 21, _, _, _, _, _⟩) (di := some 21) (L := [(some 20, 2)]) (f := Jo.Fact.eq (.string (st ds))) rfl rfl rfl rfl (fun vs wj hJ hd K hK => ?_) ?_
    · have d2 : (Jo.Fact.eq (.pointer (some ⟨w2.heap.size, 1, none⟩))).P (vs 2) wj := hd 2 (by decide)
      clear hd
      simp only [Jo.putl, List.foldl_cons, List.foldl_nil, Act.put, List.setIfInBounds_toArray, List.set_cons_zero, List.set_cons_succ] at hK ⊢
      generalize vs 2 = u2 at hK d2 ⊢
      replace d2 : u2 = _ := d2
      subst d2
      have xX40 : World.cell? wj ⟨w2.heap.size, 0, none⟩ = some (.bool s) := (X4.below hJ).cell 0
      have xX41 : World.cell? wj ⟨w2.heap.size, 1, none⟩ = some (.string (st ds)) := (X4.below hJ).cell 1
      have xX42 : World.cell? wj ⟨w2.heap.size, 2, none⟩ = some (.int .i64 t) := (X4.below hJ).cell 2
      go_simp
      exact hK.out _ _ rfl (Below.refl _ _)
    refine Jo.jcons (i := 4) (o := ⟨some 22, _, _, _, _, _⟩) (di := some 22) (L := [(some 21, 3)]) (f := Jo.Fact.nm V 100) rfl rfl rfl rfl (fun vs wj hJ hd K hK => ?_) ?_
    · have d3 : (Jo.Fact.eq (.string (st ds))).P (vs 3) wj := hd 3 (by decide)
      clear hd
      simp only [Jo.putl, List.foldl_cons, List.foldl_nil, Act.put, List.setIfInBounds_toArray, List.set_cons_zero, List.set_cons_succ] at hK ⊢
      generalize vs 3 = u3 at hK d3 ⊢
      replace d3 : u3 = _ := d3
      subst d3
      go_simp
      refine (HL.out _).mono ?_
      rintro ee wk ⟨A3, n3, c3, rfl, h3, k3, B⟩
      exact hK.out _ _ ⟨_, _, _, rfl, h3.nm, k3⟩ B
    refine Jo.jcons (i := 5) (o := ⟨some 23, _, _, _, _, _⟩) (di := some 23) (L := [(some 19, 1), (some 22, 4)]) (f := Jo.Fact.wn (sg s V) 100) rfl rfl rfl rfl (fun vs wj hJ hd K hK => ?_) ?_
    · have d1 : (Jo.Fact.eq (.bool s)).P (vs 1) wj := hd 1 (by decide)
      have d4 : (Jo.Fact.nm V 100).P (vs 4) wj := hd 4 (by decide)
      clear hd
      simp only [Jo.putl, List.foldl_cons, List.foldl_nil, Act.put, List.setIfInBounds_toArray, List.set_cons_zero, List.set_cons_succ] at hK ⊢
      generalize vs 1 = u1 at hK d1 ⊢
      generalize vs 4 = u4 at hK d4 ⊢
      replace d1 : u1 = _ := d1
      subst d1
      obtain ⟨A4, n4, c4, rfl, h4, k4⟩ := d4
      go_simp
      refine (wMake s h4.rd).mono ?_
      rintro ee wk ⟨s5, A5, n5, c5, rfl, h5, k5, B⟩
      exact hK.out _ _ ⟨_, _, _, _, rfl, h5, by omega⟩ B
    refine Jo.jcons (i := 6) (o := ⟨some 24, _, _, _, _, _⟩) (di := some 24) (L := []) (f := Jo.Fact.eq (.pointer (some ⟨w2.heap.size, 2, none⟩))) rfl rfl rfl rfl (fun vs wj hJ hd K hK => ?_) ?_
    · clear hd
      simp only [Jo.putl, List.foldl_nil, Act.put, List.setIfInBounds_toArray, List.set_cons_zero, List.set_cons_succ] at hK ⊢
      go_simp
      exact hK.out _ _ rfl (Below.refl _ _)
    refine Jo.jcons (i := 7) (o := ⟨some 25, _, _, _, _, _⟩) (di := some 25) (L := [(some 24, 6)]) (f := Jo.Fact.eq (.int .i64 t)) rfl rfl rfl rfl (fun vs wj hJ hd K hK => ?_) ?_
    · have d6 : (Jo.Fact.eq (.pointer (some ⟨w2.heap.size, 2, none⟩))).P (vs 6) wj := hd 6 (by decide)
      clear hd
      simp only [Jo.putl, List.foldl_cons, List.foldl_nil, Act.put, List.setIfInBounds_toArray, List.set_cons_zero, List.set_cons_succ] at hK ⊢
      generalize vs 6 = u6 at hK d6 ⊢
      replace d6 : u6 = _ := d6
      subst d6
      have xX40 : World.cell? wj ⟨w2.heap.size, 0, none⟩ = some (.bool s) := (X4.below hJ).cell 0
      have xX41 : World.cell? wj ⟨w2.heap.size, 1, none⟩ = some (.string (st ds)) := (X4.below hJ).cell 1
      have xX42 : World.cell? wj ⟨w2.heap.size, 2, none⟩ = some (.int .i64 t) := (X4.below hJ).cell 2
      go_simp
      exact hK.out _ _ rfl (Below.refl _ _)
    refine Jo.jcons (i := 8) (o := ⟨some 26, _, _, _, _, _⟩) (di := some 26) (L := [(some 23, 5), (some 25, 7)]) (f := Jo.Fact.dec r) rfl rfl rfl rfl (fun vs wj hJ hd K hK => ?_) ?_
    · have d5 : (Jo.Fact.wn (sg s V) 100).P (vs 5) wj := hd 5 (by decide)
      have d7 : (Jo.Fact.eq (.int .i64 t)).P (vs 7) wj := hd 7 (by decide)
      clear hd
      simp only [Jo.putl, List.foldl_cons, List.foldl_nil, Act.put, List.setIfInBounds_toArray, List.set_cons_zero, List.set_cons_succ] at hK ⊢
      generalize vs 5 = u5 at hK d5 ⊢
      generalize vs 7 = u7 at hK d7 ⊢
      obtain ⟨s5, A5, n5, c5, rfl, h5, k5⟩ := d5
      replace d7 : u7 = _ := d7
      subst d7
      go_simp
      refine (vMakeW h5.wr (by omega) (by omega) (by omega) HM.out).mono ?_
      rintro ee wk ⟨s8, A8, n8, c8, rfl, h8, k8, B⟩
      exact hK.out _ _ ⟨_, _, _, _, rfl, h8, k8⟩ B
    refine Jo.jcons (i := 9) (o := ⟨some 27, _, _, _, _, _⟩) (di := some 27) (L := [(some 26, 8)]) (f := Jo.Fact.dy r.1.1 r.1.2 5) rfl rfl rfl rfl (fun vs wj hJ hd K hK => ?_) ?_
    · have d8 : (Jo.Fact.dec r).P (vs 8) wj := hd 8 (by decide)
      clear hd
      simp only [Jo.putl, List.foldl_cons, List.foldl_nil, Act.put, List.setIfInBounds_toArray, List.set_cons_zero, List.set_cons_succ] at hK ⊢
      generalize vs 8 = u8 at hK d8 ⊢
      obtain ⟨s8, A8, n8, c8, rfl, h8, k8⟩ := d8
      go_simp
      exact hK.out _ _ ⟨_, _, _, _, rfl, h8, k8⟩ (Below.refl _ _)
    refine Jo.jcons (i := 10) (o := ⟨some 28, _, _, _, _, _⟩) (di := some 28) (L := [(some 26, 8)]) (f := Jo.Fact.eq (.int .i64 r.2)) rfl rfl rfl rfl (fun vs wj hJ hd K hK => ?_) ?_
    · have d8 : (Jo.Fact.dec r).P (vs 8) wj := hd 8 (by decide)
      clear hd
      simp only [Jo.putl, List.foldl_cons, List.foldl_nil, Act.put, List.setIfInBounds_toArray, List.set_cons_zero, List.set_cons_succ] at hK ⊢
      generalize vs 8 = u8 at hK d8 ⊢
      obtain ⟨s8, A8, n8, c8, rfl, h8, k8⟩ := d8
      go_simp
      exact hK.out _ _ rfl (Below.refl _ _)
    exact Jo.Steps.nil
  have d0 : (Jo.Fact.eq (.pointer (some ⟨w2.heap.size, 0, none⟩))).P (vs 0) w4 := hd 0 (by decide)
  have d1 : (Jo.Fact.eq (.bool s)).P (vs 1) w4 := hd 1 (by decide)
  have d2 : (Jo.Fact.eq (.pointer (some ⟨w2.heap.size, 1, none⟩))).P (vs 2) w4 := hd 2 (by decide)
  have d3 : (Jo.Fact.eq (.string (st ds))).P (vs 3) w4 := hd 3 (by decide)
  have d4 : (Jo.Fact.nm V 100).P (vs 4) w4 := hd 4 (by decide)
  have d5 : (Jo.Fact.wn (sg s V) 100).P (vs 5) w4 := hd 5 (by decide)
  have d6 : (Jo.Fact.eq (.pointer (some ⟨w2.heap.size, 2, none⟩))).P (vs 6) w4 := hd 6 (by decide)
  have d7 : (Jo.Fact.eq (.int .i64 t)).P (vs 7) w4 := hd 7 (by decide)
  have d8 : (Jo.Fact.dec r).P (vs 8) w4 := hd 8 (by decide)
  have d9 : (Jo.Fact.dy r.1.1 r.1.2 5).P (vs 9) w4 := hd 9 (by decide)
  have d10 : (Jo.Fact.eq (.int .i64 r.2)).P (vs 10) w4 := hd 10 (by decide)
  clear hd
  simp only [Jo.putl, List.foldl_cons, List.foldl_nil, Act.put, List.setIfInBounds_toArray, List.set_cons_zero, List.set_cons_succ]
  generalize vs 0 = u0 at d0 ⊢
  generalize vs 1 = u1 at d1 ⊢
  generalize vs 2 = u2 at d2 ⊢
  generalize vs 3 = u3 at d3 ⊢
  generalize vs 4 = u4 at d4 ⊢
  generalize vs 5 = u5 at d5 ⊢
  generalize vs 6 = u6 at d6 ⊢
  generalize vs 7 = u7 at d7 ⊢
  generalize vs 8 = u8 at d8 ⊢
  generalize vs 9 = u9 at d9 ⊢
  generalize vs 10 = u10 at d10 ⊢
  clear vs
  replace d0 : u0 = _ := d0
  subst d0
  replace d1 : u1 = _ := d1
  subst d1
  replace d2 : u2 = _ := d2
  subst d2
  replace d3 : u3 = _ := d3
  subst d3
  obtain ⟨A4, n4, c4, rfl, h4, k4⟩ := d4
  obtain ⟨s5, A5, n5, c5, rfl, h5, k5⟩ := d5
  replace d6 : u6 = _ := d6
  subst d6
  replace d7 : u7 = _ := d7
  subst d7
  obtain ⟨s8, A8, n8, c8, rfl, h8, k8⟩ := d8
  obtain ⟨s9, A9, n9, c9, rfl, h9, k9⟩ := d9
  replace d10 : u10 = _ := d10
  subst d10
  replace XR := XR.below hJ
  replace X4 := X4.below hJ
  replace HB := Lib.hid (bt HB.out hJ)
  have xXR0 := XR.at (i := 0) (v := .bool false) rfl
  have zXR0 := XR.frozen 0
  have xXR1 := XR.at (i := 1) (v := .slice none 0 0) rfl
  have zXR1 := XR.frozen 1
  have xXR2 := XR.at (i := 2) (v := .int .i64 0) rfl
  have zXR2 := XR.frozen 2
  refine Jo.jnext (i := 11) (o := ⟨none, _, _, _, _, _⟩) (by kernel_rfl) rfl (fun K hK => ?_)
  go_simp
  refine hK.out _ _ ?_
  clear hK K xXR0 zXR0 xXR1 zXR1 xXR2 zXR2
  have SX := StN.mk3 XR (.bool s9) (.slice A9 n9 c9) (.int .i64 r.1.2)
  replace X4 := X4.stn SX (by omega)
  replace h9 := h9.stn SX (by simp [no32])
  replace HB := Lib.hid (SX.below HB.out (by omega))
  replace XR := SX.box
  clear SX
  generalize (World.setCell (World.setCell (World.setCell w4 ⟨w.heap.size, 0, none⟩ (.bool s9)) ⟨w.heap.size, 1, none⟩ (.slice A9 n9 c9)) ⟨w.heap.size, 2, none⟩ (.int .i64 r.1.2)) = w5 at *
  refine Jo.jnext (i := 12) (o := ⟨some 3, _, _, _, _, _⟩) (by kernel_rfl) rfl (fun K hK => ?_)
  go_simp
  refine hK.out _ _ ?_
  clear hK K
  refine Jo.jdone (by kernel_rfl) ?_
  go_wp2
  have r0 := XR.cell 0
  have r1 := XR.cell 1
  have r2 := XR.cell 2
  exact bodyPost_ret (v := .tuple #[.agg #[.bool s9, .slice A9 n9 c9, .int .i64 r.1.2], .int .i64 r.2]) (by simp [results, Tryz.results9, go_sem, r0, r1, r2]) rfl ⟨s9, A9, n9, c9, rfl, h9, k9, HB.out⟩

theorem vParse {l : List UInt8} {r : (Int × Int) × Int} (w : World) (hr : tparse l = r) : Calls Tryz.prog 9 #[.string (st l)] w (PD w r) := by
  subst hr
  by_cases h100 : 100 < l.length
  · have e : tparse l = ((0, 0), 3) := by unfold tparse; rw [if_pos h100]
    rw [e]
    exact vParse_long l w h100
  · cases hr : tread l with
    | none =>
      have e : tparse l = ((0, 0), 2) := by unfold tparse; rw [if_neg h100, hr]
      rw [e]
      exact vParse_none l w (by omega) hr
    | some q =>
      obtain ⟨s, ds, t⟩ := q
      rw [tparse_some hr (by omega)]
      exact vParse_some w (by omega) hr rfl
end Go.Proofs.YtdfnjhkcicnkpaaGreatDoor

/-
  What pelorusref04.fits and Make answer.
-/
namespace Go.Proofs.YtdfnjhkcicnkpaaGreatDoor
open Go.RowKit
set_option linter.unusedVariables false
set_option linter.unusedSimpArgs false
set_option maxRecDepth 100000

def Jo.Fact.qr (q r K : Nat) : Jo.Fact := ⟨fun v w => ∃ A n c B m d, v = .tuple #[.slice A n c, .slice B m d, .bool true] ∧ Nm w A n c q ∧ Nm w B m d r ∧ n ≤ K, fun v w w' h b => by
  obtain ⟨A, n, c, B, m, d, e, h, k, l⟩ := h
  exact ⟨A, n, c, B, m, d, e, h.below b, k.below b, l⟩⟩
/-- Does it fit? -/
def fitC (n a : Nat) (t : Int) : Bool := decide (n ≤ 5) && (decide (Lib.nDigits a ≤ 40) && (decide (-400 ≤ t) && decide (t ≤ 400)))

set_option maxHeartbeats 2000000 in
theorem uFits_n {w : World} {A : Option Addr} {n c a d : Nat} {s : Bool} {t : Int} (h : Rd w A n c a) (hN : Lib.nDigits a = d) (hn : 5 < n) : Calls Tryz.prog 39 #[.agg #[.bool s, .slice A n c], .int .i64 t] w (PB w false) := by
  have t1 : decide ((n : Int) ≤ 5) = false := by simp; omega
  go_enter Tryz.func39, Tryz.ntmps39
  go_upto_region 1 with (fail)
  have X1 := (Bo.newAt w (g := w.heap.size) (by simp) #[.bool s, .slice A n c] 25)
  have HB := Lib.hid (bel1 w (.cells #[.bool s, .slice A n c] 25))
  replace h := h.below HB.out
  generalize hW1 : (w.alloc (.cells #[.bool s, .slice A n c] 25)) = w1 at *
  clear hW1
  have xX10 := X1.at (i := 0) (v := .bool s) rfl
  have xX11 := X1.at (i := 1) (v := .slice A n c) rfl
  go_wp2
  go_ret
  exact ⟨rfl, HB.out⟩

set_option maxHeartbeats 2000000 in
theorem uFits_d {w : World} {A : Option Addr} {n c a d : Nat} {s : Bool} {t : Int} (h : Rd w A n c a) (hN : Lib.nDigits a = d) (hn : n ≤ 5) (hd : 40 < d) : Calls Tryz.prog 39 #[.agg #[.bool s, .slice A n c], .int .i64 t] w (PB w false) := by
  have t1 : decide ((n : Int) ≤ 5) = true := by simp; omega
  have hds : (st (Lib.decDigits a)).size = d := by rw [st_size, Lib.decDigits_length, hN]
  have t2 : decide ((d : Int) ≤ 40) = false := by simp; omega
  have HC := Lib.hid (fun w (h : Rd w A n c a) => uDigits h (by omega))
  obtain ⟨D, hD⟩ : ∃ D, Lib.decDigits a = D := ⟨_, rfl⟩
  rw [hD] at hds HC
  clear hD hN
  go_enter Tryz.func39, Tryz.ntmps39
  go_upto_region 1 with (fail)
  have X1 := (Bo.newAt w (g := w.heap.size) (by simp) #[.bool s, .slice A n c] 25)
  have HB := Lib.hid (bel1 w (.cells #[.bool s, .slice A n c] 25))
  replace h := h.below HB.out
  generalize hW1 : (w.alloc (.cells #[.bool s, .slice A n c] 25)) = w1 at *
  clear hW1
  have xX10 := X1.at (i := 0) (v := .bool s) rfl
  have xX11 := X1.at (i := 1) (v := .slice A n c) rfl
  go_wp2_with fail
  refine (HC.out _ h).mono ?_
  rintro ee w2 ⟨rfl, B⟩
  clear xX10 xX11
  replace X1 := X1.below B
  replace h := h.below B
  replace HB := Lib.hid (bt HB.out B)
  clear B
  have xX10 := X1.at (i := 0) (v := .bool s) rfl
  have xX11 := X1.at (i := 1) (v := .slice A n c) rfl
  go_wp2
  go_ret
  exact ⟨rfl, HB.out⟩

set_option maxHeartbeats 2000000 in
theorem uFits_l {w : World} {A : Option Addr} {n c a d : Nat} {s : Bool} {t : Int} (h : Rd w A n c a) (hN : Lib.nDigits a = d) (hn : n ≤ 5) (hd : d ≤ 40) (ht : t < -400) : Calls Tryz.prog 39 #[.agg #[.bool s, .slice A n c], .int .i64 t] w (PB w false) := by
  have t1 : decide ((n : Int) ≤ 5) = true := by simp; omega
  have hds : (st (Lib.decDigits a)).size = d := by rw [st_size, Lib.decDigits_length, hN]
  have t2 : decide ((d : Int) ≤ 40) = true := by simp; omega
  have HC := Lib.hid (fun w (h : Rd w A n c a) => uDigits h (by omega))
  obtain ⟨D, hD⟩ : ∃ D, Lib.decDigits a = D := ⟨_, rfl⟩
  rw [hD] at hds HC
  clear hD hN
  have t3 : decide ((-400 : Int) ≤ t) = false := by simp; omega
  go_enter Tryz.func39, Tryz.ntmps39
  go_upto_region 1 with (fail)
  have X1 := (Bo.newAt w (g := w.heap.size) (by simp) #[.bool s, .slice A n c] 25)
  have HB := Lib.hid (bel1 w (.cells #[.bool s, .slice A n c] 25))
  replace h := h.below HB.out
  generalize hW1 : (w.alloc (.cells #[.bool s, .slice A n c] 25)) = w1 at *
  clear hW1
  have xX10 := X1.at (i := 0) (v := .bool s) rfl
  have xX11 := X1.at (i := 1) (v := .slice A n c) rfl
  go_wp2_with fail
  refine (HC.out _ h).mono ?_
  rintro ee w2 ⟨rfl, B⟩
  clear xX10 xX11
  replace X1 := X1.below B
  replace h := h.below B
  replace HB := Lib.hid (bt HB.out B)
  clear B
  have xX10 := X1.at (i := 0) (v := .bool s) rfl
  have xX11 := X1.at (i := 1) (v := .slice A n c) rfl
  go_wp2
  go_ret
  exact ⟨rfl, HB.out⟩

set_option maxHeartbeats 2000000 in
theorem uFits_g {w : World} {A : Option Addr} {n c a d : Nat} {s : Bool} {t : Int} (h : Rd w A n c a) (hN : Lib.nDigits a = d) (hn : n ≤ 5) (hd : d ≤ 40) (ht : -400 ≤ t) (hu : 400 < t) : Calls Tryz.prog 39 #[.agg #[.bool s, .slice A n c], .int .i64 t] w (PB w false) := by
  have t1 : decide ((n : Int) ≤ 5) = true := by simp; omega
  have hds : (st (Lib.decDigits a)).size = d := by rw [st_size, Lib.decDigits_length, hN]
  have t2 : decide ((d : Int) ≤ 40) = true := by simp; omega
  have HC := Lib.hid (fun w (h : Rd w A n c a) => uDigits h (by omega))
  obtain ⟨D, hD⟩ : ∃ D, Lib.decDigits a = D := ⟨_, rfl⟩
  rw [hD] at hds HC
  clear hD hN
  have t3 : decide ((-400 : Int) ≤ t) = true := by simp; omega
  have t4 : decide (t ≤ (400 : Int)) = false := by simp; omega
  go_enter Tryz.func39, Tryz.ntmps39
  go_upto_region 1 with (fail)
  have X1 := (Bo.newAt w (g := w.heap.size) (by simp) #[.bool s, .slice A n c] 25)
  have HB := Lib.hid (bel1 w (.cells #[.bool s, .slice A n c] 25))
  replace h := h.below HB.out
  generalize hW1 : (w.alloc (.cells #[.bool s, .slice A n c] 25)) = w1 at *
  clear hW1
  have xX10 := X1.at (i := 0) (v := .bool s) rfl
  have xX11 := X1.at (i := 1) (v := .slice A n c) rfl
  go_wp2_with fail
  refine (HC.out _ h).mono ?_
  rintro ee w2 ⟨rfl, B⟩
  clear xX10 xX11
  replace X1 := X1.below B
  replace h := h.below B
  replace HB := Lib.hid (bt HB.out B)
  clear B
  have xX10 := X1.at (i := 0) (v := .bool s) rfl
  have xX11 := X1.at (i := 1) (v := .slice A n c) rfl
  go_wp2
  go_ret
  exact ⟨rfl, HB.out⟩

set_option maxHeartbeats 2000000 in
theorem uFits_y {w : World} {A : Option Addr} {n c a d : Nat} {s : Bool} {t : Int} (h : Rd w A n c a) (hN : Lib.nDigits a = d) (hn : n ≤ 5) (hd : d ≤ 40) (ht : -400 ≤ t) (hu : t ≤ 400) : Calls Tryz.prog 39 #[.agg #[.bool s, .slice A n c], .int .i64 t] w (PB w true) := by
  have t1 : decide ((n : Int) ≤ 5) = true := by simp; omega
  have hds : (st (Lib.decDigits a)).size = d := by rw [st_size, Lib.decDigits_length, hN]
  have t2 : decide ((d : Int) ≤ 40) = true := by simp; omega
  have HC := Lib.hid (fun w (h : Rd w A n c a) => uDigits h (by omega))
  obtain ⟨D, hD⟩ : ∃ D, Lib.decDigits a = D := ⟨_, rfl⟩
  rw [hD] at hds HC
  clear hD hN
  have t3 : decide ((-400 : Int) ≤ t) = true := by simp; omega
  have t4 : decide (t ≤ (400 : Int)) = true := by simp; omega
  go_enter Tryz.func39, Tryz.ntmps39
  go_upto_region 1 with (fail)
  have X1 := (Bo.newAt w (g := w.heap.size) (by simp) #[.bool s, .slice A n c] 25)
  have HB := Lib.hid (bel1 w (.cells #[.bool s, .slice A n c] 25))
  replace h := h.below HB.out
  generalize hW1 : (w.alloc (.cells #[.bool s, .slice A n c] 25)) = w1 at *
  clear hW1
  have xX10 := X1.at (i := 0) (v := .bool s) rfl
  have xX11 := X1.at (i := 1) (v := .slice A n c) rfl
  go_wp2_with fail
  refine (HC.out _ h).mono ?_
  rintro ee w2 ⟨rfl, B⟩
  clear xX10 xX11
  replace X1 := X1.below B
  replace h := h.below B
  replace HB := Lib.hid (bt HB.out B)
  clear B
  have xX10 := X1.at (i := 0) (v := .bool s) rfl
  have xX11 := X1.at (i := 1) (v := .slice A n c) rfl
  go_wp2
  go_ret
  exact ⟨rfl, HB.out⟩

theorem uFits {w : World} {A : Option Addr} {n c a : Nat} {s : Bool} {t : Int} {p : Bool} (h : Rd w A n c a) (hp : fitC n a t = p) : Calls Tryz.prog 39 #[.agg #[.bool s, .slice A n c], .int .i64 t] w (PB w p) := by
  unfold fitC at hp
  by_cases h1 : n ≤ 5
  · by_cases h2 : Lib.nDigits a ≤ 40
    · by_cases h3 : -400 ≤ t
      · by_cases h4 : t ≤ 400
        · obtain rfl : p = true := by rw [← hp]; simp [h1, h2, h3, h4]
          exact uFits_y (t := t) h rfl h1 h2 h3 h4
        · obtain rfl : p = false := by rw [← hp]; simp [h4]
          exact uFits_g (t := t) h rfl h1 h2 h3 (by omega)
      · obtain rfl : p = false := by rw [← hp]; simp [h3]
        exact uFits_l (t := t) h rfl h1 h2 (by omega)
    · obtain rfl : p = false := by rw [← hp]; simp [h2]
      exact uFits_d (t := t) h rfl h1 (by omega)
  · obtain rfl : p = false := by rw [← hp]; simp [h1]
    exact uFits_n (t := t) h rfl (by omega)
theorem fit_iff {q n : Nat} {t : Int} (hn : (limbs q).length = n) : fitC n q t = (decide (q < 10 ^ 40) && (decide (-400 ≤ t) && decide (t ≤ 400))) := by
  unfold fitC
  have h1 : (n ≤ 5 ∧ Lib.nDigits q ≤ 40) ↔ q < 10 ^ 40 := by
    constructor
    · rintro ⟨_, h⟩
      have h2 := Lib.lt_pow_nDigits q
      have h3 := Nat.pow_le_pow_right (by decide : 0 < 10) h
      omega
    · intro h
      refine ⟨?_, nDig_le (k := 39) h⟩
      rw [← hn]
      exact limbs_length_le (Nat.lt_trans h ten40)
  rw [Bool.eq_iff_iff]
  simp only [Bool.and_eq_true, decide_eq_true_eq]
  rw [← h1]
  constructor
  · rintro ⟨a, b, c, d⟩; exact ⟨⟨a, b⟩, c, d⟩
  · rintro ⟨⟨a, b⟩, c, d⟩; exact ⟨a, b, c, d⟩

set_option maxHeartbeats 2000000 in
theorem uMake_zero {w : World} {A : Option Addr} {n c : Nat} {s : Bool} {t : Int} (h : Rd w A n c 0) : Calls Tryz.prog 13 #[.agg #[.bool s, .slice A n c], .int .i64 t] w (PD w ((0, 0), 0)) := by
  go_enter Tryz.func13, Tryz.ntmps13
  go_upto_region 1 with (fail)
  have X1 := (Bo.newAt w (g := w.heap.size) (by simp) #[.bool s, .slice A n c] 25).below (bel1 _ (.cells #[.bool false, .slice none 0 0, .int .i64 0] 27))
  have XR := (Bo.newAt (w.alloc (.cells #[.bool s, .slice A n c] 25)) (g := w.heap.size + 1) (by simp) #[.bool false, .slice none 0 0, .int .i64 0] 27)
  have HB := Lib.hid (bel2 w (.cells #[.bool s, .slice A n c] 25) (.cells #[.bool false, .slice none 0 0, .int .i64 0] 27))
  replace h := h.below HB.out
  generalize hW1 : ((w.alloc (.cells #[.bool s, .slice A n c] 25)).alloc (.cells #[.bool false, .slice none 0 0, .int .i64 0] 27)) = w1 at *
  clear hW1
  have xX10 := X1.at (i := 0) (v := .bool s) rfl
  have xX11 := X1.at (i := 1) (v := .slice A n c) rfl
  go_wp2_with fail
  refine (qMake s h).mono ?_
  rintro ee w2 ⟨s3, A3, n3, c3, rfl, h3, k3, B⟩
  clear xX10 xX11
  replace X1 := X1.below B
  replace XR := XR.below B
  replace h := h.below B
  replace HB := Lib.hid (bt HB.out B)
  clear B
  have g6 := XR.lt
  go_upto_region 2 with (fail)
  replace X1 := X1.below (bel1 _ (.cells #[.bool s3, .slice A3 n3 c3] 25))
  replace XR := XR.below (bel1 _ (.cells #[.bool s3, .slice A3 n3 c3] 25))
  replace h3 := h3.below (bel1 _ (.cells #[.bool s3, .slice A3 n3 c3] 25))
  replace HB := Lib.hid (bt HB.out (bel1 _ (.cells #[.bool s3, .slice A3 n3 c3] 25)))
  have X6 := Bo.new w2 #[.bool s3, .slice A3 n3 c3] 25
  generalize hWn : w2.alloc (.cells #[.bool s3, .slice A3 n3 c3] 25) = w3 at *
  clear hWn
  obtain rfl : n3 = 0 := by have := h3.1.pos; rw [sg_natAbs] at this; omega
  have xX60 := X6.at (i := 0) (v := .bool s3) rfl
  have xX61 := X6.at (i := 1) (v := .slice A3 0 c3) rfl
  have xXR0 := XR.at (i := 0) (v := .bool false) rfl
  have zXR0 := XR.frozen 0
  have xXR1 := XR.at (i := 1) (v := .slice none 0 0) rfl
  have zXR1 := XR.frozen 1
  have xXR2 := XR.at (i := 2) (v := .int .i64 0) rfl
  have zXR2 := XR.frozen 2
  go_wp2
  clear xX60 xX61 xXR0 zXR0 xXR1 zXR1 xXR2 zXR2
  have SX := StN.mk3 XR (.bool false) (.slice none 0 0) (.int .i64 0)
  replace X1 := X1.stn SX (by omega)
  replace X6 := X6.stn SX (by omega)
  replace h3 := h3.stn SX (by simp [no32])
  replace HB := Lib.hid (SX.below HB.out (by omega))
  replace XR := SX.box
  clear SX
  generalize (World.setCell (World.setCell (World.setCell w3 ⟨w.heap.size + 1, 0, none⟩ (.bool false)) ⟨w.heap.size + 1, 1, none⟩ (.slice none 0 0)) ⟨w.heap.size + 1, 2, none⟩ (.int .i64 0)) = w4 at *
  go_wp2
  have r0 := XR.cell 0
  have r1 := XR.cell 1
  have r2 := XR.cell 2
  exact bodyPost_ret (v := .tuple #[.agg #[.bool false, .slice none 0 0, .int .i64 0], .int .i64 0]) (by simp [results, Tryz.results13, go_sem, r0, r1, r2]) rfl ⟨false, none, 0, 0, rfl, Wn.zero, by omega, HB.out⟩

set_option maxHeartbeats 2000000 in
theorem uMake_far {w : World} {A : Option Addr} {n c a : Nat} {s : Bool} {t : Int} (h : Rd w A n c a) (ha : a ≠ 0) (ht : 1000000 < t ∨ t < -1000000) : Calls Tryz.prog 13 #[.agg #[.bool s, .slice A n c], .int .i64 t] w (PD w ((0, 0), 1)) := by
  by_cases h1 : 1000000 < t
  · have t1 : decide ((1000000 : Int) < t) = true := by simpa using h1
    clear ht h1
    go_enter Tryz.func13, Tryz.ntmps13
    go_upto_region 1 with (fail)
    have X1 := (Bo.newAt w (g := w.heap.size) (by simp) #[.bool s, .slice A n c] 25).below (bel1 _ (.cells #[.bool false, .slice none 0 0, .int .i64 0] 27))
    have XR := (Bo.newAt (w.alloc (.cells #[.bool s, .slice A n c] 25)) (g := w.heap.size + 1) (by simp) #[.bool false, .slice none 0 0, .int .i64 0] 27)
    have HB := Lib.hid (bel2 w (.cells #[.bool s, .slice A n c] 25) (.cells #[.bool false, .slice none 0 0, .int .i64 0] 27))
    replace h := h.below HB.out
    generalize hW1 : ((w.alloc (.cells #[.bool s, .slice A n c] 25)).alloc (.cells #[.bool false, .slice none 0 0, .int .i64 0] 27)) = w1 at *
    clear hW1
    have xX10 := X1.at (i := 0) (v := .bool s) rfl
    have xX11 := X1.at (i := 1) (v := .slice A n c) rfl
    go_wp2_with fail
    refine (qMake s h).mono ?_
    rintro ee w2 ⟨s3, A3, n3, c3, rfl, h3, k3, B⟩
    clear xX10 xX11
    replace X1 := X1.below B
    replace XR := XR.below B
    replace h := h.below B
    replace HB := Lib.hid (bt HB.out B)
    clear B
    have g6 := XR.lt
    go_upto_region 2 with (fail)
    replace X1 := X1.below (bel1 _ (.cells #[.bool s3, .slice A3 n3 c3] 25))
    replace XR := XR.below (bel1 _ (.cells #[.bool s3, .slice A3 n3 c3] 25))
    replace h3 := h3.below (bel1 _ (.cells #[.bool s3, .slice A3 n3 c3] 25))
    replace HB := Lib.hid (bt HB.out (bel1 _ (.cells #[.bool s3, .slice A3 n3 c3] 25)))
    have X6 := Bo.new w2 #[.bool s3, .slice A3 n3 c3] 25
    generalize hWn : w2.alloc (.cells #[.bool s3, .slice A3 n3 c3] 25) = w3 at *
    clear hWn
    have hp : 0 < n3 := by have := h3.1.pos; rw [sg_natAbs] at this; omega
    have tz : ((n3 : Int) == 0) = false := by simp; omega
    have xX60 := X6.at (i := 0) (v := .bool s3) rfl
    have xX61 := X6.at (i := 1) (v := .slice A3 n3 c3) rfl
    have xXR0 := XR.at (i := 0) (v := .bool false) rfl
    have zXR0 := XR.frozen 0
    have xXR1 := XR.at (i := 1) (v := .slice none 0 0) rfl
    have zXR1 := XR.frozen 1
    have xXR2 := XR.at (i := 2) (v := .int .i64 0) rfl
    have zXR2 := XR.frozen 2
    go_wp2
    clear xX60 xX61 xXR0 zXR0 xXR1 zXR1 xXR2 zXR2
    have SX := StN.mk3 XR (.bool false) (.slice none 0 0) (.int .i64 0)
    replace X1 := X1.stn SX (by omega)
    replace X6 := X6.stn SX (by omega)
    replace h3 := h3.stn SX (by simp [no32])
    replace HB := Lib.hid (SX.below HB.out (by omega))
    replace XR := SX.box
    clear SX
    generalize (World.setCell (World.setCell (World.setCell w3 ⟨w.heap.size + 1, 0, none⟩ (.bool false)) ⟨w.heap.size + 1, 1, none⟩ (.slice none 0 0)) ⟨w.heap.size + 1, 2, none⟩ (.int .i64 0)) = w4 at *
    go_wp2
    have r0 := XR.cell 0
    have r1 := XR.cell 1
    have r2 := XR.cell 2
    exact bodyPost_ret (v := .tuple #[.agg #[.bool false, .slice none 0 0, .int .i64 0], .int .i64 1]) (by simp [results, Tryz.results13, go_sem, r0, r1, r2]) rfl ⟨false, none, 0, 0, rfl, Wn.zero, by omega, HB.out⟩
  · have t1 : decide ((1000000 : Int) < t) = false := by simpa using h1
    have t2 : decide (t < (-1000000 : Int)) = true := by simp; omega
    clear ht h1
    go_enter Tryz.func13, Tryz.ntmps13
    go_upto_region 1 with (fail)
    have X1 := (Bo.newAt w (g := w.heap.size) (by simp) #[.bool s, .slice A n c] 25).below (bel1 _ (.cells #[.bool false, .slice none 0 0, .int .i64 0] 27))
    have XR := (Bo.newAt (w.alloc (.cells #[.bool s, .slice A n c] 25)) (g := w.heap.size + 1) (by simp) #[.bool false, .slice none 0 0, .int .i64 0] 27)
    have HB := Lib.hid (bel2 w (.cells #[.bool s, .slice A n c] 25) (.cells #[.bool false, .slice none 0 0, .int .i64 0] 27))
    replace h := h.below HB.out
    generalize hW1 : ((w.alloc (.cells #[.bool s, .slice A n c] 25)).alloc (.cells #[.bool false, .slice none 0 0, .int .i64 0] 27)) = w1 at *
    clear hW1
    have xX10 := X1.at (i := 0) (v := .bool s) rfl
    have xX11 := X1.at (i := 1) (v := .slice A n c) rfl
    go_wp2_with fail
    refine (qMake s h).mono ?_
    rintro ee w2 ⟨s3, A3, n3, c3, rfl, h3, k3, B⟩
    clear xX10 xX11
    replace X1 := X1.below B
    replace XR := XR.below B
    replace h := h.below B
    replace HB := Lib.hid (bt HB.out B)
    clear B
    have g6 := XR.lt
    go_upto_region 2 with (fail)
    replace X1 := X1.below (bel1 _ (.cells #[.bool s3, .slice A3 n3 c3] 25))
    replace XR := XR.below (bel1 _ (.cells #[.bool s3, .slice A3 n3 c3] 25))
    replace h3 := h3.below (bel1 _ (.cells #[.bool s3, .slice A3 n3 c3] 25))
    replace HB := Lib.hid (bt HB.out (bel1 _ (.cells #[.bool s3, .slice A3 n3 c3] 25)))
    have X6 := Bo.new w2 #[.bool s3, .slice A3 n3 c3] 25
    generalize hWn : w2.alloc (.cells #[.bool s3, .slice A3 n3 c3] 25) = w3 at *
    clear hWn
    have hp : 0 < n3 := by have := h3.1.pos; rw [sg_natAbs] at this; omega
    have tz : ((n3 : Int) == 0) = false := by simp; omega
    have xX60 := X6.at (i := 0) (v := .bool s3) rfl
    have xX61 := X6.at (i := 1) (v := .slice A3 n3 c3) rfl
    have xXR0 := XR.at (i := 0) (v := .bool false) rfl
    have zXR0 := XR.frozen 0
    have xXR1 := XR.at (i := 1) (v := .slice none 0 0) rfl
    have zXR1 := XR.frozen 1
    have xXR2 := XR.at (i := 2) (v := .int .i64 0) rfl
    have zXR2 := XR.frozen 2
    go_wp2
    clear xX60 xX61 xXR0 zXR0 xXR1 zXR1 xXR2 zXR2
    have SX := StN.mk3 XR (.bool false) (.slice none 0 0) (.int .i64 0)
    replace X1 := X1.stn SX (by omega)
    replace X6 := X6.stn SX (by omega)
    replace h3 := h3.stn SX (by simp [no32])
    replace HB := Lib.hid (SX.below HB.out (by omega))
    replace XR := SX.box
    clear SX
    generalize (World.setCell (World.setCell (World.setCell w3 ⟨w.heap.size + 1, 0, none⟩ (.bool false)) ⟨w.heap.size + 1, 1, none⟩ (.slice none 0 0)) ⟨w.heap.size + 1, 2, none⟩ (.int .i64 0)) = w4 at *
    go_wp2
    have r0 := XR.cell 0
    have r1 := XR.cell 1
    have r2 := XR.cell 2
    exact bodyPost_ret (v := .tuple #[.agg #[.bool false, .slice none 0 0, .int .i64 0], .int .i64 1]) (by simp [results, Tryz.results13, go_sem, r0, r1, r2]) rfl ⟨false, none, 0, 0, rfl, Wn.zero, by omega, HB.out⟩

def UMk (w : World) (g a k : Nat) (s : Bool) (t : Int) (u : Value) (wr : World) : Prop :=
  ∃ A n c q, u = .int .i64 (t + (k : Int)) ∧ Bo wr g #[.bool s, .slice A n c] 25 ∧ Bo wr (w.heap.size + 1) #[.bool false, .slice none 0 0, .int .i64 0] 27 ∧ Nm wr A n c q ∧ n ≤ 100000 ∧ a = q * 10 ^ k ∧ q ≠ 0 ∧ Below w.heap.size w wr

set_option maxHeartbeats 4000000 in
theorem uMake_main {w : World} {A : Option Addr} {n c a : Nat} {s : Bool} {t : Int} {r : (Int × Int) × Int} (h : Rd w A n c a) (ha : a ≠ 0) (hn : n ≤ 10000) (ht1 : -1000000 ≤ t) (ht2 : t ≤ 1000000)
    (HR : ∀ q k : Nat, a = q * 10 ^ k → q % 10 ≠ 0 → r = if fitC (limbs q).length q (t + k) then ((sg s q, t + k), 0) else ((0, 0), 1)) (HK : ∀ q k : Nat, a = q * 10 ^ k → k ≤ 10 * n + 1) : Calls Tryz.prog 13 #[.agg #[.bool s, .slice A n c], .int .i64 t] w (PD w r) := by
  have t1 : decide ((1000000 : Int) < t) = false := by simpa using ht2
  have t2 : decide (t < (-1000000 : Int)) = false := by simpa using ht1
  have HRR := Lib.hid HR
  have HKK := Lib.hid HK
  clear HR HK
  go_enter Tryz.func13, Tryz.ntmps13
  go_upto_region 1 with (fail)
  have X1 := (Bo.newAt w (g := w.heap.size) (by simp) #[.bool s, .slice A n c] 25).below (bel1 _ (.cells #[.bool false, .slice none 0 0, .int .i64 0] 27))
  have XR := (Bo.newAt (w.alloc (.cells #[.bool s, .slice A n c] 25)) (g := w.heap.size + 1) (by simp) #[.bool false, .slice none 0 0, .int .i64 0] 27)
  have HB := Lib.hid (bel2 w (.cells #[.bool s, .slice A n c] 25) (.cells #[.bool false, .slice none 0 0, .int .i64 0] 27))
  replace h := h.below HB.out
  generalize hW1 : ((w.alloc (.cells #[.bool s, .slice A n c] 25)).alloc (.cells #[.bool false, .slice none 0 0, .int .i64 0] 27)) = w1 at *
  clear hW1
  have xX10 := X1.at (i := 0) (v := .bool s) rfl
  have xX11 := X1.at (i := 1) (v := .slice A n c) rfl
  go_wp2_with fail
  refine (qMake s h).mono ?_
  rintro ee w2 ⟨s3, A3, n3, c3, rfl, h3, k3, B⟩
  clear xX10 xX11
  replace X1 := X1.below B
  replace XR := XR.below B
  replace h := h.below B
  replace HB := Lib.hid (bt HB.out B)
  clear B
  have g6 := XR.lt
  go_upto_region 2 with (fail)
  replace X1 := X1.below (bel1 _ (.cells #[.bool s3, .slice A3 n3 c3] 25))
  replace XR := XR.below (bel1 _ (.cells #[.bool s3, .slice A3 n3 c3] 25))
  replace h3 := h3.below (bel1 _ (.cells #[.bool s3, .slice A3 n3 c3] 25))
  replace HB := Lib.hid (bt HB.out (bel1 _ (.cells #[.bool s3, .slice A3 n3 c3] 25)))
  have X6 := Bo.new w2 #[.bool s3, .slice A3 n3 c3] 25
  generalize hWn : w2.alloc (.cells #[.bool s3, .slice A3 n3 c3] 25) = w3 at *
  clear hWn
  have hp : 0 < n3 := by have := h3.1.pos; rw [sg_natAbs] at this; omega
  have tz : ((n3 : Int) == 0) = false := by simp; omega
  obtain rfl : s3 = s := by
    have := h3.2
    rw [sg_lt] at this
    rw [this]
    simp; omega
  have h4 := h3.1
  rw [sg_natAbs] at h4
  have g7 := X6.lt
  clear h3
  have xX60 := X6.at (i := 0) (v := .bool s3) rfl
  have xX61 := X6.at (i := 1) (v := .slice A3 n3 c3) rfl
  go_wp2
  clear xX60 xX61
  generalize w2.heap.size = g at *
  have HI0 := Lib.hid (show UMk w g a 0 s3 t (.int .i64 t) w3 from ⟨A3, n3, c3, a, by simp, X6, XR, h4, by omega, by simp, ha, HB.out⟩)
  clear X1 X6 XR h4 HB g7
  go_loopw [1, 7, 8, 9] (fun u _ _ _ wr => ∃ k : Nat, UMk w g a k s3 t u wr) (fun u _ _ _ _ => 10 * n + 2 - ((intOf u) - t).toNat)
  case atStart => exact ⟨0, HI0.out⟩
  case round =>
    obtain ⟨k, A4, n4, c4, q, rfl, X6, XR, h4, hn4, e4, hq, hB⟩ := hrel
    have hk := HKK.out q k e4
    have HB := Lib.hid hB
    have HE := Lib.hid e4
    clear hB e4 HI0
    go_wp2
    refine Jo.region_joint (T := [0, 1, 2, 3, 4, 5, 6, 7, 8, 9, 10]) (ds := [some 29, some 30, some 31, some 32, some 28, some 33, some 34, some 35, some 7, some 8, some 9]) (ls := [[], [0], [], [1, 2], [3], [4], [4], [4], [5], [6], [7]]) (k := 11) (L := [(some 29, 0), (some 30, 1), (some 31, 2), (some 32, 3), (some 28, 4), (some 33, 5), (some 34, 6), (some 35, 7), (some 7, 8), (some 8, 9), (some 9, 10)]) (fuel := 0) (J := fun wj => Below (World.heap wr).size wr wj)
      (F := [Jo.Fact.eq (.pointer (some ⟨g, 1, none⟩)), Jo.Fact.eq (.slice A4 n4 c4), Jo.Fact.nm 10 1, Jo.Fact.qr (q / 10) (q % 10) 100000, Jo.Fact.qr (q / 10) (q % 10) 100000, Jo.Fact.nm (q / 10) 100000, Jo.Fact.nm (q % 10) 1099511627776, Jo.Fact.eq (.bool true), Jo.Fact.nm (q / 10) 100000, Jo.Fact.nm (q % 10) 1099511627776, Jo.Fact.eq (.bool true)])
      (by kernel_rfl) (by kernel_rfl) (by decide) rfl rfl (fun _ _ h b => bt h b) ((Below.refl _ _).drew) ?_ (fun vs w4 hJ hd => ?_)
    · refine Jo.jcons (i := 0) (o := ⟨some 29, _, _, _, _, _⟩) (di := some 29) (L := []) (f := Jo.Fact.eq (.pointer (some ⟨g, 1, none⟩))) rfl rfl rfl rfl (fun vs wj hJ hd K hK => ?_) ?_
      · clear hd
        simp only [Jo.putl, List.foldl_nil, Act.put, List.setIfInBounds_toArray, List.set_cons_zero, List.set_cons_succ] at hK ⊢
        go_simp
        exact hK.out _ _ rfl (Below.refl _ _)
      refine Jo.jcons (i := 1) (o := ⟨some 30, _, _, _, _, _⟩) (di := some 30) (L := [(some 29, 0)]) (f := Jo.Fact.eq (.slice A4 n4 c4)) rfl rfl rfl rfl (fun vs wj hJ hd K hK => ?_) ?_
      · have d0 : (Jo.Fact.eq (.pointer (some ⟨g, 1, none⟩))).P (vs 0) wj := hd 0 (by decide)
        clear hd
        simp only [Jo.putl, List.foldl_cons, List.foldl_nil, Act.put, List.setIfInBounds_toArray, List.set_cons_zero, List.set_cons_succ] at hK ⊢
        generalize vs 0 = u0 at hK d0 ⊢
        replace d0 : u0 = _ := d0
        subst d0
        have xX60 : World.cell? wj ⟨g, 0, none⟩ = some (.bool s3) := (X6.below hJ).cell 0
        have xX61 : World.cell? wj ⟨g, 1, none⟩ = some (.slice A4 n4 c4) := (X6.below hJ).cell 1
        go_simp
        exact hK.out _ _ rfl (Below.refl _ _)
      refine Jo.jcons (i := 2) (o := ⟨some 31, _, _, _, _, _⟩) (di := some 31) (L := []) (f := Jo.Fact.nm 10 1) rfl rfl rfl rfl (fun vs wj hJ hd K hK => ?_) ?_
      · clear hd
        simp only [Jo.putl, List.foldl_nil, Act.put, List.setIfInBounds_toArray, List.set_cons_zero, List.set_cons_succ] at hK ⊢
        go_simp
        refine (uTen _).mono ?_
        rintro ee wk ⟨A5, n5, c5, rfl, h5, k5, B⟩
        exact hK.out _ _ ⟨_, _, _, rfl, h5, k5⟩ B
      refine Jo.jcons (i := 3) (o := ⟨some 32, _, _, _, _, _⟩) (di := some 32) (L := [(some 30, 1), (some 31, 2)]) (f := Jo.Fact.qr (q / 10) (q % 10) 100000) rfl rfl rfl rfl (fun vs wj hJ hd K hK => ?_) ?_
      · have d1 : (Jo.Fact.eq (.slice A4 n4 c4)).P (vs 1) wj := hd 1 (by decide)
        have d2 : (Jo.Fact.nm 10 1).P (vs 2) wj := hd 2 (by decide)
        clear hd
        simp only [Jo.putl, List.foldl_cons, List.foldl_nil, Act.put, List.setIfInBounds_toArray, List.set_cons_zero, List.set_cons_succ] at hK ⊢
        generalize vs 1 = u1 at hK d1 ⊢
        generalize vs 2 = u2 at hK d2 ⊢
        replace d1 : u1 = _ := d1
        subst d1
        obtain ⟨A5, n5, c5, rfl, h5, k5⟩ := d2
        go_simp
        refine (rDiv (h4.rd.below hJ) h5.rd (by omega) (by omega) (by decide)).mono ?_
        rintro ee wk ⟨A6, n6, c6, A7, n7, c7, rfl, h6, h7, k6, k7, B⟩
        exact hK.out _ _ ⟨_, _, _, _, _, _, rfl, h6, h7, by omega⟩ B
      refine Jo.jcons (i := 4) (o := ⟨some 28, _, _, _, _, _⟩) (di := some 28) (L := [(some 32, 3)]) (f := Jo.Fact.qr (q / 10) (q % 10) 100000) rfl rfl rfl rfl (fun vs wj hJ hd K hK => ?_) ?_
      · have d3 : (Jo.Fact.qr (q / 10) (q % 10) 100000).P (vs 3) wj := hd 3 (by decide)
        clear hd
        simp only [Jo.putl, List.foldl_cons, List.foldl_nil, Act.put, List.setIfInBounds_toArray, List.set_cons_zero, List.set_cons_succ] at hK ⊢
        generalize vs 3 = u3 at hK d3 ⊢
        obtain ⟨A6, n6, c6, A7, n7, c7, rfl, h6, h7, k6⟩ := d3
        go_simp
        exact hK.out _ _ ⟨_, _, _, _, _, _, rfl, h6, h7, k6⟩ (Below.refl _ _)
      refine Jo.jcons (i := 5) (o := ⟨some 33, _, _, _, _, _⟩) (di := some 33) (L := [(some 28, 4)]) (f := Jo.Fact.nm (q / 10) 100000) rfl rfl rfl rfl (fun vs wj hJ hd K hK => ?_) ?_
      · have d4 : (Jo.Fact.qr (q / 10) (q % 10) 100000).P (vs 4) wj := hd 4 (by decide)
        clear hd
        simp only [Jo.putl, List.foldl_cons, List.foldl_nil, Act.put, List.setIfInBounds_toArray, List.set_cons_zero, List.set_cons_succ] at hK ⊢
        generalize vs 4 = u4 at hK d4 ⊢
        obtain ⟨A8, n8, c8, A9, n9, c9, rfl, h8, h9, k8⟩ := d4
        go_simp
        exact hK.out _ _ ⟨_, _, _, rfl, h8, k8⟩ (Below.refl _ _)
      refine Jo.jcons (i := 6) (o := ⟨some 34, _, _, _, _, _⟩) (di := some 34) (L := [(some 28, 4)]) (f := Jo.Fact.nm (q % 10) 1099511627776) rfl rfl rfl rfl (fun vs wj hJ hd K hK => ?_) ?_
      · have d4 : (Jo.Fact.qr (q / 10) (q % 10) 100000).P (vs 4) wj := hd 4 (by decide)
        clear hd
        simp only [Jo.putl, List.foldl_cons, List.foldl_nil, Act.put, List.setIfInBounds_toArray, List.set_cons_zero, List.set_cons_succ] at hK ⊢
        generalize vs 4 = u4 at hK d4 ⊢
        obtain ⟨A8, n8, c8, A9, n9, c9, rfl, h8, h9, k8⟩ := d4
        go_simp
        exact hK.out _ _ ⟨_, _, _, rfl, h9, by have := h9.rd.big; omega⟩ (Below.refl _ _)
      refine Jo.jcons (i := 7) (o := ⟨some 35, _, _, _, _, _⟩) (di := some 35) (L := [(some 28, 4)]) (f := Jo.Fact.eq (.bool true)) rfl rfl rfl rfl (fun vs wj hJ hd K hK => ?_) ?_
      · have d4 : (Jo.Fact.qr (q / 10) (q % 10) 100000).P (vs 4) wj := hd 4 (by decide)
        clear hd
        simp only [Jo.putl, List.foldl_cons, List.foldl_nil, Act.put, List.setIfInBounds_toArray, List.set_cons_zero, List.set_cons_succ] at hK ⊢
        generalize vs 4 = u4 at hK d4 ⊢
        obtain ⟨A8, n8, c8, A9, n9, c9, rfl, h8, h9, k8⟩ := d4
        go_simp
        exact hK.out _ _ rfl (Below.refl _ _)
      refine Jo.jcons (i := 8) (o := ⟨some 7, _, _, _, _, _⟩) (di := some 7) (L := [(some 33, 5)]) (f := Jo.Fact.nm (q / 10) 100000) rfl rfl rfl rfl (fun vs wj hJ hd K hK => ?_) ?_
      · have d5 : (Jo.Fact.nm (q / 10) 100000).P (vs 5) wj := hd 5 (by decide)
        clear hd
        simp only [Jo.putl, List.foldl_cons, List.foldl_nil, Act.put, List.setIfInBounds_toArray, List.set_cons_zero, List.set_cons_succ] at hK ⊢
        generalize vs 5 = u5 at hK d5 ⊢
        obtain ⟨A10, n10, c10, rfl, h10, k10⟩ := d5
        go_simp
        exact hK.out _ _ ⟨_, _, _, rfl, h10, k10⟩ (Below.refl _ _)
      refine Jo.jcons (i := 9) (o := ⟨some 8, _, _, _, _, _⟩) (di := some 8) (L := [(some 34, 6)]) (f := Jo.Fact.nm (q % 10) 1099511627776) rfl rfl rfl rfl (fun vs wj hJ hd K hK => ?_) ?_
      · have d6 : (Jo.Fact.nm (q % 10) 1099511627776).P (vs 6) wj := hd 6 (by decide)
        clear hd
        simp only [Jo.putl, List.foldl_cons, List.foldl_nil, Act.put, List.setIfInBounds_toArray, List.set_cons_zero, List.set_cons_succ] at hK ⊢
        generalize vs 6 = u6 at hK d6 ⊢
        obtain ⟨A11, n11, c11, rfl, h11, k11⟩ := d6
        go_simp
        exact hK.out _ _ ⟨_, _, _, rfl, h11, k11⟩ (Below.refl _ _)
      refine Jo.jcons (i := 10) (o := ⟨some 9, _, _, _, _, _⟩) (di := some 9) (L := [(some 35, 7)]) (f := Jo.Fact.eq (.bool true)) rfl rfl rfl rfl (fun vs wj hJ hd K hK => ?_) ?_
      · have d7 : (Jo.Fact.eq (.bool true)).P (vs 7) wj := hd 7 (by decide)
        clear hd
        simp only [Jo.putl, List.foldl_cons, List.foldl_nil, Act.put, List.setIfInBounds_toArray, List.set_cons_zero, List.set_cons_succ] at hK ⊢
        generalize vs 7 = u7 at hK d7 ⊢
        replace d7 : u7 = _ := d7
        subst d7
        go_simp
        exact hK.out _ _ rfl (Below.refl _ _)
      exact Jo.Steps.nil
    have d0 : (Jo.Fact.eq (.pointer (some ⟨g, 1, none⟩))).P (vs 0) w4 := hd 0 (by decide)
    have d1 : (Jo.Fact.eq (.slice A4 n4 c4)).P (vs 1) w4 := hd 1 (by decide)
    have d2 : (Jo.Fact.nm 10 1).P (vs 2) w4 := hd 2 (by decide)
    have d3 : (Jo.Fact.qr (q / 10) (q % 10) 100000).P (vs 3) w4 := hd 3 (by decide)
    have d4 : (Jo.Fact.qr (q / 10) (q % 10) 100000).P (vs 4) w4 := hd 4 (by decide)
    have d5 : (Jo.Fact.nm (q / 10) 100000).P (vs 5) w4 := hd 5 (by decide)
    have d6 : (Jo.Fact.nm (q % 10) 1099511627776).P (vs 6) w4 := hd 6 (by decide)
    have d7 : (Jo.Fact.eq (.bool true)).P (vs 7) w4 := hd 7 (by decide)
    have d8 : (Jo.Fact.nm (q / 10) 100000).P (vs 8) w4 := hd 8 (by decide)
    have d9 : (Jo.Fact.nm (q % 10) 1099511627776).P (vs 9) w4 := hd 9 (by decide)
    have d10 : (Jo.Fact.eq (.bool true)).P (vs 10) w4 := hd 10 (by decide)
    clear hd
    simp only [Jo.putl, List.foldl_cons, List.foldl_nil, Act.put, List.setIfInBounds_toArray, List.set_cons_zero, List.set_cons_succ]
    generalize vs 0 = u0 at d0 ⊢
    generalize vs 1 = u1 at d1 ⊢
    generalize vs 2 = u2 at d2 ⊢
    generalize vs 3 = u3 at d3 ⊢
    generalize vs 4 = u4 at d4 ⊢
    generalize vs 5 = u5 at d5 ⊢
    generalize vs 6 = u6 at d6 ⊢
    generalize vs 7 = u7 at d7 ⊢
    generalize vs 8 = u8 at d8 ⊢
    generalize vs 9 = u9 at d9 ⊢
    generalize vs 10 = u10 at d10 ⊢
    clear vs
    replace d0 : u0 = _ := d0
    subst d0
    replace d1 : u1 = _ := d1
    subst d1
    obtain ⟨A5, n5, c5, rfl, _, _⟩ := d2
    obtain ⟨A6, n6, c6, A7, n7, c7, rfl, _, _, _⟩ := d3
    obtain ⟨A8, n8, c8, A9, n9, c9, rfl, _, _, _⟩ := d4
    obtain ⟨A10, n10, c10, rfl, _, _⟩ := d5
    obtain ⟨A11, n11, c11, rfl, _, _⟩ := d6
    replace d7 : u7 = _ := d7
    subst d7
    obtain ⟨A12, n12, c12, rfl, h12, k12⟩ := d8
    obtain ⟨A13, n13, c13, rfl, h13, k13⟩ := d9
    replace d10 : u10 = _ := d10
    subst d10
    replace X6 := X6.below hJ
    replace XR := XR.below hJ
    replace h4 := h4.below hJ
    replace HB := Lib.hid (bt HB.out hJ)
    refine Jo.jdone (by kernel_rfl) ?_
    have hpos := h13.pos
    have HB4 := HB
    by_cases hq10 : q % 10 = 0
    · obtain rfl : n13 = 0 := by omega
      have hq2 : q / 10 ≠ 0 := by omega
      have HE2 := Lib.hid (show a = q / 10 * 10 ^ (k + 1) by
        have h1 := div_mul' hq10
        rw [HE.out, Nat.pow_succ, Nat.mul_comm (10 ^ k), ← Nat.mul_assoc, ← h1])
      have hwr : IntKind.i64.wrap (t + (k : Int) + 1) = t + (k : Int) + 1 := wrap_in (by omega) (by omega)
      clear hpos h13 HE hq10
      have xX60 := X6.at (i := 0) (v := .bool s3) rfl
      have zX60 := X6.frozen 0
      have xX61 := X6.at (i := 1) (v := .slice A4 n4 c4) rfl
      have zX61 := X6.frozen 1
      go_wp2
      clear xX60 zX60 xX61 zX61
      have SX := StN.mk2 X6 (.bool s3) (.slice A12 n12 c12)
      replace XR := XR.stn SX (by omega)
      replace h4 := h4.stn SX (by simp [no32])
      replace h12 := h12.stn SX (by simp [no32])
      replace HB := Lib.hid (SX.below HB.out (by omega))
      replace X6 := SX.box
      clear SX
      generalize (World.setCell (World.setCell w4 ⟨g, 0, none⟩ (.bool s3)) ⟨g, 1, none⟩ (.slice A12 n12 c12)) = w5 at *
      have HI := Lib.hid (show UMk w g a (k + 1) s3 t (.int .i64 (t + (k : Int) + 1)) w5 from ⟨A12, n12, c12, q / 10, by congr 1; omega, X6, XR, h12, k12, HE2.out, hq2, HB.out⟩)
      clear X6 XR h4 h12 HB HB4
      go_roundw
      case rel => exact ⟨k + 1, HI.out⟩
      case measure => simp [intOf]; omega
    · have hn13 : 0 < n13 := by omega
      have hr := HRR.out q k HE.out hq10
      have hlq := h4.len
      rw [hlq] at hr
      have HQ := Lib.hid hq10
      clear hpos h13 HE hq10
      cases hf : fitC n4 q (t + (k : Int))
      · rw [hf] at hr
        rw [if_neg (by decide)] at hr
        subst hr
        have HF := Lib.hid hf
        clear hf
        have xX60 := X6.at (i := 0) (v := .bool s3) rfl
        have xX61 := X6.at (i := 1) (v := .slice A4 n4 c4) rfl
        go_wp2_with fail
        refine (uFits h4.rd HF.out).mono ?_
        rintro ee w5 ⟨rfl, B⟩
        clear xX60 xX61
        replace X6 := X6.below B
        replace XR := XR.below B
        replace h4 := h4.below B
        replace HB := Lib.hid (bt HB.out B)
        clear B
        have xXR0 := XR.at (i := 0) (v := .bool false) rfl
        have zXR0 := XR.frozen 0
        have xXR1 := XR.at (i := 1) (v := .slice none 0 0) rfl
        have zXR1 := XR.frozen 1
        have xXR2 := XR.at (i := 2) (v := .int .i64 0) rfl
        have zXR2 := XR.frozen 2
        go_wp2
        clear xXR0 zXR0 xXR1 zXR1 xXR2 zXR2
        have SX := StN.mk3 XR (.bool false) (.slice none 0 0) (.int .i64 0)
        replace X6 := X6.stn SX (by omega)
        replace h4 := h4.stn SX (by simp [no32])
        replace HB := Lib.hid (SX.below HB.out (by omega))
        replace XR := SX.box
        clear SX
        generalize (World.setCell (World.setCell (World.setCell w5 ⟨w.heap.size + 1, 0, none⟩ (.bool false)) ⟨w.heap.size + 1, 1, none⟩ (.slice none 0 0)) ⟨w.heap.size + 1, 2, none⟩ (.int .i64 0)) = w6 at *
        go_wp2
        have r0 := XR.cell 0
        have r1 := XR.cell 1
        have r2 := XR.cell 2
        exact bodyPost_ret (v := .tuple #[.agg #[.bool false, .slice none 0 0, .int .i64 0], .int .i64 1]) (by simp [results, Tryz.results13, go_sem, r0, r1, r2]) rfl ⟨false, none, 0, 0, rfl, Wn.zero, by omega, HB.out⟩
      · rw [hf] at hr
        rw [if_pos rfl] at hr
        subst hr
        have HF := Lib.hid hf
        clear hf
        have xX60 := X6.at (i := 0) (v := .bool s3) rfl
        have xX61 := X6.at (i := 1) (v := .slice A4 n4 c4) rfl
        go_wp2_with fail
        refine (uFits h4.rd HF.out).mono ?_
        rintro ee w5 ⟨rfl, B⟩
        clear xX60 xX61
        replace X6 := X6.below B
        replace XR := XR.below B
        replace h4 := h4.below B
        replace HB := Lib.hid (bt HB.out B)
        clear B
        have xX60 := X6.at (i := 0) (v := .bool s3) rfl
        have xX61 := X6.at (i := 1) (v := .slice A4 n4 c4) rfl
        have xXR0 := XR.at (i := 0) (v := .bool false) rfl
        have zXR0 := XR.frozen 0
        have xXR1 := XR.at (i := 1) (v := .slice none 0 0) rfl
        have zXR1 := XR.frozen 1
        have xXR2 := XR.at (i := 2) (v := .int .i64 0) rfl
        have zXR2 := XR.frozen 2
        go_wp2
        clear xX60 xX61 xXR0 zXR0 xXR1 zXR1 xXR2 zXR2
        have SX := StN.mk3 XR (.bool s3) (.slice A4 n4 c4) (.int .i64 (t + (k : Int)))
        replace X6 := X6.stn SX (by omega)
        replace h4 := h4.stn SX (by simp [no32])
        replace HB := Lib.hid (SX.below HB.out (by omega))
        replace XR := SX.box
        clear SX
        generalize (World.setCell (World.setCell (World.setCell w5 ⟨w.heap.size + 1, 0, none⟩ (.bool s3)) ⟨w.heap.size + 1, 1, none⟩ (.slice A4 n4 c4)) ⟨w.heap.size + 1, 2, none⟩ (.int .i64 (t + (k : Int)))) = w6 at *
        have hW := h4.wn s3
        have h04 : 0 < n4 := h4.pos.2 (by omega)
        rw [show (s3 && decide (0 < n4)) = s3 by simp [h04]] at hW
        have h54 : n4 ≤ 5 := by
          have := HF.out
          unfold fitC at this
          simp only [Bool.and_eq_true, decide_eq_true_eq] at this
          exact this.1
        go_wp2
        have r0 := XR.cell 0
        have r1 := XR.cell 1
        have r2 := XR.cell 2
        exact bodyPost_ret (v := .tuple #[.agg #[.bool s3, .slice A4 n4 c4, .int .i64 (t + (k : Int))], .int .i64 0]) (by simp [results, Tryz.results13, go_sem, r0, r1, r2]) rfl ⟨s3, A4, n4, c4, rfl, hW, h54, HB.out⟩

theorem a_ten {a n : Nat} (h : a < 4294967296 ^ n) : a < 10 ^ (10 * n + 1) := by
  have h1 : 4294967296 ^ n ≤ (10 ^ 10) ^ n := Nat.pow_le_pow_left (by decide) n
  rw [← Nat.pow_mul] at h1
  have h2 : 10 ^ (10 * n) ≤ 10 ^ (10 * n + 1) := Nat.pow_le_pow_right (by decide) (by omega)
  omega
theorem uMake {w : World} {A : Option Addr} {n c a : Nat} {s : Bool} {z t : Int} {r : (Int × Int) × Int} (h : Rd w A n c a) (hn : n ≤ 1000) (hz : sg s a = z) (hr : mkA z t = r) : Calls Tryz.prog 13 #[.agg #[.bool s, .slice A n c], .int .i64 t] w (PD w r) := by
  subst hr; subst hz
  by_cases ha : a = 0
  · subst ha
    rw [sg_zero]
    exact uMake_zero h
  · obtain ⟨hu, hv⟩ := u10_spec a ha
    have hA := mkA_of (s := s) (t := t) hu hv
    have hk := v10_lt a ha _ (a_ten h.bound)
    by_cases ht : 1000000 < t ∨ t < -1000000
    · rw [if_neg (by omega)] at hA
      rw [hA]
      exact uMake_far h ha ht
    · refine uMake_main h ha (by omega) (by omega) (by omega) (fun q k e m => ?_) (fun q k e => ?_)
      · rw [mkA_of e m]
        rw [fit_iff rfl]
        by_cases hc : q < 10 ^ 40 ∧ -400 ≤ t + (k : Int) ∧ t + (k : Int) ≤ 400
        · rw [if_pos hc, if_pos (by simp only [Bool.and_eq_true, decide_eq_true_eq]; exact hc)]
        · rw [if_neg hc, if_neg (by simp only [Bool.and_eq_true, decide_eq_true_eq]; exact hc)]
      · have hq : q ≠ 0 := by rintro rfl; simp at e; exact ha e
        have hb := a_ten h.bound
        have h1 : 1 * 10 ^ k ≤ q * 10 ^ k := Nat.mul_le_mul_right _ (by omega)
        exact Nat.le_of_lt ((Nat.pow_lt_pow_iff_right (by decide : 1 < 10)).1 (by omega))
end Go.Proofs.YtdfnjhkcicnkpaaGreatDoor

/-
  What pelorusref04.power answers.
-/
namespace Go.Proofs.YtdfnjhkcicnkpaaGreatDoor
open Go.RowKit
set_option linter.unusedVariables false
set_option linter.unusedSimpArgs false
set_option maxRecDepth 100000

theorem uRunZ {l : List UInt8} {b n : Nat} {z : Int} (w : World) (hz : z = b) (hb : b ≤ l.length) (hl : l.length ≤ 1000) (hn : runL (l.drop b) = n) : Calls Tryz.prog 28 #[.string (st l), .int .i64 z] w fun e w' => e = .returned (.int .i64 (n : Int)) ∧ w' = w := by
  subst hz; subst hn
  exact uRun l b w hb hl
theorem uSmallE {l : List UInt8} {v : Nat} (w : World) (hl : l.length ≤ 3) (hd : ∀ c ∈ l, isDig c = true) (hv : dval l = v) : Calls Tryz.prog 69 #[.string (st l)] w fun e w' => e = .returned (.int .i64 (v : Int)) ∧ w' = w := by
  subst hv
  exact uSmall l w hl hd
theorem ix_z {l : List UInt8} {k c : Nat} {z : Int} (hz : z = k) (hk : k < l.length) (hc : (l[k]).toNat = c) (w : World) : (Instr.index 9 (.string (st l)) (.int .i64 z)).run Tryz.prog w = .ok (.int .u8 (c : Int)) w := by
  subst hz; subst hc
  exact ix_at l k hk w
theorem sl_z {l m : List UInt8} {k : Nat} {z : Int} (hz : z = k) (hk : k ≤ l.length) (hm : l.drop k = m) (w : World) : (Instr.slice 9 (.string (st l)) (some (.int .i64 z)) none none).run Tryz.prog w = .ok (.string (st m)) w := by
  subst hz; subst hm
  exact sl_tail l k hk w
/-- A number and a bool are answered, the world as it was. -/
def PZ (w : World) (z : Int) (p : Bool) (e : Ending) (w' : World) : Prop := e = .returned (.tuple #[.int .i64 z, .bool p]) ∧ w' = w

set_option maxHeartbeats 2000000 in
theorem uPower_end (l : List UInt8) (a : Nat) (w : World) (ha : l.length = a) : Calls Tryz.prog 29 #[.string (st l), .int .i64 (a : Int)] w (PZ w 0 true) := by
  have hsz : (st l).size = a := (st_size l).trans ha
  clear ha
  go_enter Tryz.func29, Tryz.ntmps29
  go_wp2
  go_ret2
  exact ⟨rfl, rfl⟩
set_option maxHeartbeats 2000000 in
theorem uPower_no (l : List UInt8) (a L c : Nat) (w : World) (hL : l.length = L) (ha : a < L) (hix : ∀ w, (Instr.index 9 (.string (st l)) (.int .i64 (a : Int))).run Tryz.prog w = .ok (.int .u8 (c : Int)) w) (hc : ((c : Int) != 101) = true) : Calls Tryz.prog 29 #[.string (st l), .int .i64 (a : Int)] w (PZ w 0 false) := by
  have hsz : (st l).size = L := (st_size l).trans hL
  have t0 : ((a : Int) == (L : Int)) = false := by simp; omega
  clear hL
  go_enter Tryz.func29, Tryz.ntmps29
  go_wp2
  go_ret2
  exact ⟨rfl, rfl⟩

set_option maxHeartbeats 4000000 in
theorem uPower_20 (l : List UInt8) (a L c n v : Nat) (w : World) (hL : l.length = L) (hl : L ≤ 1000) (hix : ∀ w, (Instr.index 9 (.string (st l)) (.int .i64 (a : Int))).run Tryz.prog w = .ok (.int .u8 101) w) (ha : a + 1 = L)
    (hR : ∀ w, Calls Tryz.prog 28 #[.string (st l), .int .i64 ((a : Int) + 1)] w fun e w' => e = .returned (.int .i64 (n : Int)) ∧ w' = w) (hn : n = 0) : Calls Tryz.prog 29 #[.string (st l), .int .i64 (a : Int)] w (PZ w 0 false) := by
  have hsz : (st l).size = L := (st_size l).trans hL
  have t0 : ((a : Int) == (L : Int)) = false := by simp; omega
  have t1 : decide ((a : Int) + 1 < (L : Int)) = false := by simp; omega
  have t2 : decide ((n : Int) < 1) = true := by simp; omega
  have HR := Lib.hid hR
  clear hR hL
  go_enter Tryz.func29, Tryz.ntmps29
  go_wp2_with fail
  refine (HR.out _).mono ?_
  rintro e w1 ⟨rfl, rfl⟩
  go_wp2
  go_ret2
  exact ⟨rfl, rfl⟩

set_option maxHeartbeats 4000000 in
theorem uPower_30 (l : List UInt8) (a L c n v : Nat) (w : World) (hL : l.length = L) (hl : L ≤ 1000) (hix : ∀ w, (Instr.index 9 (.string (st l)) (.int .i64 (a : Int))).run Tryz.prog w = .ok (.int .u8 101) w) (ha : a + 1 < L) (hix1 : ∀ w, (Instr.index 9 (.string (st l)) (.int .i64 ((a : Int) + 1))).run Tryz.prog w = .ok (.int .u8 (c : Int)) w) (hc : ((c : Int) == 45) = false)
    (hR : ∀ w, Calls Tryz.prog 28 #[.string (st l), .int .i64 ((a : Int) + 1)] w fun e w' => e = .returned (.int .i64 (n : Int)) ∧ w' = w) (hn : n = 0) : Calls Tryz.prog 29 #[.string (st l), .int .i64 (a : Int)] w (PZ w 0 false) := by
  have hsz : (st l).size = L := (st_size l).trans hL
  have t0 : ((a : Int) == (L : Int)) = false := by simp; omega
  have t1 : decide ((a : Int) + 1 < (L : Int)) = true := by simp; omega
  have t2 : decide ((n : Int) < 1) = true := by simp; omega
  have HR := Lib.hid hR
  clear hR hL
  go_enter Tryz.func29, Tryz.ntmps29
  go_wp2_with fail
  refine (HR.out _).mono ?_
  rintro e w1 ⟨rfl, rfl⟩
  go_wp2
  go_ret2
  exact ⟨rfl, rfl⟩

set_option maxHeartbeats 4000000 in
theorem uPower_33 (l : List UInt8) (a L c n v : Nat) (w : World) (hL : l.length = L) (hl : L ≤ 1000) (hix : ∀ w, (Instr.index 9 (.string (st l)) (.int .i64 (a : Int))).run Tryz.prog w = .ok (.int .u8 101) w) (ha : a + 1 < L) (hix1 : ∀ w, (Instr.index 9 (.string (st l)) (.int .i64 ((a : Int) + 1))).run Tryz.prog w = .ok (.int .u8 (c : Int)) w) (hc : ((c : Int) == 45) = false)
    (hR : ∀ w, Calls Tryz.prog 28 #[.string (st l), .int .i64 ((a : Int) + 1)] w fun e w' => e = .returned (.int .i64 (n : Int)) ∧ w' = w) (hn : 3 < n) : Calls Tryz.prog 29 #[.string (st l), .int .i64 (a : Int)] w (PZ w 0 false) := by
  have hsz : (st l).size = L := (st_size l).trans hL
  have t0 : ((a : Int) == (L : Int)) = false := by simp; omega
  have t1 : decide ((a : Int) + 1 < (L : Int)) = true := by simp; omega
  have t2 : decide ((n : Int) < 1) = false := by simp; omega
  have t3 : decide ((3 : Int) < (n : Int)) = true := by simp; omega
  have HR := Lib.hid hR
  clear hR hL
  go_enter Tryz.func29, Tryz.ntmps29
  go_wp2_with fail
  refine (HR.out _).mono ?_
  rintro e w1 ⟨rfl, rfl⟩
  go_wp2
  go_ret2
  exact ⟨rfl, rfl⟩

set_option maxHeartbeats 4000000 in
theorem uPower_3l (l : List UInt8) (a L c n v : Nat) (w : World) (hL : l.length = L) (hl : L ≤ 1000) (hix : ∀ w, (Instr.index 9 (.string (st l)) (.int .i64 (a : Int))).run Tryz.prog w = .ok (.int .u8 101) w) (ha : a + 1 < L) (hix1 : ∀ w, (Instr.index 9 (.string (st l)) (.int .i64 ((a : Int) + 1))).run Tryz.prog w = .ok (.int .u8 (c : Int)) w) (hc : ((c : Int) == 45) = false)
    (hR : ∀ w, Calls Tryz.prog 28 #[.string (st l), .int .i64 ((a : Int) + 1)] w fun e w' => e = .returned (.int .i64 (n : Int)) ∧ w' = w) (hn1 : 1 ≤ n) (hn3 : n ≤ 3) (hne : a + 1 + n ≠ L) : Calls Tryz.prog 29 #[.string (st l), .int .i64 (a : Int)] w (PZ w 0 false) := by
  have hsz : (st l).size = L := (st_size l).trans hL
  have t0 : ((a : Int) == (L : Int)) = false := by simp; omega
  have t1 : decide ((a : Int) + 1 < (L : Int)) = true := by simp; omega
  have t2 : decide ((n : Int) < 1) = false := by simp; omega
  have t3 : decide ((3 : Int) < (n : Int)) = false := by simp; omega
  have t4 : ((a : Int) + 1 + (n : Int) != (L : Int)) = true := by simp; omega
  have HR := Lib.hid hR
  clear hR hL
  go_enter Tryz.func29, Tryz.ntmps29
  go_wp2_with fail
  refine (HR.out _).mono ?_
  rintro e w1 ⟨rfl, rfl⟩
  go_wp2
  go_ret2
  exact ⟨rfl, rfl⟩

set_option maxHeartbeats 4000000 in
theorem uPower_3y (l m : List UInt8) (a L c n v : Nat) (w : World) (hL : l.length = L) (hl : L ≤ 1000) (hix : ∀ w, (Instr.index 9 (.string (st l)) (.int .i64 (a : Int))).run Tryz.prog w = .ok (.int .u8 101) w) (ha : a + 1 < L) (hix1 : ∀ w, (Instr.index 9 (.string (st l)) (.int .i64 ((a : Int) + 1))).run Tryz.prog w = .ok (.int .u8 (c : Int)) w) (hc : ((c : Int) == 45) = false)
    (hR : ∀ w, Calls Tryz.prog 28 #[.string (st l), .int .i64 ((a : Int) + 1)] w fun e w' => e = .returned (.int .i64 (n : Int)) ∧ w' = w) (hn1 : 1 ≤ n) (hn3 : n ≤ 3) (hne : a + 1 + n = L) (hS : ∀ w, Calls Tryz.prog 69 #[.string (st m)] w fun e w' => e = .returned (.int .i64 (v : Int)) ∧ w' = w) (hv : v < 1000) (hsl : ∀ w, (Instr.slice 9 (.string (st l)) (some (.int .i64 ((a : Int) + 1))) none none).run Tryz.prog w = .ok (.string (st m)) w) : Calls Tryz.prog 29 #[.string (st l), .int .i64 (a : Int)] w (PZ w (v : Int) true) := by
  have hsz : (st l).size = L := (st_size l).trans hL
  have t0 : ((a : Int) == (L : Int)) = false := by simp; omega
  have t1 : decide ((a : Int) + 1 < (L : Int)) = true := by simp; omega
  have t2 : decide ((n : Int) < 1) = false := by simp; omega
  have t3 : decide ((3 : Int) < (n : Int)) = false := by simp; omega
  have t4 : ((a : Int) + 1 + (n : Int) != (L : Int)) = false := by simp; omega
  have HR := Lib.hid hR
  have HS := Lib.hid hS
  clear hS
  clear hR hL
  go_enter Tryz.func29, Tryz.ntmps29
  go_wp2_with fail
  refine (HR.out _).mono ?_
  rintro e w1 ⟨rfl, rfl⟩
  go_wp2_with fail
  refine (HS.out _).mono ?_
  rintro e w1 ⟨rfl, rfl⟩
  go_wp2
  go_ret2
  exact ⟨rfl, rfl⟩

set_option maxHeartbeats 4000000 in
theorem uPower_40 (l : List UInt8) (a L c n v : Nat) (w : World) (hL : l.length = L) (hl : L ≤ 1000) (hix : ∀ w, (Instr.index 9 (.string (st l)) (.int .i64 (a : Int))).run Tryz.prog w = .ok (.int .u8 101) w) (ha : a + 1 < L) (hix1 : ∀ w, (Instr.index 9 (.string (st l)) (.int .i64 ((a : Int) + 1))).run Tryz.prog w = .ok (.int .u8 (c : Int)) w) (hc : ((c : Int) == 45) = true)
    (hR : ∀ w, Calls Tryz.prog 28 #[.string (st l), .int .i64 ((a : Int) + 1 + 1)] w fun e w' => e = .returned (.int .i64 (n : Int)) ∧ w' = w) (hn : n = 0) : Calls Tryz.prog 29 #[.string (st l), .int .i64 (a : Int)] w (PZ w 0 false) := by
  have hsz : (st l).size = L := (st_size l).trans hL
  have t0 : ((a : Int) == (L : Int)) = false := by simp; omega
  have t1 : decide ((a : Int) + 1 < (L : Int)) = true := by simp; omega
  have t2 : decide ((n : Int) < 1) = true := by simp; omega
  have HR := Lib.hid hR
  clear hR hL
  go_enter Tryz.func29, Tryz.ntmps29
  go_wp2_with fail
  refine (HR.out _).mono ?_
  rintro e w1 ⟨rfl, rfl⟩
  go_wp2
  go_ret2
  exact ⟨rfl, rfl⟩

set_option maxHeartbeats 4000000 in
theorem uPower_43 (l : List UInt8) (a L c n v : Nat) (w : World) (hL : l.length = L) (hl : L ≤ 1000) (hix : ∀ w, (Instr.index 9 (.string (st l)) (.int .i64 (a : Int))).run Tryz.prog w = .ok (.int .u8 101) w) (ha : a + 1 < L) (hix1 : ∀ w, (Instr.index 9 (.string (st l)) (.int .i64 ((a : Int) + 1))).run Tryz.prog w = .ok (.int .u8 (c : Int)) w) (hc : ((c : Int) == 45) = true)
    (hR : ∀ w, Calls Tryz.prog 28 #[.string (st l), .int .i64 ((a : Int) + 1 + 1)] w fun e w' => e = .returned (.int .i64 (n : Int)) ∧ w' = w) (hn : 3 < n) : Calls Tryz.prog 29 #[.string (st l), .int .i64 (a : Int)] w (PZ w 0 false) := by
  have hsz : (st l).size = L := (st_size l).trans hL
  have t0 : ((a : Int) == (L : Int)) = false := by simp; omega
  have t1 : decide ((a : Int) + 1 < (L : Int)) = true := by simp; omega
  have t2 : decide ((n : Int) < 1) = false := by simp; omega
  have t3 : decide ((3 : Int) < (n : Int)) = true := by simp; omega
  have HR := Lib.hid hR
  clear hR hL
  go_enter Tryz.func29, Tryz.ntmps29
  go_wp2_with fail
  refine (HR.out _).mono ?_
  rintro e w1 ⟨rfl, rfl⟩
  go_wp2
  go_ret2
  exact ⟨rfl, rfl⟩

set_option maxHeartbeats 4000000 in
theorem uPower_4l (l : List UInt8) (a L c n v : Nat) (w : World) (hL : l.length = L) (hl : L ≤ 1000) (hix : ∀ w, (Instr.index 9 (.string (st l)) (.int .i64 (a : Int))).run Tryz.prog w = .ok (.int .u8 101) w) (ha : a + 1 < L) (hix1 : ∀ w, (Instr.index 9 (.string (st l)) (.int .i64 ((a : Int) + 1))).run Tryz.prog w = .ok (.int .u8 (c : Int)) w) (hc : ((c : Int) == 45) = true)
    (hR : ∀ w, Calls Tryz.prog 28 #[.string (st l), .int .i64 ((a : Int) + 1 + 1)] w fun e w' => e = .returned (.int .i64 (n : Int)) ∧ w' = w) (hn1 : 1 ≤ n) (hn3 : n ≤ 3) (hne : a + 2 + n ≠ L) : Calls Tryz.prog 29 #[.string (st l), .int .i64 (a : Int)] w (PZ w 0 false) := by
  have hsz : (st l).size = L := (st_size l).trans hL
  have t0 : ((a : Int) == (L : Int)) = false := by simp; omega
  have t1 : decide ((a : Int) + 1 < (L : Int)) = true := by simp; omega
  have t2 : decide ((n : Int) < 1) = false := by simp; omega
  have t3 : decide ((3 : Int) < (n : Int)) = false := by simp; omega
  have t4 : ((a : Int) + 1 + 1 + (n : Int) != (L : Int)) = true := by simp; omega
  have HR := Lib.hid hR
  clear hR hL
  go_enter Tryz.func29, Tryz.ntmps29
  go_wp2_with fail
  refine (HR.out _).mono ?_
  rintro e w1 ⟨rfl, rfl⟩
  go_wp2
  go_ret2
  exact ⟨rfl, rfl⟩

set_option maxHeartbeats 4000000 in
theorem uPower_4y (l m : List UInt8) (a L c n v : Nat) (w : World) (hL : l.length = L) (hl : L ≤ 1000) (hix : ∀ w, (Instr.index 9 (.string (st l)) (.int .i64 (a : Int))).run Tryz.prog w = .ok (.int .u8 101) w) (ha : a + 1 < L) (hix1 : ∀ w, (Instr.index 9 (.string (st l)) (.int .i64 ((a : Int) + 1))).run Tryz.prog w = .ok (.int .u8 (c : Int)) w) (hc : ((c : Int) == 45) = true)
    (hR : ∀ w, Calls Tryz.prog 28 #[.string (st l), .int .i64 ((a : Int) + 1 + 1)] w fun e w' => e = .returned (.int .i64 (n : Int)) ∧ w' = w) (hn1 : 1 ≤ n) (hn3 : n ≤ 3) (hne : a + 2 + n = L) (hS : ∀ w, Calls Tryz.prog 69 #[.string (st m)] w fun e w' => e = .returned (.int .i64 (v : Int)) ∧ w' = w) (hv : v < 1000) (hsl : ∀ w, (Instr.slice 9 (.string (st l)) (some (.int .i64 ((a : Int) + 1 + 1))) none none).run Tryz.prog w = .ok (.string (st m)) w) : Calls Tryz.prog 29 #[.string (st l), .int .i64 (a : Int)] w (PZ w (-(v : Int)) true) := by
  have hsz : (st l).size = L := (st_size l).trans hL
  have t0 : ((a : Int) == (L : Int)) = false := by simp; omega
  have t1 : decide ((a : Int) + 1 < (L : Int)) = true := by simp; omega
  have t2 : decide ((n : Int) < 1) = false := by simp; omega
  have t3 : decide ((3 : Int) < (n : Int)) = false := by simp; omega
  have t4 : ((a : Int) + 1 + 1 + (n : Int) != (L : Int)) = false := by simp; omega
  have HR := Lib.hid hR
  have HS := Lib.hid hS
  clear hS
  clear hR hL
  go_enter Tryz.func29, Tryz.ntmps29
  go_wp2_with fail
  refine (HR.out _).mono ?_
  rintro e w1 ⟨rfl, rfl⟩
  go_wp2_with fail
  refine (HS.out _).mono ?_
  rintro e w1 ⟨rfl, rfl⟩
  go_wp2
  go_ret2
  exact ⟨rfl, rfl⟩

/-- What power hands back. -/
def powV (o : Option Int) : Int × Bool := match o with
  | none => (0, false)
  | some z => (z, true)
theorem uPower (l : List UInt8) (a : Nat) (w : World) (ha : a ≤ l.length) (hl : l.length ≤ 1000) : Calls Tryz.prog 29 #[.string (st l), .int .i64 (a : Int)] w (PZ w (powV (tpow (l.drop a))).1 (powV (tpow (l.drop a))).2) := by
  by_cases h0 : l.length = a
  · have e : l.drop a = [] := by rw [← h0]; simp
    rw [e]
    exact uPower_end l a w h0
  · have halt : a < l.length := by omega
    have hdrop : l.drop a = l[a] :: l.drop (a + 1) := List.drop_eq_getElem_cons halt
    rw [hdrop]
    by_cases hc : l[a] = 101
    · have hix := fun w => ix_z (l := l) (k := a) (c := 101) rfl halt (by rw [hc]; rfl) w
      rw [hc]
      simp only [tpow, if_true]
      -- the sign
      by_cases h1 : a + 1 = l.length
      · have e : l.drop (a + 1) = [] := by rw [h1]; simp
        rw [e]
        have := uPower_20 l a l.length 0 0 0 w rfl hl hix h1 (fun w => uRunZ w (b := a + 1) (n := 0) (by omega) (by omega) hl (by rw [e]; rfl)) rfl
        exact this
      · have h1lt : a + 1 < l.length := by omega
        have hdrop1 : l.drop (a + 1) = l[a + 1] :: l.drop (a + 2) := List.drop_eq_getElem_cons h1lt
        have key : ∀ (neg : Bool) (b : Nat), b ≤ l.length → Lib.hasPrefix (l.drop (a + 1)) [45] = neg → Lib.trimPrefix (l.drop (a + 1)) [45] = l.drop b →
            (∀ n v m, runL (l.drop b) = n → (n = 0 ∨ 3 < n ∨ (1 ≤ n ∧ n ≤ 3 ∧ b + n ≠ l.length) → Calls Tryz.prog 29 #[.string (st l), .int .i64 (a : Int)] w (PZ w 0 false)) ∧ (1 ≤ n → n ≤ 3 → b + n = l.length → l.drop b = m → dval m = v → v < 1000 → (∀ w, Calls Tryz.prog 69 #[.string (st m)] w fun e w' => e = .returned (.int .i64 (v : Int)) ∧ w' = w) → Calls Tryz.prog 29 #[.string (st l), .int .i64 (a : Int)] w (PZ w (if neg then -(v : Int) else v) true))) →
            Calls Tryz.prog 29 #[.string (st l), .int .i64 (a : Int)] w (PZ w (powV (if 1 ≤ runL (Lib.trimPrefix (l.drop (a + 1)) [45]) ∧ runL (Lib.trimPrefix (l.drop (a + 1)) [45]) ≤ 3 ∧ runL (Lib.trimPrefix (l.drop (a + 1)) [45]) = (Lib.trimPrefix (l.drop (a + 1)) [45]).length then some (if Lib.hasPrefix (l.drop (a + 1)) [45] then -(dval (Lib.trimPrefix (l.drop (a + 1)) [45]) : Int) else dval (Lib.trimPrefix (l.drop (a + 1)) [45])) else none)).1 (powV (if 1 ≤ runL (Lib.trimPrefix (l.drop (a + 1)) [45]) ∧ runL (Lib.trimPrefix (l.drop (a + 1)) [45]) ≤ 3 ∧ runL (Lib.trimPrefix (l.drop (a + 1)) [45]) = (Lib.trimPrefix (l.drop (a + 1)) [45]).length then some (if Lib.hasPrefix (l.drop (a + 1)) [45] then -(dval (Lib.trimPrefix (l.drop (a + 1)) [45]) : Int) else dval (Lib.trimPrefix (l.drop (a + 1)) [45])) else none)).2) := by
          intro neg b hb e1 e2 hcalls
          rw [e1, e2]
          have hlen : (l.drop b).length = l.length - b := List.length_drop
          obtain ⟨g1, g2⟩ := hcalls _ _ _ rfl
          by_cases hgood : 1 ≤ runL (l.drop b) ∧ runL (l.drop b) ≤ 3 ∧ runL (l.drop b) = (l.drop b).length
          · rw [if_pos hgood]
            obtain ⟨q1, q2, q3⟩ := hgood
            have hall : ∀ c ∈ l.drop b, isDig c = true := by
              have := runL_take (l.drop b)
              rwa [q3, List.take_of_length_le (Nat.le_refl _)] at this
            have hv : dval (l.drop b) < 1000 := by
              have h1 := dval_lt (l.drop b) hall
              have h2 := Nat.pow_le_pow_right (by decide : 0 < 10) (show (l.drop b).length ≤ 3 by omega)
              omega
            exact g2 q1 q2 (by omega) rfl rfl hv (fun w => uSmallE w (by omega) hall rfl)
          · rw [if_neg hgood]
            refine g1 ?_
            omega
        by_cases hs : l[a + 1] = 45
        · obtain ⟨p1, p2⟩ := pre_yes (l.drop (a + 2)) 45
          have hix1 := fun w => ix_z (l := l) (k := a + 1) (c := 45) (z := (a : Int) + 1) (by omega) h1lt (by rw [hs]; rfl) w
          refine key true (a + 2) (by omega) (by rw [hdrop1, hs]; exact p1) (by rw [hdrop1, hs]; exact p2) (fun n v m hn => ?_)
          have hR := fun w => uRunZ (z := (a : Int) + 1 + 1) w (b := a + 2) (n := n) (by omega) (by omega) hl hn
          refine ⟨?_, ?_⟩
          · rintro (h | h | ⟨h, h', h''⟩)
            · exact uPower_40 l a l.length 45 n 0 w rfl hl hix h1lt hix1 (by decide) hR h
            · exact uPower_43 l a l.length 45 n 0 w rfl hl hix h1lt hix1 (by decide) hR h
            · exact uPower_4l l a l.length 45 n 0 w rfl hl hix h1lt hix1 (by decide) hR h h' h''
          · intro g1 g2 g3 g4 g5 g6 g7
            exact uPower_4y l m a l.length 45 n v w rfl hl hix h1lt hix1 (by decide) hR g1 g2 g3 g7 g6 (fun w => sl_z (by omega) (by omega) g4 w)
        · obtain ⟨p1, p2⟩ := pre_no (l := l.drop (a + 1)) (c := 45) (by rw [hdrop1]; intro x hx; simp only [List.head?_cons, Option.some.injEq] at hx; rw [← hx]; exact hs)
          have hix1 := fun w => ix_z (l := l) (k := a + 1) (c := (l[a + 1]).toNat) (z := (a : Int) + 1) (by omega) h1lt rfl w
          have hcn : (((l[a + 1]).toNat : Int) == 45) = false := by
            have : (l[a + 1]).toNat ≠ 45 := fun e => hs (UInt8.toNat.inj (by rw [e]; rfl))
            simp; omega
          refine key false (a + 1) (by omega) p1 p2 (fun n v m hn => ?_)
          have hR := fun w => uRunZ (z := (a : Int) + 1) w (b := a + 1) (n := n) (by omega) (by omega) hl hn
          refine ⟨?_, ?_⟩
          · rintro (h | h | ⟨h, h', h''⟩)
            · exact uPower_30 l a l.length _ n 0 w rfl hl hix h1lt hix1 hcn hR h
            · exact uPower_33 l a l.length _ n 0 w rfl hl hix h1lt hix1 hcn hR h
            · exact uPower_3l l a l.length _ n 0 w rfl hl hix h1lt hix1 hcn hR h h' h''
          · intro g1 g2 g3 g4 g5 g6 g7
            exact uPower_3y l m a l.length _ n v w rfl hl hix h1lt hix1 hcn hR g1 g2 g3 g7 g6 (fun w => sl_z (by omega) (by omega) g4 w)
    · have hcn : (((l[a]).toNat : Int) != 101) = true := by
        have : (l[a]).toNat ≠ 101 := fun e => hc (UInt8.toNat.inj (by rw [e]; rfl))
        simp; omega
      simp only [tpow, hc, if_false]
      exact uPower_no l a l.length _ w rfl halt (fun w => ix_z rfl halt rfl w) hcn
end Go.Proofs.YtdfnjhkcicnkpaaGreatDoor
