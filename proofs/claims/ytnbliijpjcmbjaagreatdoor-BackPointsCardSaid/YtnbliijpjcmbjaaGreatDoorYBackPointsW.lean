/-
  The walk of BackPoints: for all arguments the call answers true, and nothing that was there has turned.
-/
import Derived.Below
import Derived.BigQuiet
import Derived.Carry
import Derived.Deep.DeepCutAuto
import Derived.Deep.Draws
import Derived.Deep.MidRow
import Derived.Deep.QuietTactic
import Derived.Deep.RegionHeld3
import Derived.Deep.RegionWith
import Derived.IntWalk
import Derived.Laws.CopyOwn
import Derived.Laws.MakeOwn
import Derived.Laws.OwnMore
import Derived.Laws.Rows
import Derived.Lib.BitFns
import Derived.Lib.Hide
import Derived.Maps.AppendAt
import Derived.StillTailTactics
import Derived.Test.YtnbliijpjcmbjaaGreatDoorRows
import Derived.WalkKit
import Derived.WalkLawsBesides
import Derived.WalkSpells
import Derived.Test.YtnbliijpjcmbjaaGreatDoorYAbk
import Derived.Test.YtnbliijpjcmbjaaGreatDoorYAbm
namespace Go.Proofs.YtnbliijpjcmbjaaGreatDoor
set_option maxHeartbeats 8000000
open Go.RowKit
set_option linter.unusedVariables false
set_option linter.unusedSimpArgs false
set_option maxRecDepth 100000
def Jo.Fact.iv2 (x y : Sp) : Jo.Fact := ⟨fun v w => ∃ e0 K s M E K' s' M' E' e1 G g P Q G' g' P' Q', v = .tuple #[.agg #[.bool e0, .int .i64 K, .bool s, .int .u64 M, .int .i64 E, .int .i64 K', .bool s', .int .u64 M', .int .i64 E'], .agg #[.bool e1, .int .i64 G, .bool g, .int .u64 P, .int .i64 Q, .int .i64 G', .bool g', .int .u64 P', .int .i64 Q']] ∧ Ci e0 K s M E K' s' M' E' x ∧ Ci e1 G g P Q G' g' P' Q' y, fun v w w' h b => h⟩
theorem backPoints_far (n0 : Int) (n1 : Int) (n2 : Int) (w : World) {q : Bool → Int → Int → Int} (hq : QF q) {r : Bool → Int → Int} (hr : RF r) (hT : Tab w) (hT2 : Tb w) (h : n0 < (-1000000000 : Int) ∨ (1000000000 : Int) < n0 ∨ n1 < (-1000000000 : Int) ∨ (1000000000 : Int) < n1 ∨ n2 < (-3 : Int) ∨ (3 : Int) < n2) :
   Calls Tryz.prog 9 #[.int .i64 n0, .int .i64 n1, .int .i64 n2] w (PB w true) := by
 have HH := Lib.hid h; have HQ := Lib.hid hq; have HRR := Lib.hid hr; clear h hq hr
 go_enter Tryz.func9, Tryz.ntmps9
 have HB := Lib.hid (Below.refl w.heap.size w)
 go_wp2_with fail
 refine (awake10 hT hT2 HRR.out).mono ?_; rintro ee w2 ⟨rfl, B⟩; replace hT := hT.below B; replace hT2 := hT2.below B; replace HB := Hqb HB B; clear B; clear hT hT2
 by_cases c0 : n0 < (-1000000000 : Int)
 · have t0 : decide (n0 < (-1000000000 : Int)) = true := decide_eq_true c0
   go_wp2
   go_ret
   exact ⟨rfl, HB.out⟩
 · have t0 : decide (n0 < (-1000000000 : Int)) = false := decide_eq_false c0
   by_cases c1 : (1000000000 : Int) < n0
   · have t1 : decide ((1000000000 : Int) < n0) = true := decide_eq_true c1
     go_wp2
     go_ret
     exact ⟨rfl, HB.out⟩
   · have t1 : decide ((1000000000 : Int) < n0) = false := decide_eq_false c1
     by_cases c2 : n1 < (-1000000000 : Int)
     · have t2 : decide (n1 < (-1000000000 : Int)) = true := decide_eq_true c2
       go_wp2
       go_ret
       exact ⟨rfl, HB.out⟩
     · have t2 : decide (n1 < (-1000000000 : Int)) = false := decide_eq_false c2
       by_cases c3 : (1000000000 : Int) < n1
       · have t3 : decide ((1000000000 : Int) < n1) = true := decide_eq_true c3
         go_wp2
         go_ret
         exact ⟨rfl, HB.out⟩
       · have t3 : decide ((1000000000 : Int) < n1) = false := decide_eq_false c3
         by_cases c4 : n2 < (-3 : Int)
         · have t4 : decide (n2 < (-3 : Int)) = true := decide_eq_true c4
           go_wp2
           go_ret
           exact ⟨rfl, HB.out⟩
         · have t4 : decide (n2 < (-3 : Int)) = false := decide_eq_false c4
           by_cases c5 : (3 : Int) < n2
           · have t5 : decide ((3 : Int) < n2) = true := decide_eq_true c5
             go_wp2
             go_ret
             exact ⟨rfl, HB.out⟩
           · exfalso
             have hh := HH.out
             omega
theorem backPoints_y (n0 : Int) (n1 : Int) (n2 : Int) (w : World) (oa ob : Int) (zp zm ml : Sp) {q : Bool → Int → Int → Int} (hq : QF q) {r : Bool → Int → Int} (hr : RF r) (hT : Tab w) (hT2 : Tb w)
   (b0 : -9223372036854775808 ≤ n0 ∧ n0 ≤ 9223372036854775807) (b1 : -9223372036854775808 ≤ n1 ∧ n1 ≤ 9223372036854775807) (bp : -9223372036854775808 ≤ n0 + n1 + n2 ∧ n0 + n1 + n2 ≤ 9223372036854775807) (bm : -9223372036854775808 ≤ n0 - n1 + n2 ∧ n0 - n1 + n2 ≤ 9223372036854775807) (y1 : IntKind.i64.wrap (n0 + n1) = n0 + n1) (y2 : IntKind.i64.wrap (n0 + n1 + n2) = n0 + n1 + n2) (y3 : IntKind.i64.wrap (n0 - n1) = n0 - n1) (y4 : IntKind.i64.wrap (n0 - n1 + n2) = n0 - n1 + n2) (x0 : decide (n0 < (-1000000000 : Int)) = false) (x1 : decide ((1000000000 : Int) < n0) = false) (x2 : decide (n1 < (-1000000000 : Int)) = false) (x3 : decide ((1000000000 : Int) < n1) = false) (x4 : decide (n2 < (-3 : Int)) = false) (x5 : decide ((3 : Int) < n2) = false) (xe : (n2 == 0) = true) (ha : mkI (opl n0) (opl n0) = some (oa, oa)) (hb : mkI (opl n1) (opl n1) = some (ob, ob)) (hzp : mkI (opl (n0 + n1 + n2)) (opl (n0 + n1 + n2)) = zp) (hzm : mkI (opl (n0 - n1 + n2)) (opl (n0 - n1 + n2)) = zm) (hpa : meetI (some (oa, oa)) (subI zp (some (ob, ob))) = some (oa, oa)) (hpb : meetI (some (ob, ob)) (subI zp (some (oa, oa))) = some (ob, ob)) (hma : meetI (some (oa, oa)) (addI zm (some (ob, ob))) = some (oa, oa)) (hmb : meetI (some (ob, ob)) (subI (some (oa, oa)) zm) = some (ob, ob)) (hml : mulI (some (oa, oa)) (some (ob, ob)) = ml) (htm : timesB q ml (some (oa, oa)) (some (ob, ob)) = (some (oa, oa), some (ob, ob))) :
   Calls Tryz.prog 9 #[.int .i64 n0, .int .i64 n1, .int .i64 n2] w (PB w true) := by
 have HB0_ := Lib.hid b0; have HB1_ := Lib.hid b1; have HBP := Lib.hid bp; have HBM := Lib.hid bm; have W1 := Lib.hid y1; have W2 := Lib.hid y2; have W3 := Lib.hid y3; have W4 := Lib.hid y4; have HT0 := Lib.hid x0; have HT1 := Lib.hid x1; have HT2 := Lib.hid x2; have HT3 := Lib.hid x3; have HT4 := Lib.hid x4; have HT5 := Lib.hid x5; have HE0 := Lib.hid xe; have HXA := Lib.hid ha; have HXB := Lib.hid hb
 have HZP := Lib.hid hzp; have HZM := Lib.hid hzm; have HPA := Lib.hid hpa; have HPB := Lib.hid hpb; have HMA := Lib.hid hma; have HMB := Lib.hid hmb; have HML := Lib.hid hml; have HTM := Lib.hid htm; have HQ := Lib.hid hq; have HRR := Lib.hid hr; clear b0 b1 bp bm y1 y2 y3 y4 x0 x1 x2 x3 x4 x5 xe ha hb hzp hzm hpa hpb hma hmb hml htm hq hr
 go_enter Tryz.func9, Tryz.ntmps9
 have HB := Lib.hid (Below.refl w.heap.size w)
 go_wp2_with fail
 refine (awake10 hT hT2 HRR.out).mono ?_; rintro ee w2 ⟨rfl, B⟩; replace hT := hT.below B; replace hT2 := hT2.below B; replace HB := Hqb HB B; clear B; have t0 := HT0.out; have t1 := HT1.out; have t2 := HT2.out; have t3 := HT3.out; have t4 := HT4.out; have t5 := HT5.out
 go_wp2_with fail
 refine (nOf _ HB0_.out.1 HB0_.out.2 rfl).mono ?_; rintro ee w3 ⟨K30, s30, M30, E30, rfl, q30, B⟩; replace hT := hT.below B; replace hT2 := hT2.below B; replace HB := Hqb HB B; clear B
 go_wp2_with fail
 refine (kvPoint q30.top q30.rk HXA.out).mono ?_; rintro ee w4 ⟨e20, K20, s20, M20, E20, K20b, s20b, M20b, E20b, rfl, v20, B⟩; replace hT := hT.below B; replace hT2 := hT2.below B; replace HB := Hqb HB B; clear B; clear q30
 go_upto_region 5 with (fail)
 have lX8 := Nat.le_refl (World.heap w4).size; generalize hWn : w4.alloc _ = w5 at *; obtain ⟨X8, BW⟩ := Bo.nw hWn; clear hWn; replace hT := hT.below BW; replace hT2 := hT2.below BW; replace HB := Hqb HB BW; clear BW; clear lX8; clear t0 t1 t2 t3 t4 t5
 go_wp2_with fail
 refine (nOf _ HB1_.out.1 HB1_.out.2 rfl).mono ?_; rintro ee w6 ⟨K31, s31, M31, E31, rfl, q31, B⟩; replace X8 := X8.below B; replace hT := hT.below B; replace hT2 := hT2.below B; replace HB := Hqb HB B; clear B
 go_wp2_with fail
 refine (kvPoint q31.top q31.rk HXB.out).mono ?_; rintro ee w7 ⟨e21, K21, s21, M21, E21, K21b, s21b, M21b, E21b, rfl, v21, B⟩; replace X8 := X8.below B; replace hT := hT.below B; replace hT2 := hT2.below B; replace HB := Hqb HB B; clear B; clear q31
 go_upto_region 6 with (fail)
 have lX9 := Nat.le_refl (World.heap w7).size; have nX9X8 := X8.lt; generalize hWn : w7.alloc _ = w8 at *; obtain ⟨X9, BW⟩ := Bo.nw hWn; clear hWn; replace X8 := X8.below BW; replace hT := hT.below BW; replace hT2 := hT2.below BW; replace HB := Hqb HB BW; clear BW; clear lX9; have ltX8 := X8.lt; have ltX9 := X9.lt; have hszp := HB.out.size
 refine Jo.region_pair (T := [0, 1, 2, 3, 4, 5, 6, 7, 8, 9, 10, 11, 12, 13, 14, 15]) (ds := [some 55, some 56, some 57, some 58, some 59, some 60, some 61, some 62, some 63, some 64, some 54, some 65, some 66, some 10, some 11, none, none]) (ls := [[], [], [0, 1], [], [2, 3], [4], [5], [], [], [6, 7, 8], [9], [10], [10], [], [], [11, 13, 14], []]) (k := 17) (L := [(some 55, 0), (some 56, 1), (some 57, 2), (some 58, 3), (some 59, 4), (some 60, 5), (some 61, 6), (some 62, 7), (some 63, 8), (some 64, 9), (some 54, 10), (some 65, 11), (some 66, 12), (some 10, 13), (some 11, 14), (none, 15)]) (fuel := 1) (w1 := w8) (p := 13) (q := 14) (s := 15) (e := 11) (old := #[.bool false, .int .i64 0, .bool false, .int .u64 0, .int .i64 0, .int .i64 0, .bool false, .int .u64 0, .int .i64 0]) (R := 26)
   (F := [Jo.qi n0, Jo.qi n1, Jo.Fact.eq (.int .i64 (n0 + n1)), Jo.qi n2, Jo.Fact.eq (.int .i64 (n0 + n1 + n2)), Jo.Fact.num (opl (n0 + n1 + n2)), Jo.Fact.iv zp, Jo.q9 e20 K20 s20 M20 E20 K20b s20b M20b E20b, Jo.q9 e21 K21 s21 M21 E21 K21b s21b M21b E21b, Jo.Fact.iv2 (some (oa, oa)) (some (ob, ob)), Jo.Fact.iv2 (some (oa, oa)) (some (ob, ob)), Jo.Fact.iv (some (oa, oa)), Jo.Fact.iv (some (ob, ob)), Jo.Fact.any, Jo.Fact.any, Jo.Fact.any, Jo.Fact.any])
   (by decide) (by decide) (by decide) (by kernel_rfl) (by kernel_rfl) (by decide) rfl rfl ?_ (fun vs w9 hJ hd hpq => ?_)
 · refine Jo.pcons (i := 0) (o := ⟨some 55, _, _, _, _, _⟩) (di := some 55) (L := []) (f := Jo.qi n0) (by decide) (by decide) (by decide) (fun _ _ _ h => h) rfl rfl rfl rfl (fun vs wj hJ hd K hK => ?_) ?_
   · clear hd; simp only [Jo.putl, Jo.ze, Act.put, Jo.za, Jo.zb, Jo.zc] at hK ⊢; go_simp; exact hK.out _ _ rfl (br _ _)
   refine Jo.pcons (i := 1) (o := ⟨some 56, _, _, _, _, _⟩) (di := some 56) (L := []) (f := Jo.qi n1) (by decide) (by decide) (by decide) (fun _ _ _ h => h) rfl rfl rfl rfl (fun vs wj hJ hd K hK => ?_) ?_
   · clear hd; simp only [Jo.putl, Jo.ze, Act.put, Jo.za, Jo.zb, Jo.zc] at hK ⊢; go_simp; exact hK.out _ _ rfl (br _ _)
   refine Jo.pcons (i := 2) (o := ⟨some 57, _, _, _, _, _⟩) (di := some 57) (L := [(some 55, 0), (some 56, 1)]) (f := Jo.Fact.eq (.int .i64 (n0 + n1))) (by decide) (by decide) (by decide) (fun _ _ _ h => h) rfl rfl rfl rfl (fun vs wj hJ hd K hK => ?_) ?_
   · have d0 : (Jo.qi n0).P (vs 0) wj := hd 0 (by decide)
     have d1 : (Jo.qi n1).P (vs 1) wj := hd 1 (by decide)
     simp only [Jo.putl, Jo.zd, Jo.ze, Act.put, Jo.za, Jo.zb, Jo.zc] at hK ⊢; clear hd; generalize vs 0 = u0 at hK d0 ⊢; generalize vs 1 = u1 at hK d1 ⊢
     replace d0 : u0 = _ := d0
     subst d0
     replace d1 : u1 = _ := d1
     subst d1; have hw := W1.out; go_simp; exact hK.out _ _ rfl (br _ _)
   refine Jo.pcons (i := 3) (o := ⟨some 58, _, _, _, _, _⟩) (di := some 58) (L := []) (f := Jo.qi n2) (by decide) (by decide) (by decide) (fun _ _ _ h => h) rfl rfl rfl rfl (fun vs wj hJ hd K hK => ?_) ?_
   · clear hd; simp only [Jo.putl, Jo.ze, Act.put, Jo.za, Jo.zb, Jo.zc] at hK ⊢; go_simp; exact hK.out _ _ rfl (br _ _)
   refine Jo.pcons (i := 4) (o := ⟨some 59, _, _, _, _, _⟩) (di := some 59) (L := [(some 57, 2), (some 58, 3)]) (f := Jo.Fact.eq (.int .i64 (n0 + n1 + n2))) (by decide) (by decide) (by decide) (fun _ _ _ h => h) rfl rfl rfl rfl (fun vs wj hJ hd K hK => ?_) ?_
   · have d2 : (Jo.Fact.eq (.int .i64 (n0 + n1))).P (vs 2) wj := hd 2 (by decide)
     have d3 : (Jo.qi n2).P (vs 3) wj := hd 3 (by decide)
     simp only [Jo.putl, Jo.zd, Jo.ze, Act.put, Jo.za, Jo.zb, Jo.zc] at hK ⊢; clear hd; generalize vs 2 = u2 at hK d2 ⊢; generalize vs 3 = u3 at hK d3 ⊢
     replace d2 : u2 = _ := d2
     subst d2
     replace d3 : u3 = _ := d3
     subst d3; have hw := W2.out; go_simp; exact hK.out _ _ rfl (br _ _)
   refine Jo.pcons (i := 5) (o := ⟨some 60, _, _, _, _, _⟩) (di := some 60) (L := [(some 59, 4)]) (f := Jo.Fact.num (opl (n0 + n1 + n2))) (by decide) (by decide) (by decide) (fun _ _ _ h => h) rfl rfl rfl rfl (fun vs wj hJ hd K hK => ?_) ?_
   · have d4 : (Jo.Fact.eq (.int .i64 (n0 + n1 + n2))).P (vs 4) wj := hd 4 (by decide)
     clear hd; simp only [Jo.putl, Jo.zd, Jo.ze, Act.put, Jo.za, Jo.zb, Jo.zc] at hK ⊢; generalize vs 4 = u4 at hK d4 ⊢
     replace d4 : u4 = _ := d4
     subst d4; go_simp; refine (nOf _ HBP.out.1 HBP.out.2 rfl).mono ?_; rintro ee wk ⟨K90, s90, M90, E90, rfl, q90, B⟩; exact hK.out _ _ ⟨K90, s90, M90, E90, rfl, q90⟩ B
   refine Jo.pcons (i := 6) (o := ⟨some 61, _, _, _, _, _⟩) (di := some 61) (L := [(some 60, 5)]) (f := Jo.Fact.iv zp) (by decide) (by decide) (by decide) (fun _ _ _ h => h) rfl rfl rfl rfl (fun vs wj hJ hd K hK => ?_) ?_
   · have d5 : (Jo.Fact.num (opl (n0 + n1 + n2))).P (vs 5) wj := hd 5 (by decide)
     clear hd; simp only [Jo.putl, Jo.zd, Jo.ze, Act.put, Jo.za, Jo.zb, Jo.zc] at hK ⊢; generalize vs 5 = u5 at hK d5 ⊢; obtain ⟨K90, s90, M90, E90, rfl, q90⟩ := d5; go_simp; refine (kvPoint q90.top q90.rk HZP.out).mono ?_; rintro ee wk ⟨e30, K30, s30, M30, E30, K30b, s30b, M30b, E30b, rfl, v30, B⟩; exact hK.out _ _ ⟨e30, K30, s30, M30, E30, K30b, s30b, M30b, E30b, rfl, v30⟩ B
   refine Jo.pcons (i := 7) (o := ⟨some 62, _, _, _, _, _⟩) (di := some 62) (L := []) (f := Jo.q9 e20 K20 s20 M20 E20 K20b s20b M20b E20b) (by decide) (by decide) (by decide) (fun _ _ _ h => h) rfl rfl rfl rfl (fun vs wj hJ hd K hK => ?_) ?_
   · clear hd; simp only [Jo.putl, Jo.ze, Act.put, Jo.za, Jo.zb, Jo.zc] at hK ⊢
     have xX80 : World.cell? wj ⟨w4.heap.size, 0, none⟩ = some (.bool e20) := (X8.below hJ).cell 0
     have xX81 : World.cell? wj ⟨w4.heap.size, 1, none⟩ = some (.int .i64 K20) := (X8.below hJ).cell 1
     have xX82 : World.cell? wj ⟨w4.heap.size, 2, none⟩ = some (.bool s20) := (X8.below hJ).cell 2
     have xX83 : World.cell? wj ⟨w4.heap.size, 3, none⟩ = some (.int .u64 M20) := (X8.below hJ).cell 3
     have xX84 : World.cell? wj ⟨w4.heap.size, 4, none⟩ = some (.int .i64 E20) := (X8.below hJ).cell 4
     have xX85 : World.cell? wj ⟨w4.heap.size, 5, none⟩ = some (.int .i64 K20b) := (X8.below hJ).cell 5
     have xX86 : World.cell? wj ⟨w4.heap.size, 6, none⟩ = some (.bool s20b) := (X8.below hJ).cell 6
     have xX87 : World.cell? wj ⟨w4.heap.size, 7, none⟩ = some (.int .u64 M20b) := (X8.below hJ).cell 7
     have xX88 : World.cell? wj ⟨w4.heap.size, 8, none⟩ = some (.int .i64 E20b) := (X8.below hJ).cell 8
     go_simp; exact hK.out _ _ rfl (br _ _)
   refine Jo.pcons (i := 8) (o := ⟨some 63, _, _, _, _, _⟩) (di := some 63) (L := []) (f := Jo.q9 e21 K21 s21 M21 E21 K21b s21b M21b E21b) (by decide) (by decide) (by decide) (fun _ _ _ h => h) rfl rfl rfl rfl (fun vs wj hJ hd K hK => ?_) ?_
   · clear hd; simp only [Jo.putl, Jo.ze, Act.put, Jo.za, Jo.zb, Jo.zc] at hK ⊢
     have xX90 : World.cell? wj ⟨w7.heap.size, 0, none⟩ = some (.bool e21) := (X9.below hJ).cell 0
     have xX91 : World.cell? wj ⟨w7.heap.size, 1, none⟩ = some (.int .i64 K21) := (X9.below hJ).cell 1
     have xX92 : World.cell? wj ⟨w7.heap.size, 2, none⟩ = some (.bool s21) := (X9.below hJ).cell 2
     have xX93 : World.cell? wj ⟨w7.heap.size, 3, none⟩ = some (.int .u64 M21) := (X9.below hJ).cell 3
     have xX94 : World.cell? wj ⟨w7.heap.size, 4, none⟩ = some (.int .i64 E21) := (X9.below hJ).cell 4
     have xX95 : World.cell? wj ⟨w7.heap.size, 5, none⟩ = some (.int .i64 K21b) := (X9.below hJ).cell 5
     have xX96 : World.cell? wj ⟨w7.heap.size, 6, none⟩ = some (.bool s21b) := (X9.below hJ).cell 6
     have xX97 : World.cell? wj ⟨w7.heap.size, 7, none⟩ = some (.int .u64 M21b) := (X9.below hJ).cell 7
     have xX98 : World.cell? wj ⟨w7.heap.size, 8, none⟩ = some (.int .i64 E21b) := (X9.below hJ).cell 8
     go_simp; exact hK.out _ _ rfl (br _ _)
   refine Jo.pcons (i := 9) (o := ⟨some 64, _, _, _, _, _⟩) (di := some 64) (L := [(some 61, 6), (some 62, 7), (some 63, 8)]) (f := Jo.Fact.iv2 (some (oa, oa)) (some (ob, ob))) (by decide) (by decide) (by decide) (fun _ _ _ h => h) rfl rfl rfl rfl (fun vs wj hJ hd K hK => ?_) ?_
   · have d6 : (Jo.Fact.iv zp).P (vs 6) wj := hd 6 (by decide)
     have d7 : (Jo.q9 e20 K20 s20 M20 E20 K20b s20b M20b E20b).P (vs 7) wj := hd 7 (by decide)
     have d8 : (Jo.q9 e21 K21 s21 M21 E21 K21b s21b M21b E21b).P (vs 8) wj := hd 8 (by decide)
     simp only [Jo.putl, Jo.zd, Jo.ze, Act.put, Jo.za, Jo.zb, Jo.zc] at hK ⊢; clear hd; generalize vs 6 = u6 at hK d6 ⊢; generalize vs 7 = u7 at hK d7 ⊢; generalize vs 8 = u8 at hK d8 ⊢; obtain ⟨e30, K30, s30, M30, E30, K30b, s30b, M30b, E30b, rfl, v30⟩ := d6
     replace d7 : u7 = _ := d7
     subst d7
     replace d8 : u8 = _ := d8
     subst d8; go_simp; refine (bkPlus (hT2.below hJ) v30.top.1 v30.top.2 v20.top.1 v20.top.2 v21.top.1 v21.top.2 v30.rk v20.rk v21.rk HPA.out HPB.out).mono ?_; rintro ee wk ⟨e31, K31, s31, M31, E31, K31b, s31b, M31b, E31b, e32, K32, s32, M32, E32, K32b, s32b, M32b, E32b, rfl, v31, v32, B⟩; exact hK.out _ _ ⟨e31, K31, s31, M31, E31, K31b, s31b, M31b, E31b, e32, K32, s32, M32, E32, K32b, s32b, M32b, E32b, rfl, v31, v32⟩ B
   refine Jo.pcons (i := 10) (o := ⟨some 54, _, _, _, _, _⟩) (di := some 54) (L := [(some 64, 9)]) (f := Jo.Fact.iv2 (some (oa, oa)) (some (ob, ob))) (by decide) (by decide) (by decide) (fun _ _ _ h => h) rfl rfl rfl rfl (fun vs wj hJ hd K hK => ?_) ?_
   · have d9 : (Jo.Fact.iv2 (some (oa, oa)) (some (ob, ob))).P (vs 9) wj := hd 9 (by decide)
     clear hd; simp only [Jo.putl, Jo.zd, Jo.ze, Act.put, Jo.za, Jo.zb, Jo.zc] at hK ⊢; generalize vs 9 = u9 at hK d9 ⊢; obtain ⟨e31, K31, s31, M31, E31, K31b, s31b, M31b, E31b, e32, K32, s32, M32, E32, K32b, s32b, M32b, E32b, rfl, v31, v32⟩ := d9; go_simp; exact hK.out _ _ ⟨_, _, _, _, _, _, _, _, _, _, _, _, _, _, _, _, _, _, rfl, v31, v32⟩ (br _ _)
   refine Jo.pcons (i := 11) (o := ⟨some 65, _, _, _, _, _⟩) (di := some 65) (L := [(some 54, 10)]) (f := Jo.Fact.iv (some (oa, oa))) (by decide) (by decide) (by decide) (fun _ _ _ h => h) rfl rfl rfl rfl (fun vs wj hJ hd K hK => ?_) ?_
   · have d10 : (Jo.Fact.iv2 (some (oa, oa)) (some (ob, ob))).P (vs 10) wj := hd 10 (by decide)
     clear hd; simp only [Jo.putl, Jo.zd, Jo.ze, Act.put, Jo.za, Jo.zb, Jo.zc] at hK ⊢; generalize vs 10 = u10 at hK d10 ⊢; obtain ⟨e31, K31, s31, M31, E31, K31b, s31b, M31b, E31b, e32, K32, s32, M32, E32, K32b, s32b, M32b, E32b, rfl, v31, v32⟩ := d10; go_simp; exact hK.out _ _ ⟨_, _, _, _, _, _, _, _, _, rfl, v31⟩ (br _ _)
   refine Jo.pcons (i := 12) (o := ⟨some 66, _, _, _, _, _⟩) (di := some 66) (L := [(some 54, 10)]) (f := Jo.Fact.iv (some (ob, ob))) (by decide) (by decide) (by decide) (fun _ _ _ h => h) rfl rfl rfl rfl (fun vs wj hJ hd K hK => ?_) ?_
   · have d10 : (Jo.Fact.iv2 (some (oa, oa)) (some (ob, ob))).P (vs 10) wj := hd 10 (by decide)
     clear hd; simp only [Jo.putl, Jo.zd, Jo.ze, Act.put, Jo.za, Jo.zb, Jo.zc] at hK ⊢; generalize vs 10 = u10 at hK d10 ⊢; obtain ⟨e31, K31, s31, M31, E31, K31b, s31b, M31b, E31b, e32, K32, s32, M32, E32, K32b, s32b, M32b, E32b, rfl, v31, v32⟩ := d10; go_simp; exact hK.out _ _ ⟨_, _, _, _, _, _, _, _, _, rfl, v32⟩ (br _ _)
   refine Jo.pnew (i := 13) (o := ⟨some 10, _, _, _, _, _⟩) (di := some 10) (L := []) (by decide) (by decide) (by decide) (by decide) rfl rfl rfl rfl (fun vs wj K hK => ?_) ?_
   · simp only [Jo.putl, Jo.ze, Act.put, Jo.za, Jo.zb, Jo.zc] at hK ⊢; go_simp; exact hK.out
   refine Jo.pnew (i := 14) (o := ⟨some 11, _, _, _, _, _⟩) (di := some 11) (L := []) (by decide) (by decide) (by decide) (by decide) rfl rfl rfl rfl (fun vs wj K hK => ?_) ?_
   · simp only [Jo.putl, Jo.ze, Act.put, Jo.za, Jo.zb, Jo.zc] at hK ⊢; go_simp; exact hK.out
   refine Jo.psto (o := ⟨none, _, _, _, _, _⟩) (di := none) (L := [(some 65, 11), (some 10, 13), (some 11, 14)]) (by decide) (by decide) (by decide) rfl rfl rfl rfl (fun vs wj hJ hd g hg X K hK => ?_) ?_
   · have d11 : (Jo.Fact.iv (some (oa, oa))).P (vs 11) wj := hd 11 (by decide)
     clear hd; simp only [Jo.putl, Jo.zd, Jo.ze, Act.put, Jo.za, Jo.zb, Jo.zc] at hK ⊢; simp only [hg] at hK ⊢; clear hg; generalize vs 11 = u11 at hK d11 ⊢; generalize vs 14 = u14 at hK ⊢; obtain ⟨e31, K31, s31, M31, E31, K31b, s31b, M31b, E31b, rfl, v31⟩ := d11; have y0 := X.a 0 (.bool false) rfl; have z0 := X.frozen 0; have y1 := X.a 1 (.int .i64 0) rfl; have z1 := X.frozen 1; have y2 := X.a 2 (.bool false) rfl
     have z2 := X.frozen 2; have y3 := X.a 3 (.int .u64 0) rfl; have z3 := X.frozen 3; have y4 := X.a 4 (.int .i64 0) rfl; have z4 := X.frozen 4; have y5 := X.a 5 (.int .i64 0) rfl; have z5 := X.frozen 5; have y6 := X.a 6 (.bool false) rfl; have z6 := X.frozen 6; have y7 := X.a 7 (.int .u64 0) rfl; have z7 := X.frozen 7; have y8 := X.a 8 (.int .i64 0) rfl; have z8 := X.frozen 8; go_simp; have SX := StN.mk9 X (.bool e31) (.int .i64 K31) (.bool s31) (.int .u64 M31) (.int .i64 E31) (.int .i64 K31b) (.bool s31b) (.int .u64 M31b) (.int .i64 E31b)
     exact hK.out undef _ _ rfl SX
   exact Jo.StepsI.nil
 have d0 : (Jo.qi n0).P (vs 0) w9 := hd 0 (by decide)
 have d1 : (Jo.qi n1).P (vs 1) w9 := hd 1 (by decide)
 have d2 : (Jo.Fact.eq (.int .i64 (n0 + n1))).P (vs 2) w9 := hd 2 (by decide)
 have d3 : (Jo.qi n2).P (vs 3) w9 := hd 3 (by decide)
 have d4 : (Jo.Fact.eq (.int .i64 (n0 + n1 + n2))).P (vs 4) w9 := hd 4 (by decide)
 have d5 : (Jo.Fact.num (opl (n0 + n1 + n2))).P (vs 5) w9 := hd 5 (by decide)
 have d6 : (Jo.Fact.iv zp).P (vs 6) w9 := hd 6 (by decide)
 have d7 : (Jo.q9 e20 K20 s20 M20 E20 K20b s20b M20b E20b).P (vs 7) w9 := hd 7 (by decide)
 have d8 : (Jo.q9 e21 K21 s21 M21 E21 K21b s21b M21b E21b).P (vs 8) w9 := hd 8 (by decide)
 have d9 : (Jo.Fact.iv2 (some (oa, oa)) (some (ob, ob))).P (vs 9) w9 := hd 9 (by decide)
 have d10 : (Jo.Fact.iv2 (some (oa, oa)) (some (ob, ob))).P (vs 10) w9 := hd 10 (by decide)
 have d11 : (Jo.Fact.iv (some (oa, oa))).P (vs 11) w9 := hd 11 (by decide)
 have d12 : (Jo.Fact.iv (some (ob, ob))).P (vs 12) w9 := hd 12 (by decide)
 clear hd; obtain ⟨g10, g11, csp, ep, eq_, hg10, hg11, hneg10, ee, X10, X11⟩ := hpq; simp only [Jo.putl, Jo.zd, Jo.ze, Act.put, Jo.za, Jo.zb, Jo.zc]; simp only [ep, eq_]; clear ep eq_; generalize vs 0 = u0 at d0 ⊢; generalize vs 1 = u1 at d1 ⊢; generalize vs 2 = u2 at d2 ⊢; generalize vs 3 = u3 at d3 ⊢; generalize vs 4 = u4 at d4 ⊢; generalize vs 5 = u5 at d5 ⊢; generalize vs 6 = u6 at d6 ⊢; generalize vs 7 = u7 at d7 ⊢
 generalize vs 8 = u8 at d8 ⊢; generalize vs 9 = u9 at d9 ⊢; generalize vs 10 = u10 at d10 ⊢; generalize vs 11 = u11 at d11 ee ⊢; generalize vs 12 = u12 at d12 ⊢; generalize vs 15 = u15 at ⊢; clear vs
 replace d0 : u0 = _ := d0
 subst d0
 replace d1 : u1 = _ := d1
 subst d1
 replace d2 : u2 = _ := d2
 subst d2
 replace d3 : u3 = _ := d3
 subst d3
 replace d4 : u4 = _ := d4
 subst d4; obtain ⟨K90, s90, M90, E90, rfl, _⟩ := d5; obtain ⟨e30, K30, s30, M30, E30, K30b, s30b, M30b, E30b, rfl, v30⟩ := d6
 replace d7 : u7 = _ := d7
 subst d7
 replace d8 : u8 = _ := d8
 subst d8
 obtain - := d9
 obtain - := d10
 obtain ⟨e31, K31, s31, M31, E31, K31b, s31b, M31b, E31b, rfl, v31⟩ := d11; obtain ⟨e32, K32, s32, M32, E32, K32b, s32b, M32b, E32b, rfl, v32⟩ := d12
 injection ee with ee
 subst ee; replace X8 := X8.below hJ; replace X9 := X9.below hJ; replace hT := hT.below hJ; replace hT2 := hT2.below hJ; replace HB := Hqb HB hJ; have xX11 := X11.cell; have zX110 := X11.frozen
 refine Jo.jnext (i := 16) (o := ⟨none, _, _, _, _, _⟩) (by kernel_rfl) rfl (fun K hK => ?_)
 go_simp; refine hK.out _ _ ?_; clear hK K xX11 zX110; generalize hS : ((((((((w9.setCell _ _).setCell _ _).setCell _ _).setCell _ _).setCell _ _).setCell _ _).setCell _ _).setCell _ _).setCell _ _ = wA at *; have SX := StN.of9 X11 hS; replace X8 := X8.stn SX (by omega); replace X9 := X9.stn SX (by omega); replace X10 := X10.stn SX (by omega); replace hT := hT.stn SX (by simp [no8])
 replace hT2 := hT2.stn SX (by simp [no8]); replace HB := Hqs HB SX (by omega); replace X11 := SX.box; clear SX hS; refine Jo.jdone (by kernel_rfl) ?_; clear hszp ltX8 ltX9; obtain ⟨rfl, rfl, rfl, rfl, rfl, rfl, rfl, rfl, rfl⟩ := v20.uniq v31; clear v31; obtain ⟨rfl, rfl, rfl, rfl, rfl, rfl, rfl, rfl, rfl⟩ := v21.uniq v32; clear v32
 go_upto_region 7 with (fail)
 have ltX8 := X8.lt; have ltX9 := X9.lt; have ltX10 := X10.lt; have ltX11 := X11.lt; have hszp := HB.out.size
 refine Jo.region_pair (T := [0, 1, 2, 3, 4, 5, 6, 7, 8, 9, 10, 11, 12, 13, 14, 15]) (ds := [some 68, some 69, some 70, some 71, some 72, some 73, some 74, some 75, some 76, some 77, some 67, some 78, some 79, some 12, some 13, none, none]) (ls := [[], [], [0, 1], [], [2, 3], [4], [5], [], [], [6, 7, 8], [9], [10], [10], [], [], [11, 13, 14], []]) (k := 17) (L := [(some 68, 0), (some 69, 1), (some 70, 2), (some 71, 3), (some 72, 4), (some 73, 5), (some 74, 6), (some 75, 7), (some 76, 8), (some 77, 9), (some 67, 10), (some 78, 11), (some 79, 12), (some 12, 13), (some 13, 14), (none, 15)]) (fuel := 1) (w1 := wA) (p := 13) (q := 14) (s := 15) (e := 11) (old := #[.bool false, .int .i64 0, .bool false, .int .u64 0, .int .i64 0, .int .i64 0, .bool false, .int .u64 0, .int .i64 0]) (R := 26)
   (F := [Jo.qi n0, Jo.qi n1, Jo.Fact.eq (.int .i64 (n0 - n1)), Jo.qi n2, Jo.Fact.eq (.int .i64 (n0 - n1 + n2)), Jo.Fact.num (opl (n0 - n1 + n2)), Jo.Fact.iv zm, Jo.q9 e20 K20 s20 M20 E20 K20b s20b M20b E20b, Jo.q9 e21 K21 s21 M21 E21 K21b s21b M21b E21b, Jo.Fact.iv2 (some (oa, oa)) (some (ob, ob)), Jo.Fact.iv2 (some (oa, oa)) (some (ob, ob)), Jo.Fact.iv (some (oa, oa)), Jo.Fact.iv (some (ob, ob)), Jo.Fact.any, Jo.Fact.any, Jo.Fact.any, Jo.Fact.any])
   (by decide) (by decide) (by decide) (by kernel_rfl) (by kernel_rfl) (by decide) rfl rfl ?_ (fun vs wB hJ hd hpq => ?_)
 · refine Jo.pcons (i := 0) (o := ⟨some 68, _, _, _, _, _⟩) (di := some 68) (L := []) (f := Jo.qi n0) (by decide) (by decide) (by decide) (fun _ _ _ h => h) rfl rfl rfl rfl (fun vs wj hJ hd K hK => ?_) ?_
   · clear hd; simp only [Jo.putl, Jo.ze, Act.put, Jo.za, Jo.zb, Jo.zc] at hK ⊢; go_simp; exact hK.out _ _ rfl (br _ _)
   refine Jo.pcons (i := 1) (o := ⟨some 69, _, _, _, _, _⟩) (di := some 69) (L := []) (f := Jo.qi n1) (by decide) (by decide) (by decide) (fun _ _ _ h => h) rfl rfl rfl rfl (fun vs wj hJ hd K hK => ?_) ?_
   · clear hd; simp only [Jo.putl, Jo.ze, Act.put, Jo.za, Jo.zb, Jo.zc] at hK ⊢; go_simp; exact hK.out _ _ rfl (br _ _)
   refine Jo.pcons (i := 2) (o := ⟨some 70, _, _, _, _, _⟩) (di := some 70) (L := [(some 68, 0), (some 69, 1)]) (f := Jo.Fact.eq (.int .i64 (n0 - n1))) (by decide) (by decide) (by decide) (fun _ _ _ h => h) rfl rfl rfl rfl (fun vs wj hJ hd K hK => ?_) ?_
   · have d0 : (Jo.qi n0).P (vs 0) wj := hd 0 (by decide)
     have d1 : (Jo.qi n1).P (vs 1) wj := hd 1 (by decide)
     simp only [Jo.putl, Jo.zd, Jo.ze, Act.put, Jo.za, Jo.zb, Jo.zc] at hK ⊢; clear hd; generalize vs 0 = u0 at hK d0 ⊢; generalize vs 1 = u1 at hK d1 ⊢
     replace d0 : u0 = _ := d0
     subst d0
     replace d1 : u1 = _ := d1
     subst d1; have hw := W3.out; go_simp; exact hK.out _ _ rfl (br _ _)
   refine Jo.pcons (i := 3) (o := ⟨some 71, _, _, _, _, _⟩) (di := some 71) (L := []) (f := Jo.qi n2) (by decide) (by decide) (by decide) (fun _ _ _ h => h) rfl rfl rfl rfl (fun vs wj hJ hd K hK => ?_) ?_
   · clear hd; simp only [Jo.putl, Jo.ze, Act.put, Jo.za, Jo.zb, Jo.zc] at hK ⊢; go_simp; exact hK.out _ _ rfl (br _ _)
   refine Jo.pcons (i := 4) (o := ⟨some 72, _, _, _, _, _⟩) (di := some 72) (L := [(some 70, 2), (some 71, 3)]) (f := Jo.Fact.eq (.int .i64 (n0 - n1 + n2))) (by decide) (by decide) (by decide) (fun _ _ _ h => h) rfl rfl rfl rfl (fun vs wj hJ hd K hK => ?_) ?_
   · have d2 : (Jo.Fact.eq (.int .i64 (n0 - n1))).P (vs 2) wj := hd 2 (by decide)
     have d3 : (Jo.qi n2).P (vs 3) wj := hd 3 (by decide)
     simp only [Jo.putl, Jo.zd, Jo.ze, Act.put, Jo.za, Jo.zb, Jo.zc] at hK ⊢; clear hd; generalize vs 2 = u2 at hK d2 ⊢; generalize vs 3 = u3 at hK d3 ⊢
     replace d2 : u2 = _ := d2
     subst d2
     replace d3 : u3 = _ := d3
     subst d3; have hw := W4.out; go_simp; exact hK.out _ _ rfl (br _ _)
   refine Jo.pcons (i := 5) (o := ⟨some 73, _, _, _, _, _⟩) (di := some 73) (L := [(some 72, 4)]) (f := Jo.Fact.num (opl (n0 - n1 + n2))) (by decide) (by decide) (by decide) (fun _ _ _ h => h) rfl rfl rfl rfl (fun vs wj hJ hd K hK => ?_) ?_
   · have d4 : (Jo.Fact.eq (.int .i64 (n0 - n1 + n2))).P (vs 4) wj := hd 4 (by decide)
     clear hd; simp only [Jo.putl, Jo.zd, Jo.ze, Act.put, Jo.za, Jo.zb, Jo.zc] at hK ⊢; generalize vs 4 = u4 at hK d4 ⊢
     replace d4 : u4 = _ := d4
     subst d4; go_simp; refine (nOf _ HBM.out.1 HBM.out.2 rfl).mono ?_; rintro ee wk ⟨K100, s100, M100, E100, rfl, q100, B⟩; exact hK.out _ _ ⟨K100, s100, M100, E100, rfl, q100⟩ B
   refine Jo.pcons (i := 6) (o := ⟨some 74, _, _, _, _, _⟩) (di := some 74) (L := [(some 73, 5)]) (f := Jo.Fact.iv zm) (by decide) (by decide) (by decide) (fun _ _ _ h => h) rfl rfl rfl rfl (fun vs wj hJ hd K hK => ?_) ?_
   · have d5 : (Jo.Fact.num (opl (n0 - n1 + n2))).P (vs 5) wj := hd 5 (by decide)
     clear hd; simp only [Jo.putl, Jo.zd, Jo.ze, Act.put, Jo.za, Jo.zb, Jo.zc] at hK ⊢; generalize vs 5 = u5 at hK d5 ⊢; obtain ⟨K100, s100, M100, E100, rfl, q100⟩ := d5; go_simp; refine (kvPoint q100.top q100.rk HZM.out).mono ?_; rintro ee wk ⟨e40, K40, s40, M40, E40, K40b, s40b, M40b, E40b, rfl, v40, B⟩; exact hK.out _ _ ⟨e40, K40, s40, M40, E40, K40b, s40b, M40b, E40b, rfl, v40⟩ B
   refine Jo.pcons (i := 7) (o := ⟨some 75, _, _, _, _, _⟩) (di := some 75) (L := []) (f := Jo.q9 e20 K20 s20 M20 E20 K20b s20b M20b E20b) (by decide) (by decide) (by decide) (fun _ _ _ h => h) rfl rfl rfl rfl (fun vs wj hJ hd K hK => ?_) ?_
   · clear hd; simp only [Jo.putl, Jo.ze, Act.put, Jo.za, Jo.zb, Jo.zc] at hK ⊢
     have xX80 : World.cell? wj ⟨w4.heap.size, 0, none⟩ = some (.bool e20) := (X8.below hJ).cell 0
     have xX81 : World.cell? wj ⟨w4.heap.size, 1, none⟩ = some (.int .i64 K20) := (X8.below hJ).cell 1
     have xX82 : World.cell? wj ⟨w4.heap.size, 2, none⟩ = some (.bool s20) := (X8.below hJ).cell 2
     have xX83 : World.cell? wj ⟨w4.heap.size, 3, none⟩ = some (.int .u64 M20) := (X8.below hJ).cell 3
     have xX84 : World.cell? wj ⟨w4.heap.size, 4, none⟩ = some (.int .i64 E20) := (X8.below hJ).cell 4
     have xX85 : World.cell? wj ⟨w4.heap.size, 5, none⟩ = some (.int .i64 K20b) := (X8.below hJ).cell 5
     have xX86 : World.cell? wj ⟨w4.heap.size, 6, none⟩ = some (.bool s20b) := (X8.below hJ).cell 6
     have xX87 : World.cell? wj ⟨w4.heap.size, 7, none⟩ = some (.int .u64 M20b) := (X8.below hJ).cell 7
     have xX88 : World.cell? wj ⟨w4.heap.size, 8, none⟩ = some (.int .i64 E20b) := (X8.below hJ).cell 8
     go_simp; exact hK.out _ _ rfl (br _ _)
   refine Jo.pcons (i := 8) (o := ⟨some 76, _, _, _, _, _⟩) (di := some 76) (L := []) (f := Jo.q9 e21 K21 s21 M21 E21 K21b s21b M21b E21b) (by decide) (by decide) (by decide) (fun _ _ _ h => h) rfl rfl rfl rfl (fun vs wj hJ hd K hK => ?_) ?_
   · clear hd; simp only [Jo.putl, Jo.ze, Act.put, Jo.za, Jo.zb, Jo.zc] at hK ⊢
     have xX90 : World.cell? wj ⟨w7.heap.size, 0, none⟩ = some (.bool e21) := (X9.below hJ).cell 0
     have xX91 : World.cell? wj ⟨w7.heap.size, 1, none⟩ = some (.int .i64 K21) := (X9.below hJ).cell 1
     have xX92 : World.cell? wj ⟨w7.heap.size, 2, none⟩ = some (.bool s21) := (X9.below hJ).cell 2
     have xX93 : World.cell? wj ⟨w7.heap.size, 3, none⟩ = some (.int .u64 M21) := (X9.below hJ).cell 3
     have xX94 : World.cell? wj ⟨w7.heap.size, 4, none⟩ = some (.int .i64 E21) := (X9.below hJ).cell 4
     have xX95 : World.cell? wj ⟨w7.heap.size, 5, none⟩ = some (.int .i64 K21b) := (X9.below hJ).cell 5
     have xX96 : World.cell? wj ⟨w7.heap.size, 6, none⟩ = some (.bool s21b) := (X9.below hJ).cell 6
     have xX97 : World.cell? wj ⟨w7.heap.size, 7, none⟩ = some (.int .u64 M21b) := (X9.below hJ).cell 7
     have xX98 : World.cell? wj ⟨w7.heap.size, 8, none⟩ = some (.int .i64 E21b) := (X9.below hJ).cell 8
     go_simp; exact hK.out _ _ rfl (br _ _)
   refine Jo.pcons (i := 9) (o := ⟨some 77, _, _, _, _, _⟩) (di := some 77) (L := [(some 74, 6), (some 75, 7), (some 76, 8)]) (f := Jo.Fact.iv2 (some (oa, oa)) (some (ob, ob))) (by decide) (by decide) (by decide) (fun _ _ _ h => h) rfl rfl rfl rfl (fun vs wj hJ hd K hK => ?_) ?_
   · have d6 : (Jo.Fact.iv zm).P (vs 6) wj := hd 6 (by decide)
     have d7 : (Jo.q9 e20 K20 s20 M20 E20 K20b s20b M20b E20b).P (vs 7) wj := hd 7 (by decide)
     have d8 : (Jo.q9 e21 K21 s21 M21 E21 K21b s21b M21b E21b).P (vs 8) wj := hd 8 (by decide)
     simp only [Jo.putl, Jo.zd, Jo.ze, Act.put, Jo.za, Jo.zb, Jo.zc] at hK ⊢; clear hd; generalize vs 6 = u6 at hK d6 ⊢; generalize vs 7 = u7 at hK d7 ⊢; generalize vs 8 = u8 at hK d8 ⊢; obtain ⟨e40, K40, s40, M40, E40, K40b, s40b, M40b, E40b, rfl, v40⟩ := d6
     replace d7 : u7 = _ := d7
     subst d7
     replace d8 : u8 = _ := d8
     subst d8; go_simp; refine (bkMinus (hT2.below hJ) v40.top.1 v40.top.2 v20.top.1 v20.top.2 v21.top.1 v21.top.2 v40.rk v20.rk v21.rk HMA.out HMB.out).mono ?_; rintro ee wk ⟨e41, K41, s41, M41, E41, K41b, s41b, M41b, E41b, e42, K42, s42, M42, E42, K42b, s42b, M42b, E42b, rfl, v41, v42, B⟩; exact hK.out _ _ ⟨e41, K41, s41, M41, E41, K41b, s41b, M41b, E41b, e42, K42, s42, M42, E42, K42b, s42b, M42b, E42b, rfl, v41, v42⟩ B
   refine Jo.pcons (i := 10) (o := ⟨some 67, _, _, _, _, _⟩) (di := some 67) (L := [(some 77, 9)]) (f := Jo.Fact.iv2 (some (oa, oa)) (some (ob, ob))) (by decide) (by decide) (by decide) (fun _ _ _ h => h) rfl rfl rfl rfl (fun vs wj hJ hd K hK => ?_) ?_
   · have d9 : (Jo.Fact.iv2 (some (oa, oa)) (some (ob, ob))).P (vs 9) wj := hd 9 (by decide)
     clear hd; simp only [Jo.putl, Jo.zd, Jo.ze, Act.put, Jo.za, Jo.zb, Jo.zc] at hK ⊢; generalize vs 9 = u9 at hK d9 ⊢; obtain ⟨e41, K41, s41, M41, E41, K41b, s41b, M41b, E41b, e42, K42, s42, M42, E42, K42b, s42b, M42b, E42b, rfl, v41, v42⟩ := d9; go_simp; exact hK.out _ _ ⟨_, _, _, _, _, _, _, _, _, _, _, _, _, _, _, _, _, _, rfl, v41, v42⟩ (br _ _)
   refine Jo.pcons (i := 11) (o := ⟨some 78, _, _, _, _, _⟩) (di := some 78) (L := [(some 67, 10)]) (f := Jo.Fact.iv (some (oa, oa))) (by decide) (by decide) (by decide) (fun _ _ _ h => h) rfl rfl rfl rfl (fun vs wj hJ hd K hK => ?_) ?_
   · have d10 : (Jo.Fact.iv2 (some (oa, oa)) (some (ob, ob))).P (vs 10) wj := hd 10 (by decide)
     clear hd; simp only [Jo.putl, Jo.zd, Jo.ze, Act.put, Jo.za, Jo.zb, Jo.zc] at hK ⊢; generalize vs 10 = u10 at hK d10 ⊢; obtain ⟨e41, K41, s41, M41, E41, K41b, s41b, M41b, E41b, e42, K42, s42, M42, E42, K42b, s42b, M42b, E42b, rfl, v41, v42⟩ := d10; go_simp; exact hK.out _ _ ⟨_, _, _, _, _, _, _, _, _, rfl, v41⟩ (br _ _)
   refine Jo.pcons (i := 12) (o := ⟨some 79, _, _, _, _, _⟩) (di := some 79) (L := [(some 67, 10)]) (f := Jo.Fact.iv (some (ob, ob))) (by decide) (by decide) (by decide) (fun _ _ _ h => h) rfl rfl rfl rfl (fun vs wj hJ hd K hK => ?_) ?_
   · have d10 : (Jo.Fact.iv2 (some (oa, oa)) (some (ob, ob))).P (vs 10) wj := hd 10 (by decide)
     clear hd; simp only [Jo.putl, Jo.zd, Jo.ze, Act.put, Jo.za, Jo.zb, Jo.zc] at hK ⊢; generalize vs 10 = u10 at hK d10 ⊢; obtain ⟨e41, K41, s41, M41, E41, K41b, s41b, M41b, E41b, e42, K42, s42, M42, E42, K42b, s42b, M42b, E42b, rfl, v41, v42⟩ := d10; go_simp; exact hK.out _ _ ⟨_, _, _, _, _, _, _, _, _, rfl, v42⟩ (br _ _)
   refine Jo.pnew (i := 13) (o := ⟨some 12, _, _, _, _, _⟩) (di := some 12) (L := []) (by decide) (by decide) (by decide) (by decide) rfl rfl rfl rfl (fun vs wj K hK => ?_) ?_
   · simp only [Jo.putl, Jo.ze, Act.put, Jo.za, Jo.zb, Jo.zc] at hK ⊢; go_simp; exact hK.out
   refine Jo.pnew (i := 14) (o := ⟨some 13, _, _, _, _, _⟩) (di := some 13) (L := []) (by decide) (by decide) (by decide) (by decide) rfl rfl rfl rfl (fun vs wj K hK => ?_) ?_
   · simp only [Jo.putl, Jo.ze, Act.put, Jo.za, Jo.zb, Jo.zc] at hK ⊢; go_simp; exact hK.out
   refine Jo.psto (o := ⟨none, _, _, _, _, _⟩) (di := none) (L := [(some 78, 11), (some 12, 13), (some 13, 14)]) (by decide) (by decide) (by decide) rfl rfl rfl rfl (fun vs wj hJ hd g hg X K hK => ?_) ?_
   · have d11 : (Jo.Fact.iv (some (oa, oa))).P (vs 11) wj := hd 11 (by decide)
     clear hd; simp only [Jo.putl, Jo.zd, Jo.ze, Act.put, Jo.za, Jo.zb, Jo.zc] at hK ⊢; simp only [hg] at hK ⊢; clear hg; generalize vs 11 = u11 at hK d11 ⊢; generalize vs 14 = u14 at hK ⊢; obtain ⟨e41, K41, s41, M41, E41, K41b, s41b, M41b, E41b, rfl, v41⟩ := d11; have y0 := X.a 0 (.bool false) rfl; have z0 := X.frozen 0; have y1 := X.a 1 (.int .i64 0) rfl; have z1 := X.frozen 1; have y2 := X.a 2 (.bool false) rfl
     have z2 := X.frozen 2; have y3 := X.a 3 (.int .u64 0) rfl; have z3 := X.frozen 3; have y4 := X.a 4 (.int .i64 0) rfl; have z4 := X.frozen 4; have y5 := X.a 5 (.int .i64 0) rfl; have z5 := X.frozen 5; have y6 := X.a 6 (.bool false) rfl; have z6 := X.frozen 6; have y7 := X.a 7 (.int .u64 0) rfl; have z7 := X.frozen 7; have y8 := X.a 8 (.int .i64 0) rfl; have z8 := X.frozen 8; go_simp; have SX := StN.mk9 X (.bool e41) (.int .i64 K41) (.bool s41) (.int .u64 M41) (.int .i64 E41) (.int .i64 K41b) (.bool s41b) (.int .u64 M41b) (.int .i64 E41b)
     exact hK.out undef _ _ rfl SX
   exact Jo.StepsI.nil
 have d0 : (Jo.qi n0).P (vs 0) wB := hd 0 (by decide)
 have d1 : (Jo.qi n1).P (vs 1) wB := hd 1 (by decide)
 have d2 : (Jo.Fact.eq (.int .i64 (n0 - n1))).P (vs 2) wB := hd 2 (by decide)
 have d3 : (Jo.qi n2).P (vs 3) wB := hd 3 (by decide)
 have d4 : (Jo.Fact.eq (.int .i64 (n0 - n1 + n2))).P (vs 4) wB := hd 4 (by decide)
 have d5 : (Jo.Fact.num (opl (n0 - n1 + n2))).P (vs 5) wB := hd 5 (by decide)
 have d6 : (Jo.Fact.iv zm).P (vs 6) wB := hd 6 (by decide)
 have d7 : (Jo.q9 e20 K20 s20 M20 E20 K20b s20b M20b E20b).P (vs 7) wB := hd 7 (by decide)
 have d8 : (Jo.q9 e21 K21 s21 M21 E21 K21b s21b M21b E21b).P (vs 8) wB := hd 8 (by decide)
 have d9 : (Jo.Fact.iv2 (some (oa, oa)) (some (ob, ob))).P (vs 9) wB := hd 9 (by decide)
 have d10 : (Jo.Fact.iv2 (some (oa, oa)) (some (ob, ob))).P (vs 10) wB := hd 10 (by decide)
 have d11 : (Jo.Fact.iv (some (oa, oa))).P (vs 11) wB := hd 11 (by decide)
 have d12 : (Jo.Fact.iv (some (ob, ob))).P (vs 12) wB := hd 12 (by decide)
 clear hd; obtain ⟨g12, g13, csp, ep, eq_, hg12, hg13, hneg12, ee, X12, X13⟩ := hpq; simp only [Jo.putl, Jo.zd, Jo.ze, Act.put, Jo.za, Jo.zb, Jo.zc]; simp only [ep, eq_]; clear ep eq_; generalize vs 0 = u0 at d0 ⊢; generalize vs 1 = u1 at d1 ⊢; generalize vs 2 = u2 at d2 ⊢; generalize vs 3 = u3 at d3 ⊢; generalize vs 4 = u4 at d4 ⊢; generalize vs 5 = u5 at d5 ⊢; generalize vs 6 = u6 at d6 ⊢; generalize vs 7 = u7 at d7 ⊢
 generalize vs 8 = u8 at d8 ⊢; generalize vs 9 = u9 at d9 ⊢; generalize vs 10 = u10 at d10 ⊢; generalize vs 11 = u11 at d11 ee ⊢; generalize vs 12 = u12 at d12 ⊢; generalize vs 15 = u15 at ⊢; clear vs
 replace d0 : u0 = _ := d0
 subst d0
 replace d1 : u1 = _ := d1
 subst d1
 replace d2 : u2 = _ := d2
 subst d2
 replace d3 : u3 = _ := d3
 subst d3
 replace d4 : u4 = _ := d4
 subst d4; obtain ⟨K100, s100, M100, E100, rfl, _⟩ := d5; obtain ⟨e40, K40, s40, M40, E40, K40b, s40b, M40b, E40b, rfl, v40⟩ := d6
 replace d7 : u7 = _ := d7
 subst d7
 replace d8 : u8 = _ := d8
 subst d8
 obtain - := d9
 obtain - := d10
 obtain ⟨e41, K41, s41, M41, E41, K41b, s41b, M41b, E41b, rfl, v41⟩ := d11; obtain ⟨e42, K42, s42, M42, E42, K42b, s42b, M42b, E42b, rfl, v42⟩ := d12
 injection ee with ee
 subst ee; replace X8 := X8.below hJ; replace X9 := X9.below hJ; replace X10 := X10.below hJ; replace X11 := X11.below hJ; replace hT := hT.below hJ; replace hT2 := hT2.below hJ; replace HB := Hqb HB hJ; have xX13 := X13.cell; have zX130 := X13.frozen
 refine Jo.jnext (i := 16) (o := ⟨none, _, _, _, _, _⟩) (by kernel_rfl) rfl (fun K hK => ?_)
 go_simp; refine hK.out _ _ ?_; clear hK K xX13 zX130; generalize hS : ((((((((wB.setCell _ _).setCell _ _).setCell _ _).setCell _ _).setCell _ _).setCell _ _).setCell _ _).setCell _ _).setCell _ _ = wC at *; have SX := StN.of9 X13 hS; replace X8 := X8.stn SX (by omega); replace X9 := X9.stn SX (by omega); replace X10 := X10.stn SX (by omega); replace X11 := X11.stn SX (by omega)
 replace X12 := X12.stn SX (by omega); replace hT := hT.stn SX (by simp [no8]); replace hT2 := hT2.stn SX (by simp [no8]); replace HB := Hqs HB SX (by omega); replace X13 := SX.box; clear SX hS; refine Jo.jdone (by kernel_rfl) ?_; clear hszp ltX8 ltX9 ltX10 ltX11; obtain ⟨rfl, rfl, rfl, rfl, rfl, rfl, rfl, rfl, rfl⟩ := v20.uniq v41; clear v41; obtain ⟨rfl, rfl, rfl, rfl, rfl, rfl, rfl, rfl, rfl⟩ := v21.uniq v42
 clear v42
 go_upto_region 8 with (fail)
 obtain ⟨rfl, a20, b20, o20, o20l, o20h⟩ := v20
 have v20 : Ci false K20 s20 M20 E20 K20b s20b M20b E20b (some (oa, oa)) := ⟨rfl, a20, b20, o20, o20l, o20h⟩
 clear a20 b20 o20 o20l o20h; obtain ⟨rfl, a21, b21, o21, o21l, o21h⟩ := v21
 have v21 : Ci false K21 s21 M21 E21 K21b s21b M21b E21b (some (ob, ob)) := ⟨rfl, a21, b21, o21, o21l, o21h⟩
 clear a21 b21 o21 o21l o21h; have xe := HE0.out; have xX8 := X8.cell; have xX9 := X9.cell; have xX10 := X10.cell; have xX11 := X11.cell; have xX12 := X12.cell
 have xX13 := X13.cell
 go_upto_region 11 with (fail)
 clear xX8 xX9 xX10 xX11 xX12 xX13; have ltX8 := X8.lt; have ltX9 := X9.lt; have ltX10 := X10.lt; have ltX11 := X11.lt; have ltX12 := X12.lt
 have ltX13 := X13.lt; have hszp := HB.out.size
 refine Jo.region_pair (T := [0, 1, 2, 3, 4, 5, 6, 7, 8, 9, 10, 11]) (ds := [some 99, some 100, some 101, some 102, some 103, some 104, some 98, some 105, some 106, some 17, some 18, none, none]) (ls := [[], [], [0, 1], [], [], [2, 3, 4], [5], [6], [6], [], [], [7, 9, 10], []]) (k := 13) (L := [(some 99, 0), (some 100, 1), (some 101, 2), (some 102, 3), (some 103, 4), (some 104, 5), (some 98, 6), (some 105, 7), (some 106, 8), (some 17, 9), (some 18, 10), (none, 11)]) (fuel := 1) (w1 := wC) (p := 9) (q := 10) (s := 11) (e := 7) (old := #[.bool false, .int .i64 0, .bool false, .int .u64 0, .int .i64 0, .int .i64 0, .bool false, .int .u64 0, .int .i64 0]) (R := 26)
   (F := [Jo.q9 false K20 s20 M20 E20 K20b s20b M20b E20b, Jo.q9 false K21 s21 M21 E21 K21b s21b M21b E21b, Jo.Fact.iv ml, Jo.q9 false K20 s20 M20 E20 K20b s20b M20b E20b, Jo.q9 false K21 s21 M21 E21 K21b s21b M21b E21b, Jo.Fact.iv2 (some (oa, oa)) (some (ob, ob)), Jo.Fact.iv2 (some (oa, oa)) (some (ob, ob)), Jo.Fact.iv (some (oa, oa)), Jo.Fact.iv (some (ob, ob)), Jo.Fact.any, Jo.Fact.any, Jo.Fact.any, Jo.Fact.any])
   (by decide) (by decide) (by decide) (by kernel_rfl) (by kernel_rfl) (by decide) rfl rfl ?_ (fun vs wD hJ hd hpq => ?_)
 · refine Jo.pcons (i := 0) (o := ⟨some 99, _, _, _, _, _⟩) (di := some 99) (L := []) (f := Jo.q9 false K20 s20 M20 E20 K20b s20b M20b E20b) (by decide) (by decide) (by decide) (fun _ _ _ h => h) rfl rfl rfl rfl (fun vs wj hJ hd K hK => ?_) ?_
   · clear hd; simp only [Jo.putl, Jo.ze, Act.put, Jo.za, Jo.zb, Jo.zc] at hK ⊢
     have xX80 : World.cell? wj ⟨w4.heap.size, 0, none⟩ = some (.bool false) := (X8.below hJ).cell 0
     have xX81 : World.cell? wj ⟨w4.heap.size, 1, none⟩ = some (.int .i64 K20) := (X8.below hJ).cell 1
     have xX82 : World.cell? wj ⟨w4.heap.size, 2, none⟩ = some (.bool s20) := (X8.below hJ).cell 2
     have xX83 : World.cell? wj ⟨w4.heap.size, 3, none⟩ = some (.int .u64 M20) := (X8.below hJ).cell 3
     have xX84 : World.cell? wj ⟨w4.heap.size, 4, none⟩ = some (.int .i64 E20) := (X8.below hJ).cell 4
     have xX85 : World.cell? wj ⟨w4.heap.size, 5, none⟩ = some (.int .i64 K20b) := (X8.below hJ).cell 5
     have xX86 : World.cell? wj ⟨w4.heap.size, 6, none⟩ = some (.bool s20b) := (X8.below hJ).cell 6
     have xX87 : World.cell? wj ⟨w4.heap.size, 7, none⟩ = some (.int .u64 M20b) := (X8.below hJ).cell 7
     have xX88 : World.cell? wj ⟨w4.heap.size, 8, none⟩ = some (.int .i64 E20b) := (X8.below hJ).cell 8
     go_simp; exact hK.out _ _ rfl (br _ _)
   refine Jo.pcons (i := 1) (o := ⟨some 100, _, _, _, _, _⟩) (di := some 100) (L := []) (f := Jo.q9 false K21 s21 M21 E21 K21b s21b M21b E21b) (by decide) (by decide) (by decide) (fun _ _ _ h => h) rfl rfl rfl rfl (fun vs wj hJ hd K hK => ?_) ?_
   · clear hd; simp only [Jo.putl, Jo.ze, Act.put, Jo.za, Jo.zb, Jo.zc] at hK ⊢
     have xX90 : World.cell? wj ⟨w7.heap.size, 0, none⟩ = some (.bool false) := (X9.below hJ).cell 0
     have xX91 : World.cell? wj ⟨w7.heap.size, 1, none⟩ = some (.int .i64 K21) := (X9.below hJ).cell 1
     have xX92 : World.cell? wj ⟨w7.heap.size, 2, none⟩ = some (.bool s21) := (X9.below hJ).cell 2
     have xX93 : World.cell? wj ⟨w7.heap.size, 3, none⟩ = some (.int .u64 M21) := (X9.below hJ).cell 3
     have xX94 : World.cell? wj ⟨w7.heap.size, 4, none⟩ = some (.int .i64 E21) := (X9.below hJ).cell 4
     have xX95 : World.cell? wj ⟨w7.heap.size, 5, none⟩ = some (.int .i64 K21b) := (X9.below hJ).cell 5
     have xX96 : World.cell? wj ⟨w7.heap.size, 6, none⟩ = some (.bool s21b) := (X9.below hJ).cell 6
     have xX97 : World.cell? wj ⟨w7.heap.size, 7, none⟩ = some (.int .u64 M21b) := (X9.below hJ).cell 7
     have xX98 : World.cell? wj ⟨w7.heap.size, 8, none⟩ = some (.int .i64 E21b) := (X9.below hJ).cell 8
     go_simp; exact hK.out _ _ rfl (br _ _)
   refine Jo.pcons (i := 2) (o := ⟨some 101, _, _, _, _, _⟩) (di := some 101) (L := [(some 99, 0), (some 100, 1)]) (f := Jo.Fact.iv ml) (by decide) (by decide) (by decide) (fun _ _ _ h => h) rfl rfl rfl rfl (fun vs wj hJ hd K hK => ?_) ?_
   · have d0 : (Jo.q9 false K20 s20 M20 E20 K20b s20b M20b E20b).P (vs 0) wj := hd 0 (by decide)
     have d1 : (Jo.q9 false K21 s21 M21 E21 K21b s21b M21b E21b).P (vs 1) wj := hd 1 (by decide)
     simp only [Jo.putl, Jo.zd, Jo.ze, Act.put, Jo.za, Jo.zb, Jo.zc] at hK ⊢; clear hd; generalize vs 0 = u0 at hK d0 ⊢; generalize vs 1 = u1 at hK d1 ⊢
     replace d0 : u0 = _ := d0
     subst d0
     replace d1 : u1 = _ := d1
     subst d1; go_simp; refine (fkMul v20.top.1 v20.top.2 v21.top.1 v21.top.2 v20.rk v21.rk HML.out).mono ?_; rintro ee wk ⟨e50, K50, s50, M50, E50, K50b, s50b, M50b, E50b, rfl, v50, B⟩; exact hK.out _ _ ⟨e50, K50, s50, M50, E50, K50b, s50b, M50b, E50b, rfl, v50⟩ B
   refine Jo.pcons (i := 3) (o := ⟨some 102, _, _, _, _, _⟩) (di := some 102) (L := []) (f := Jo.q9 false K20 s20 M20 E20 K20b s20b M20b E20b) (by decide) (by decide) (by decide) (fun _ _ _ h => h) rfl rfl rfl rfl (fun vs wj hJ hd K hK => ?_) ?_
   · clear hd; simp only [Jo.putl, Jo.ze, Act.put, Jo.za, Jo.zb, Jo.zc] at hK ⊢
     have xX80 : World.cell? wj ⟨w4.heap.size, 0, none⟩ = some (.bool false) := (X8.below hJ).cell 0
     have xX81 : World.cell? wj ⟨w4.heap.size, 1, none⟩ = some (.int .i64 K20) := (X8.below hJ).cell 1
     have xX82 : World.cell? wj ⟨w4.heap.size, 2, none⟩ = some (.bool s20) := (X8.below hJ).cell 2
     have xX83 : World.cell? wj ⟨w4.heap.size, 3, none⟩ = some (.int .u64 M20) := (X8.below hJ).cell 3
     have xX84 : World.cell? wj ⟨w4.heap.size, 4, none⟩ = some (.int .i64 E20) := (X8.below hJ).cell 4
     have xX85 : World.cell? wj ⟨w4.heap.size, 5, none⟩ = some (.int .i64 K20b) := (X8.below hJ).cell 5
     have xX86 : World.cell? wj ⟨w4.heap.size, 6, none⟩ = some (.bool s20b) := (X8.below hJ).cell 6
     have xX87 : World.cell? wj ⟨w4.heap.size, 7, none⟩ = some (.int .u64 M20b) := (X8.below hJ).cell 7
     have xX88 : World.cell? wj ⟨w4.heap.size, 8, none⟩ = some (.int .i64 E20b) := (X8.below hJ).cell 8
     go_simp; exact hK.out _ _ rfl (br _ _)
   refine Jo.pcons (i := 4) (o := ⟨some 103, _, _, _, _, _⟩) (di := some 103) (L := []) (f := Jo.q9 false K21 s21 M21 E21 K21b s21b M21b E21b) (by decide) (by decide) (by decide) (fun _ _ _ h => h) rfl rfl rfl rfl (fun vs wj hJ hd K hK => ?_) ?_
   · clear hd; simp only [Jo.putl, Jo.ze, Act.put, Jo.za, Jo.zb, Jo.zc] at hK ⊢
     have xX90 : World.cell? wj ⟨w7.heap.size, 0, none⟩ = some (.bool false) := (X9.below hJ).cell 0
     have xX91 : World.cell? wj ⟨w7.heap.size, 1, none⟩ = some (.int .i64 K21) := (X9.below hJ).cell 1
     have xX92 : World.cell? wj ⟨w7.heap.size, 2, none⟩ = some (.bool s21) := (X9.below hJ).cell 2
     have xX93 : World.cell? wj ⟨w7.heap.size, 3, none⟩ = some (.int .u64 M21) := (X9.below hJ).cell 3
     have xX94 : World.cell? wj ⟨w7.heap.size, 4, none⟩ = some (.int .i64 E21) := (X9.below hJ).cell 4
     have xX95 : World.cell? wj ⟨w7.heap.size, 5, none⟩ = some (.int .i64 K21b) := (X9.below hJ).cell 5
     have xX96 : World.cell? wj ⟨w7.heap.size, 6, none⟩ = some (.bool s21b) := (X9.below hJ).cell 6
     have xX97 : World.cell? wj ⟨w7.heap.size, 7, none⟩ = some (.int .u64 M21b) := (X9.below hJ).cell 7
     have xX98 : World.cell? wj ⟨w7.heap.size, 8, none⟩ = some (.int .i64 E21b) := (X9.below hJ).cell 8
     go_simp; exact hK.out _ _ rfl (br _ _)
   refine Jo.pcons (i := 5) (o := ⟨some 104, _, _, _, _, _⟩) (di := some 104) (L := [(some 101, 2), (some 102, 3), (some 103, 4)]) (f := Jo.Fact.iv2 (some (oa, oa)) (some (ob, ob))) (by decide) (by decide) (by decide) (fun _ _ _ h => h) rfl rfl rfl rfl (fun vs wj hJ hd K hK => ?_) ?_
   · have d2 : (Jo.Fact.iv ml).P (vs 2) wj := hd 2 (by decide)
     have d3 : (Jo.q9 false K20 s20 M20 E20 K20b s20b M20b E20b).P (vs 3) wj := hd 3 (by decide)
     have d4 : (Jo.q9 false K21 s21 M21 E21 K21b s21b M21b E21b).P (vs 4) wj := hd 4 (by decide)
     simp only [Jo.putl, Jo.zd, Jo.ze, Act.put, Jo.za, Jo.zb, Jo.zc] at hK ⊢; clear hd; generalize vs 2 = u2 at hK d2 ⊢; generalize vs 3 = u3 at hK d3 ⊢; generalize vs 4 = u4 at hK d4 ⊢; obtain ⟨e50, K50, s50, M50, E50, K50b, s50b, M50b, E50b, rfl, v50⟩ := d2
     replace d3 : u3 = _ := d3
     subst d3
     replace d4 : u4 = _ := d4
     subst d4; go_simp; refine (bkTimes (hT.below hJ) HQ.out v50.top.1 v50.top.2 v20.top.1 v20.top.2 v21.top.1 v21.top.2 v50.rk v20.rk v21.rk HTM.out).mono ?_; rintro ee wk ⟨e51, K51, s51, M51, E51, K51b, s51b, M51b, E51b, e52, K52, s52, M52, E52, K52b, s52b, M52b, E52b, rfl, v51, v52, B⟩; exact hK.out _ _ ⟨e51, K51, s51, M51, E51, K51b, s51b, M51b, E51b, e52, K52, s52, M52, E52, K52b, s52b, M52b, E52b, rfl, v51, v52⟩ B
   refine Jo.pcons (i := 6) (o := ⟨some 98, _, _, _, _, _⟩) (di := some 98) (L := [(some 104, 5)]) (f := Jo.Fact.iv2 (some (oa, oa)) (some (ob, ob))) (by decide) (by decide) (by decide) (fun _ _ _ h => h) rfl rfl rfl rfl (fun vs wj hJ hd K hK => ?_) ?_
   · have d5 : (Jo.Fact.iv2 (some (oa, oa)) (some (ob, ob))).P (vs 5) wj := hd 5 (by decide)
     clear hd; simp only [Jo.putl, Jo.zd, Jo.ze, Act.put, Jo.za, Jo.zb, Jo.zc] at hK ⊢; generalize vs 5 = u5 at hK d5 ⊢; obtain ⟨e51, K51, s51, M51, E51, K51b, s51b, M51b, E51b, e52, K52, s52, M52, E52, K52b, s52b, M52b, E52b, rfl, v51, v52⟩ := d5; go_simp; exact hK.out _ _ ⟨_, _, _, _, _, _, _, _, _, _, _, _, _, _, _, _, _, _, rfl, v51, v52⟩ (br _ _)
   refine Jo.pcons (i := 7) (o := ⟨some 105, _, _, _, _, _⟩) (di := some 105) (L := [(some 98, 6)]) (f := Jo.Fact.iv (some (oa, oa))) (by decide) (by decide) (by decide) (fun _ _ _ h => h) rfl rfl rfl rfl (fun vs wj hJ hd K hK => ?_) ?_
   · have d6 : (Jo.Fact.iv2 (some (oa, oa)) (some (ob, ob))).P (vs 6) wj := hd 6 (by decide)
     clear hd; simp only [Jo.putl, Jo.zd, Jo.ze, Act.put, Jo.za, Jo.zb, Jo.zc] at hK ⊢; generalize vs 6 = u6 at hK d6 ⊢; obtain ⟨e51, K51, s51, M51, E51, K51b, s51b, M51b, E51b, e52, K52, s52, M52, E52, K52b, s52b, M52b, E52b, rfl, v51, v52⟩ := d6; go_simp; exact hK.out _ _ ⟨_, _, _, _, _, _, _, _, _, rfl, v51⟩ (br _ _)
   refine Jo.pcons (i := 8) (o := ⟨some 106, _, _, _, _, _⟩) (di := some 106) (L := [(some 98, 6)]) (f := Jo.Fact.iv (some (ob, ob))) (by decide) (by decide) (by decide) (fun _ _ _ h => h) rfl rfl rfl rfl (fun vs wj hJ hd K hK => ?_) ?_
   · have d6 : (Jo.Fact.iv2 (some (oa, oa)) (some (ob, ob))).P (vs 6) wj := hd 6 (by decide)
     clear hd; simp only [Jo.putl, Jo.zd, Jo.ze, Act.put, Jo.za, Jo.zb, Jo.zc] at hK ⊢; generalize vs 6 = u6 at hK d6 ⊢; obtain ⟨e51, K51, s51, M51, E51, K51b, s51b, M51b, E51b, e52, K52, s52, M52, E52, K52b, s52b, M52b, E52b, rfl, v51, v52⟩ := d6; go_simp; exact hK.out _ _ ⟨_, _, _, _, _, _, _, _, _, rfl, v52⟩ (br _ _)
   refine Jo.pnew (i := 9) (o := ⟨some 17, _, _, _, _, _⟩) (di := some 17) (L := []) (by decide) (by decide) (by decide) (by decide) rfl rfl rfl rfl (fun vs wj K hK => ?_) ?_
   · simp only [Jo.putl, Jo.ze, Act.put, Jo.za, Jo.zb, Jo.zc] at hK ⊢; go_simp; exact hK.out
   refine Jo.pnew (i := 10) (o := ⟨some 18, _, _, _, _, _⟩) (di := some 18) (L := []) (by decide) (by decide) (by decide) (by decide) rfl rfl rfl rfl (fun vs wj K hK => ?_) ?_
   · simp only [Jo.putl, Jo.ze, Act.put, Jo.za, Jo.zb, Jo.zc] at hK ⊢; go_simp; exact hK.out
   refine Jo.psto (o := ⟨none, _, _, _, _, _⟩) (di := none) (L := [(some 105, 7), (some 17, 9), (some 18, 10)]) (by decide) (by decide) (by decide) rfl rfl rfl rfl (fun vs wj hJ hd g hg X K hK => ?_) ?_
   · have d7 : (Jo.Fact.iv (some (oa, oa))).P (vs 7) wj := hd 7 (by decide)
     clear hd; simp only [Jo.putl, Jo.zd, Jo.ze, Act.put, Jo.za, Jo.zb, Jo.zc] at hK ⊢; simp only [hg] at hK ⊢; clear hg; generalize vs 7 = u7 at hK d7 ⊢; generalize vs 10 = u10 at hK ⊢; obtain ⟨e51, K51, s51, M51, E51, K51b, s51b, M51b, E51b, rfl, v51⟩ := d7; have y0 := X.a 0 (.bool false) rfl; have z0 := X.frozen 0; have y1 := X.a 1 (.int .i64 0) rfl; have z1 := X.frozen 1; have y2 := X.a 2 (.bool false) rfl
     have z2 := X.frozen 2; have y3 := X.a 3 (.int .u64 0) rfl; have z3 := X.frozen 3; have y4 := X.a 4 (.int .i64 0) rfl; have z4 := X.frozen 4; have y5 := X.a 5 (.int .i64 0) rfl; have z5 := X.frozen 5; have y6 := X.a 6 (.bool false) rfl; have z6 := X.frozen 6; have y7 := X.a 7 (.int .u64 0) rfl; have z7 := X.frozen 7; have y8 := X.a 8 (.int .i64 0) rfl; have z8 := X.frozen 8; go_simp; have SX := StN.mk9 X (.bool e51) (.int .i64 K51) (.bool s51) (.int .u64 M51) (.int .i64 E51) (.int .i64 K51b) (.bool s51b) (.int .u64 M51b) (.int .i64 E51b)
     exact hK.out undef _ _ rfl SX
   exact Jo.StepsI.nil
 have d0 : (Jo.q9 false K20 s20 M20 E20 K20b s20b M20b E20b).P (vs 0) wD := hd 0 (by decide)
 have d1 : (Jo.q9 false K21 s21 M21 E21 K21b s21b M21b E21b).P (vs 1) wD := hd 1 (by decide)
 have d2 : (Jo.Fact.iv ml).P (vs 2) wD := hd 2 (by decide)
 have d3 : (Jo.q9 false K20 s20 M20 E20 K20b s20b M20b E20b).P (vs 3) wD := hd 3 (by decide)
 have d4 : (Jo.q9 false K21 s21 M21 E21 K21b s21b M21b E21b).P (vs 4) wD := hd 4 (by decide)
 have d5 : (Jo.Fact.iv2 (some (oa, oa)) (some (ob, ob))).P (vs 5) wD := hd 5 (by decide)
 have d6 : (Jo.Fact.iv2 (some (oa, oa)) (some (ob, ob))).P (vs 6) wD := hd 6 (by decide)
 have d7 : (Jo.Fact.iv (some (oa, oa))).P (vs 7) wD := hd 7 (by decide)
 have d8 : (Jo.Fact.iv (some (ob, ob))).P (vs 8) wD := hd 8 (by decide)
 clear hd; obtain ⟨g17, g18, csp, ep, eq_, hg17, hg18, hneg17, ee, X17, X18⟩ := hpq; simp only [Jo.putl, Jo.zd, Jo.ze, Act.put, Jo.za, Jo.zb, Jo.zc]; simp only [ep, eq_]; clear ep eq_; generalize vs 0 = u0 at d0 ⊢; generalize vs 1 = u1 at d1 ⊢; generalize vs 2 = u2 at d2 ⊢; generalize vs 3 = u3 at d3 ⊢; generalize vs 4 = u4 at d4 ⊢; generalize vs 5 = u5 at d5 ⊢; generalize vs 6 = u6 at d6 ⊢; generalize vs 7 = u7 at d7 ee ⊢
 generalize vs 8 = u8 at d8 ⊢; generalize vs 11 = u11 at ⊢; clear vs
 replace d0 : u0 = _ := d0
 subst d0
 replace d1 : u1 = _ := d1
 subst d1; obtain ⟨e50, K50, s50, M50, E50, K50b, s50b, M50b, E50b, rfl, v50⟩ := d2
 replace d3 : u3 = _ := d3
 subst d3
 replace d4 : u4 = _ := d4
 subst d4
 obtain - := d5
 obtain - := d6
 obtain ⟨e51, K51, s51, M51, E51, K51b, s51b, M51b, E51b, rfl, v51⟩ := d7; obtain ⟨e52, K52, s52, M52, E52, K52b, s52b, M52b, E52b, rfl, v52⟩ := d8
 injection ee with ee
 subst ee; replace X8 := X8.below hJ; replace X9 := X9.below hJ; replace X10 := X10.below hJ; replace X11 := X11.below hJ; replace X12 := X12.below hJ; replace X13 := X13.below hJ; replace hT := hT.below hJ; replace hT2 := hT2.below hJ; replace HB := Hqb HB hJ; have xX18 := X18.cell; have zX180 := X18.frozen
 refine Jo.jnext (i := 12) (o := ⟨none, _, _, _, _, _⟩) (by kernel_rfl) rfl (fun K hK => ?_)
 go_simp; refine hK.out _ _ ?_; clear hK K xX18 zX180; generalize hS : ((((((((wD.setCell _ _).setCell _ _).setCell _ _).setCell _ _).setCell _ _).setCell _ _).setCell _ _).setCell _ _).setCell _ _ = wE at *; have SX := StN.of9 X18 hS; replace X8 := X8.stn SX (by omega); replace X9 := X9.stn SX (by omega); replace X10 := X10.stn SX (by omega); replace X11 := X11.stn SX (by omega)
 replace X12 := X12.stn SX (by omega); replace X13 := X13.stn SX (by omega); replace X17 := X17.stn SX (by omega); replace hT := hT.stn SX (by simp [no8]); replace hT2 := hT2.stn SX (by simp [no8]); replace HB := Hqs HB SX (by omega); replace X18 := SX.box; clear SX hS; refine Jo.jdone (by kernel_rfl) ?_; clear hszp ltX8 ltX9 ltX10 ltX11 ltX12 ltX13; obtain ⟨rfl, rfl, rfl, rfl, rfl, rfl, rfl, rfl, rfl⟩ := v20.uniq v51
 clear v51; obtain ⟨rfl, rfl, rfl, rfl, rfl, rfl, rfl, rfl, rfl⟩ := v21.uniq v52; clear v52; have xX8 := X8.cell; have xX9 := X9.cell; have xX10 := X10.cell; have xX11 := X11.cell
 have xX12 := X12.cell; have xX13 := X13.cell; have xX17 := X17.cell; have xX18 := X18.cell; go_wp2
 go_ret
 exact ⟨rfl, HB.out⟩
theorem backPoints_n (n0 : Int) (n1 : Int) (n2 : Int) (w : World) (oa ob : Int) (zp zm ml : Sp) {q : Bool → Int → Int → Int} (hq : QF q) {r : Bool → Int → Int} (hr : RF r) (hT : Tab w) (hT2 : Tb w)
   (b0 : -9223372036854775808 ≤ n0 ∧ n0 ≤ 9223372036854775807) (b1 : -9223372036854775808 ≤ n1 ∧ n1 ≤ 9223372036854775807) (bp : -9223372036854775808 ≤ n0 + n1 + n2 ∧ n0 + n1 + n2 ≤ 9223372036854775807) (bm : -9223372036854775808 ≤ n0 - n1 + n2 ∧ n0 - n1 + n2 ≤ 9223372036854775807) (y1 : IntKind.i64.wrap (n0 + n1) = n0 + n1) (y2 : IntKind.i64.wrap (n0 + n1 + n2) = n0 + n1 + n2) (y3 : IntKind.i64.wrap (n0 - n1) = n0 - n1) (y4 : IntKind.i64.wrap (n0 - n1 + n2) = n0 - n1 + n2) (x0 : decide (n0 < (-1000000000 : Int)) = false) (x1 : decide ((1000000000 : Int) < n0) = false) (x2 : decide (n1 < (-1000000000 : Int)) = false) (x3 : decide ((1000000000 : Int) < n1) = false) (x4 : decide (n2 < (-3 : Int)) = false) (x5 : decide ((3 : Int) < n2) = false) (xe : (n2 == 0) = false) (ha : mkI (opl n0) (opl n0) = some (oa, oa)) (hb : mkI (opl n1) (opl n1) = some (ob, ob)) (hzp : mkI (opl (n0 + n1 + n2)) (opl (n0 + n1 + n2)) = zp) (hzm : mkI (opl (n0 - n1 + n2)) (opl (n0 - n1 + n2)) = zm) (hpa : meetI (some (oa, oa)) (subI zp (some (ob, ob))) = none) (hpb : meetI (some (ob, ob)) (subI zp (none)) = none) (hma : meetI (some (oa, oa)) (addI zm (some (ob, ob))) = none) (hmb : meetI (some (ob, ob)) (subI (none) zm) = none) (hml : mulI (some (oa, oa)) (some (ob, ob)) = ml) (htm : timesB q ml (some (oa, oa)) (some (ob, ob)) = (some (oa, oa), some (ob, ob))) :
   Calls Tryz.prog 9 #[.int .i64 n0, .int .i64 n1, .int .i64 n2] w (PB w true) := by
 have HB0_ := Lib.hid b0; have HB1_ := Lib.hid b1; have HBP := Lib.hid bp; have HBM := Lib.hid bm; have W1 := Lib.hid y1; have W2 := Lib.hid y2; have W3 := Lib.hid y3; have W4 := Lib.hid y4; have HT0 := Lib.hid x0; have HT1 := Lib.hid x1; have HT2 := Lib.hid x2; have HT3 := Lib.hid x3; have HT4 := Lib.hid x4; have HT5 := Lib.hid x5; have HE0 := Lib.hid xe; have HXA := Lib.hid ha; have HXB := Lib.hid hb
 have HZP := Lib.hid hzp; have HZM := Lib.hid hzm; have HPA := Lib.hid hpa; have HPB := Lib.hid hpb; have HMA := Lib.hid hma; have HMB := Lib.hid hmb; have HML := Lib.hid hml; have HTM := Lib.hid htm; have HQ := Lib.hid hq; have HRR := Lib.hid hr; clear b0 b1 bp bm y1 y2 y3 y4 x0 x1 x2 x3 x4 x5 xe ha hb hzp hzm hpa hpb hma hmb hml htm hq hr
 go_enter Tryz.func9, Tryz.ntmps9
 have HB := Lib.hid (Below.refl w.heap.size w)
 go_wp2_with fail
 refine (awake10 hT hT2 HRR.out).mono ?_; rintro ee w2 ⟨rfl, B⟩; replace hT := hT.below B; replace hT2 := hT2.below B; replace HB := Hqb HB B; clear B; have t0 := HT0.out; have t1 := HT1.out; have t2 := HT2.out; have t3 := HT3.out; have t4 := HT4.out; have t5 := HT5.out
 go_wp2_with fail
 refine (nOf _ HB0_.out.1 HB0_.out.2 rfl).mono ?_; rintro ee w3 ⟨K30, s30, M30, E30, rfl, q30, B⟩; replace hT := hT.below B; replace hT2 := hT2.below B; replace HB := Hqb HB B; clear B
 go_wp2_with fail
 refine (kvPoint q30.top q30.rk HXA.out).mono ?_; rintro ee w4 ⟨e20, K20, s20, M20, E20, K20b, s20b, M20b, E20b, rfl, v20, B⟩; replace hT := hT.below B; replace hT2 := hT2.below B; replace HB := Hqb HB B; clear B; clear q30
 go_upto_region 5 with (fail)
 have lX8 := Nat.le_refl (World.heap w4).size; generalize hWn : w4.alloc _ = w5 at *; obtain ⟨X8, BW⟩ := Bo.nw hWn; clear hWn; replace hT := hT.below BW; replace hT2 := hT2.below BW; replace HB := Hqb HB BW; clear BW; clear lX8; clear t0 t1 t2 t3 t4 t5
 go_wp2_with fail
 refine (nOf _ HB1_.out.1 HB1_.out.2 rfl).mono ?_; rintro ee w6 ⟨K31, s31, M31, E31, rfl, q31, B⟩; replace X8 := X8.below B; replace hT := hT.below B; replace hT2 := hT2.below B; replace HB := Hqb HB B; clear B
 go_wp2_with fail
 refine (kvPoint q31.top q31.rk HXB.out).mono ?_; rintro ee w7 ⟨e21, K21, s21, M21, E21, K21b, s21b, M21b, E21b, rfl, v21, B⟩; replace X8 := X8.below B; replace hT := hT.below B; replace hT2 := hT2.below B; replace HB := Hqb HB B; clear B; clear q31
 go_upto_region 6 with (fail)
 have lX9 := Nat.le_refl (World.heap w7).size; have nX9X8 := X8.lt; generalize hWn : w7.alloc _ = w8 at *; obtain ⟨X9, BW⟩ := Bo.nw hWn; clear hWn; replace X8 := X8.below BW; replace hT := hT.below BW; replace hT2 := hT2.below BW; replace HB := Hqb HB BW; clear BW; clear lX9; have ltX8 := X8.lt; have ltX9 := X9.lt; have hszp := HB.out.size
 refine Jo.region_pair (T := [0, 1, 2, 3, 4, 5, 6, 7, 8, 9, 10, 11, 12, 13, 14, 15]) (ds := [some 55, some 56, some 57, some 58, some 59, some 60, some 61, some 62, some 63, some 64, some 54, some 65, some 66, some 10, some 11, none, none]) (ls := [[], [], [0, 1], [], [2, 3], [4], [5], [], [], [6, 7, 8], [9], [10], [10], [], [], [11, 13, 14], []]) (k := 17) (L := [(some 55, 0), (some 56, 1), (some 57, 2), (some 58, 3), (some 59, 4), (some 60, 5), (some 61, 6), (some 62, 7), (some 63, 8), (some 64, 9), (some 54, 10), (some 65, 11), (some 66, 12), (some 10, 13), (some 11, 14), (none, 15)]) (fuel := 1) (w1 := w8) (p := 13) (q := 14) (s := 15) (e := 11) (old := #[.bool false, .int .i64 0, .bool false, .int .u64 0, .int .i64 0, .int .i64 0, .bool false, .int .u64 0, .int .i64 0]) (R := 26)
   (F := [Jo.qi n0, Jo.qi n1, Jo.Fact.eq (.int .i64 (n0 + n1)), Jo.qi n2, Jo.Fact.eq (.int .i64 (n0 + n1 + n2)), Jo.Fact.num (opl (n0 + n1 + n2)), Jo.Fact.iv zp, Jo.q9 e20 K20 s20 M20 E20 K20b s20b M20b E20b, Jo.q9 e21 K21 s21 M21 E21 K21b s21b M21b E21b, Jo.Fact.iv2 (none) (none), Jo.Fact.iv2 (none) (none), Jo.Fact.iv (none), Jo.Fact.iv (none), Jo.Fact.any, Jo.Fact.any, Jo.Fact.any, Jo.Fact.any])
   (by decide) (by decide) (by decide) (by kernel_rfl) (by kernel_rfl) (by decide) rfl rfl ?_ (fun vs w9 hJ hd hpq => ?_)
 · refine Jo.pcons (i := 0) (o := ⟨some 55, _, _, _, _, _⟩) (di := some 55) (L := []) (f := Jo.qi n0) (by decide) (by decide) (by decide) (fun _ _ _ h => h) rfl rfl rfl rfl (fun vs wj hJ hd K hK => ?_) ?_
   · clear hd; simp only [Jo.putl, Jo.ze, Act.put, Jo.za, Jo.zb, Jo.zc] at hK ⊢; go_simp; exact hK.out _ _ rfl (br _ _)
   refine Jo.pcons (i := 1) (o := ⟨some 56, _, _, _, _, _⟩) (di := some 56) (L := []) (f := Jo.qi n1) (by decide) (by decide) (by decide) (fun _ _ _ h => h) rfl rfl rfl rfl (fun vs wj hJ hd K hK => ?_) ?_
   · clear hd; simp only [Jo.putl, Jo.ze, Act.put, Jo.za, Jo.zb, Jo.zc] at hK ⊢; go_simp; exact hK.out _ _ rfl (br _ _)
   refine Jo.pcons (i := 2) (o := ⟨some 57, _, _, _, _, _⟩) (di := some 57) (L := [(some 55, 0), (some 56, 1)]) (f := Jo.Fact.eq (.int .i64 (n0 + n1))) (by decide) (by decide) (by decide) (fun _ _ _ h => h) rfl rfl rfl rfl (fun vs wj hJ hd K hK => ?_) ?_
   · have d0 : (Jo.qi n0).P (vs 0) wj := hd 0 (by decide)
     have d1 : (Jo.qi n1).P (vs 1) wj := hd 1 (by decide)
     simp only [Jo.putl, Jo.zd, Jo.ze, Act.put, Jo.za, Jo.zb, Jo.zc] at hK ⊢; clear hd; generalize vs 0 = u0 at hK d0 ⊢; generalize vs 1 = u1 at hK d1 ⊢
     replace d0 : u0 = _ := d0
     subst d0
     replace d1 : u1 = _ := d1
     subst d1; have hw := W1.out; go_simp; exact hK.out _ _ rfl (br _ _)
   refine Jo.pcons (i := 3) (o := ⟨some 58, _, _, _, _, _⟩) (di := some 58) (L := []) (f := Jo.qi n2) (by decide) (by decide) (by decide) (fun _ _ _ h => h) rfl rfl rfl rfl (fun vs wj hJ hd K hK => ?_) ?_
   · clear hd; simp only [Jo.putl, Jo.ze, Act.put, Jo.za, Jo.zb, Jo.zc] at hK ⊢; go_simp; exact hK.out _ _ rfl (br _ _)
   refine Jo.pcons (i := 4) (o := ⟨some 59, _, _, _, _, _⟩) (di := some 59) (L := [(some 57, 2), (some 58, 3)]) (f := Jo.Fact.eq (.int .i64 (n0 + n1 + n2))) (by decide) (by decide) (by decide) (fun _ _ _ h => h) rfl rfl rfl rfl (fun vs wj hJ hd K hK => ?_) ?_
   · have d2 : (Jo.Fact.eq (.int .i64 (n0 + n1))).P (vs 2) wj := hd 2 (by decide)
     have d3 : (Jo.qi n2).P (vs 3) wj := hd 3 (by decide)
     simp only [Jo.putl, Jo.zd, Jo.ze, Act.put, Jo.za, Jo.zb, Jo.zc] at hK ⊢; clear hd; generalize vs 2 = u2 at hK d2 ⊢; generalize vs 3 = u3 at hK d3 ⊢
     replace d2 : u2 = _ := d2
     subst d2
     replace d3 : u3 = _ := d3
     subst d3; have hw := W2.out; go_simp; exact hK.out _ _ rfl (br _ _)
   refine Jo.pcons (i := 5) (o := ⟨some 60, _, _, _, _, _⟩) (di := some 60) (L := [(some 59, 4)]) (f := Jo.Fact.num (opl (n0 + n1 + n2))) (by decide) (by decide) (by decide) (fun _ _ _ h => h) rfl rfl rfl rfl (fun vs wj hJ hd K hK => ?_) ?_
   · have d4 : (Jo.Fact.eq (.int .i64 (n0 + n1 + n2))).P (vs 4) wj := hd 4 (by decide)
     clear hd; simp only [Jo.putl, Jo.zd, Jo.ze, Act.put, Jo.za, Jo.zb, Jo.zc] at hK ⊢; generalize vs 4 = u4 at hK d4 ⊢
     replace d4 : u4 = _ := d4
     subst d4; go_simp; refine (nOf _ HBP.out.1 HBP.out.2 rfl).mono ?_; rintro ee wk ⟨K90, s90, M90, E90, rfl, q90, B⟩; exact hK.out _ _ ⟨K90, s90, M90, E90, rfl, q90⟩ B
   refine Jo.pcons (i := 6) (o := ⟨some 61, _, _, _, _, _⟩) (di := some 61) (L := [(some 60, 5)]) (f := Jo.Fact.iv zp) (by decide) (by decide) (by decide) (fun _ _ _ h => h) rfl rfl rfl rfl (fun vs wj hJ hd K hK => ?_) ?_
   · have d5 : (Jo.Fact.num (opl (n0 + n1 + n2))).P (vs 5) wj := hd 5 (by decide)
     clear hd; simp only [Jo.putl, Jo.zd, Jo.ze, Act.put, Jo.za, Jo.zb, Jo.zc] at hK ⊢; generalize vs 5 = u5 at hK d5 ⊢; obtain ⟨K90, s90, M90, E90, rfl, q90⟩ := d5; go_simp; refine (kvPoint q90.top q90.rk HZP.out).mono ?_; rintro ee wk ⟨e30, K30, s30, M30, E30, K30b, s30b, M30b, E30b, rfl, v30, B⟩; exact hK.out _ _ ⟨e30, K30, s30, M30, E30, K30b, s30b, M30b, E30b, rfl, v30⟩ B
   refine Jo.pcons (i := 7) (o := ⟨some 62, _, _, _, _, _⟩) (di := some 62) (L := []) (f := Jo.q9 e20 K20 s20 M20 E20 K20b s20b M20b E20b) (by decide) (by decide) (by decide) (fun _ _ _ h => h) rfl rfl rfl rfl (fun vs wj hJ hd K hK => ?_) ?_
   · clear hd; simp only [Jo.putl, Jo.ze, Act.put, Jo.za, Jo.zb, Jo.zc] at hK ⊢
     have xX80 : World.cell? wj ⟨w4.heap.size, 0, none⟩ = some (.bool e20) := (X8.below hJ).cell 0
     have xX81 : World.cell? wj ⟨w4.heap.size, 1, none⟩ = some (.int .i64 K20) := (X8.below hJ).cell 1
     have xX82 : World.cell? wj ⟨w4.heap.size, 2, none⟩ = some (.bool s20) := (X8.below hJ).cell 2
     have xX83 : World.cell? wj ⟨w4.heap.size, 3, none⟩ = some (.int .u64 M20) := (X8.below hJ).cell 3
     have xX84 : World.cell? wj ⟨w4.heap.size, 4, none⟩ = some (.int .i64 E20) := (X8.below hJ).cell 4
     have xX85 : World.cell? wj ⟨w4.heap.size, 5, none⟩ = some (.int .i64 K20b) := (X8.below hJ).cell 5
     have xX86 : World.cell? wj ⟨w4.heap.size, 6, none⟩ = some (.bool s20b) := (X8.below hJ).cell 6
     have xX87 : World.cell? wj ⟨w4.heap.size, 7, none⟩ = some (.int .u64 M20b) := (X8.below hJ).cell 7
     have xX88 : World.cell? wj ⟨w4.heap.size, 8, none⟩ = some (.int .i64 E20b) := (X8.below hJ).cell 8
     go_simp; exact hK.out _ _ rfl (br _ _)
   refine Jo.pcons (i := 8) (o := ⟨some 63, _, _, _, _, _⟩) (di := some 63) (L := []) (f := Jo.q9 e21 K21 s21 M21 E21 K21b s21b M21b E21b) (by decide) (by decide) (by decide) (fun _ _ _ h => h) rfl rfl rfl rfl (fun vs wj hJ hd K hK => ?_) ?_
   · clear hd; simp only [Jo.putl, Jo.ze, Act.put, Jo.za, Jo.zb, Jo.zc] at hK ⊢
     have xX90 : World.cell? wj ⟨w7.heap.size, 0, none⟩ = some (.bool e21) := (X9.below hJ).cell 0
     have xX91 : World.cell? wj ⟨w7.heap.size, 1, none⟩ = some (.int .i64 K21) := (X9.below hJ).cell 1
     have xX92 : World.cell? wj ⟨w7.heap.size, 2, none⟩ = some (.bool s21) := (X9.below hJ).cell 2
     have xX93 : World.cell? wj ⟨w7.heap.size, 3, none⟩ = some (.int .u64 M21) := (X9.below hJ).cell 3
     have xX94 : World.cell? wj ⟨w7.heap.size, 4, none⟩ = some (.int .i64 E21) := (X9.below hJ).cell 4
     have xX95 : World.cell? wj ⟨w7.heap.size, 5, none⟩ = some (.int .i64 K21b) := (X9.below hJ).cell 5
     have xX96 : World.cell? wj ⟨w7.heap.size, 6, none⟩ = some (.bool s21b) := (X9.below hJ).cell 6
     have xX97 : World.cell? wj ⟨w7.heap.size, 7, none⟩ = some (.int .u64 M21b) := (X9.below hJ).cell 7
     have xX98 : World.cell? wj ⟨w7.heap.size, 8, none⟩ = some (.int .i64 E21b) := (X9.below hJ).cell 8
     go_simp; exact hK.out _ _ rfl (br _ _)
   refine Jo.pcons (i := 9) (o := ⟨some 64, _, _, _, _, _⟩) (di := some 64) (L := [(some 61, 6), (some 62, 7), (some 63, 8)]) (f := Jo.Fact.iv2 (none) (none)) (by decide) (by decide) (by decide) (fun _ _ _ h => h) rfl rfl rfl rfl (fun vs wj hJ hd K hK => ?_) ?_
   · have d6 : (Jo.Fact.iv zp).P (vs 6) wj := hd 6 (by decide)
     have d7 : (Jo.q9 e20 K20 s20 M20 E20 K20b s20b M20b E20b).P (vs 7) wj := hd 7 (by decide)
     have d8 : (Jo.q9 e21 K21 s21 M21 E21 K21b s21b M21b E21b).P (vs 8) wj := hd 8 (by decide)
     simp only [Jo.putl, Jo.zd, Jo.ze, Act.put, Jo.za, Jo.zb, Jo.zc] at hK ⊢; clear hd; generalize vs 6 = u6 at hK d6 ⊢; generalize vs 7 = u7 at hK d7 ⊢; generalize vs 8 = u8 at hK d8 ⊢; obtain ⟨e30, K30, s30, M30, E30, K30b, s30b, M30b, E30b, rfl, v30⟩ := d6
     replace d7 : u7 = _ := d7
     subst d7
     replace d8 : u8 = _ := d8
     subst d8; go_simp; refine (bkPlus (hT2.below hJ) v30.top.1 v30.top.2 v20.top.1 v20.top.2 v21.top.1 v21.top.2 v30.rk v20.rk v21.rk HPA.out HPB.out).mono ?_; rintro ee wk ⟨e31, K31, s31, M31, E31, K31b, s31b, M31b, E31b, e32, K32, s32, M32, E32, K32b, s32b, M32b, E32b, rfl, v31, v32, B⟩; exact hK.out _ _ ⟨e31, K31, s31, M31, E31, K31b, s31b, M31b, E31b, e32, K32, s32, M32, E32, K32b, s32b, M32b, E32b, rfl, v31, v32⟩ B
   refine Jo.pcons (i := 10) (o := ⟨some 54, _, _, _, _, _⟩) (di := some 54) (L := [(some 64, 9)]) (f := Jo.Fact.iv2 (none) (none)) (by decide) (by decide) (by decide) (fun _ _ _ h => h) rfl rfl rfl rfl (fun vs wj hJ hd K hK => ?_) ?_
   · have d9 : (Jo.Fact.iv2 (none) (none)).P (vs 9) wj := hd 9 (by decide)
     clear hd; simp only [Jo.putl, Jo.zd, Jo.ze, Act.put, Jo.za, Jo.zb, Jo.zc] at hK ⊢; generalize vs 9 = u9 at hK d9 ⊢; obtain ⟨e31, K31, s31, M31, E31, K31b, s31b, M31b, E31b, e32, K32, s32, M32, E32, K32b, s32b, M32b, E32b, rfl, v31, v32⟩ := d9; go_simp; exact hK.out _ _ ⟨_, _, _, _, _, _, _, _, _, _, _, _, _, _, _, _, _, _, rfl, v31, v32⟩ (br _ _)
   refine Jo.pcons (i := 11) (o := ⟨some 65, _, _, _, _, _⟩) (di := some 65) (L := [(some 54, 10)]) (f := Jo.Fact.iv (none)) (by decide) (by decide) (by decide) (fun _ _ _ h => h) rfl rfl rfl rfl (fun vs wj hJ hd K hK => ?_) ?_
   · have d10 : (Jo.Fact.iv2 (none) (none)).P (vs 10) wj := hd 10 (by decide)
     clear hd; simp only [Jo.putl, Jo.zd, Jo.ze, Act.put, Jo.za, Jo.zb, Jo.zc] at hK ⊢; generalize vs 10 = u10 at hK d10 ⊢; obtain ⟨e31, K31, s31, M31, E31, K31b, s31b, M31b, E31b, e32, K32, s32, M32, E32, K32b, s32b, M32b, E32b, rfl, v31, v32⟩ := d10; go_simp; exact hK.out _ _ ⟨_, _, _, _, _, _, _, _, _, rfl, v31⟩ (br _ _)
   refine Jo.pcons (i := 12) (o := ⟨some 66, _, _, _, _, _⟩) (di := some 66) (L := [(some 54, 10)]) (f := Jo.Fact.iv (none)) (by decide) (by decide) (by decide) (fun _ _ _ h => h) rfl rfl rfl rfl (fun vs wj hJ hd K hK => ?_) ?_
   · have d10 : (Jo.Fact.iv2 (none) (none)).P (vs 10) wj := hd 10 (by decide)
     clear hd; simp only [Jo.putl, Jo.zd, Jo.ze, Act.put, Jo.za, Jo.zb, Jo.zc] at hK ⊢; generalize vs 10 = u10 at hK d10 ⊢; obtain ⟨e31, K31, s31, M31, E31, K31b, s31b, M31b, E31b, e32, K32, s32, M32, E32, K32b, s32b, M32b, E32b, rfl, v31, v32⟩ := d10; go_simp; exact hK.out _ _ ⟨_, _, _, _, _, _, _, _, _, rfl, v32⟩ (br _ _)
   refine Jo.pnew (i := 13) (o := ⟨some 10, _, _, _, _, _⟩) (di := some 10) (L := []) (by decide) (by decide) (by decide) (by decide) rfl rfl rfl rfl (fun vs wj K hK => ?_) ?_
   · simp only [Jo.putl, Jo.ze, Act.put, Jo.za, Jo.zb, Jo.zc] at hK ⊢; go_simp; exact hK.out
   refine Jo.pnew (i := 14) (o := ⟨some 11, _, _, _, _, _⟩) (di := some 11) (L := []) (by decide) (by decide) (by decide) (by decide) rfl rfl rfl rfl (fun vs wj K hK => ?_) ?_
   · simp only [Jo.putl, Jo.ze, Act.put, Jo.za, Jo.zb, Jo.zc] at hK ⊢; go_simp; exact hK.out
   refine Jo.psto (o := ⟨none, _, _, _, _, _⟩) (di := none) (L := [(some 65, 11), (some 10, 13), (some 11, 14)]) (by decide) (by decide) (by decide) rfl rfl rfl rfl (fun vs wj hJ hd g hg X K hK => ?_) ?_
   · have d11 : (Jo.Fact.iv (none)).P (vs 11) wj := hd 11 (by decide)
     clear hd; simp only [Jo.putl, Jo.zd, Jo.ze, Act.put, Jo.za, Jo.zb, Jo.zc] at hK ⊢; simp only [hg] at hK ⊢; clear hg; generalize vs 11 = u11 at hK d11 ⊢; generalize vs 14 = u14 at hK ⊢; obtain ⟨e31, K31, s31, M31, E31, K31b, s31b, M31b, E31b, rfl, v31⟩ := d11; have y0 := X.a 0 (.bool false) rfl; have z0 := X.frozen 0; have y1 := X.a 1 (.int .i64 0) rfl; have z1 := X.frozen 1; have y2 := X.a 2 (.bool false) rfl
     have z2 := X.frozen 2; have y3 := X.a 3 (.int .u64 0) rfl; have z3 := X.frozen 3; have y4 := X.a 4 (.int .i64 0) rfl; have z4 := X.frozen 4; have y5 := X.a 5 (.int .i64 0) rfl; have z5 := X.frozen 5; have y6 := X.a 6 (.bool false) rfl; have z6 := X.frozen 6; have y7 := X.a 7 (.int .u64 0) rfl; have z7 := X.frozen 7; have y8 := X.a 8 (.int .i64 0) rfl; have z8 := X.frozen 8; go_simp; have SX := StN.mk9 X (.bool e31) (.int .i64 K31) (.bool s31) (.int .u64 M31) (.int .i64 E31) (.int .i64 K31b) (.bool s31b) (.int .u64 M31b) (.int .i64 E31b)
     exact hK.out undef _ _ rfl SX
   exact Jo.StepsI.nil
 have d0 : (Jo.qi n0).P (vs 0) w9 := hd 0 (by decide)
 have d1 : (Jo.qi n1).P (vs 1) w9 := hd 1 (by decide)
 have d2 : (Jo.Fact.eq (.int .i64 (n0 + n1))).P (vs 2) w9 := hd 2 (by decide)
 have d3 : (Jo.qi n2).P (vs 3) w9 := hd 3 (by decide)
 have d4 : (Jo.Fact.eq (.int .i64 (n0 + n1 + n2))).P (vs 4) w9 := hd 4 (by decide)
 have d5 : (Jo.Fact.num (opl (n0 + n1 + n2))).P (vs 5) w9 := hd 5 (by decide)
 have d6 : (Jo.Fact.iv zp).P (vs 6) w9 := hd 6 (by decide)
 have d7 : (Jo.q9 e20 K20 s20 M20 E20 K20b s20b M20b E20b).P (vs 7) w9 := hd 7 (by decide)
 have d8 : (Jo.q9 e21 K21 s21 M21 E21 K21b s21b M21b E21b).P (vs 8) w9 := hd 8 (by decide)
 have d9 : (Jo.Fact.iv2 (none) (none)).P (vs 9) w9 := hd 9 (by decide)
 have d10 : (Jo.Fact.iv2 (none) (none)).P (vs 10) w9 := hd 10 (by decide)
 have d11 : (Jo.Fact.iv (none)).P (vs 11) w9 := hd 11 (by decide)
 have d12 : (Jo.Fact.iv (none)).P (vs 12) w9 := hd 12 (by decide)
 clear hd; obtain ⟨g10, g11, csp, ep, eq_, hg10, hg11, hneg10, ee, X10, X11⟩ := hpq; simp only [Jo.putl, Jo.zd, Jo.ze, Act.put, Jo.za, Jo.zb, Jo.zc]; simp only [ep, eq_]; clear ep eq_; generalize vs 0 = u0 at d0 ⊢; generalize vs 1 = u1 at d1 ⊢; generalize vs 2 = u2 at d2 ⊢; generalize vs 3 = u3 at d3 ⊢; generalize vs 4 = u4 at d4 ⊢; generalize vs 5 = u5 at d5 ⊢; generalize vs 6 = u6 at d6 ⊢; generalize vs 7 = u7 at d7 ⊢
 generalize vs 8 = u8 at d8 ⊢; generalize vs 9 = u9 at d9 ⊢; generalize vs 10 = u10 at d10 ⊢; generalize vs 11 = u11 at d11 ee ⊢; generalize vs 12 = u12 at d12 ⊢; generalize vs 15 = u15 at ⊢; clear vs
 replace d0 : u0 = _ := d0
 subst d0
 replace d1 : u1 = _ := d1
 subst d1
 replace d2 : u2 = _ := d2
 subst d2
 replace d3 : u3 = _ := d3
 subst d3
 replace d4 : u4 = _ := d4
 subst d4; obtain ⟨K90, s90, M90, E90, rfl, _⟩ := d5; obtain ⟨e30, K30, s30, M30, E30, K30b, s30b, M30b, E30b, rfl, v30⟩ := d6
 replace d7 : u7 = _ := d7
 subst d7
 replace d8 : u8 = _ := d8
 subst d8
 obtain - := d9
 obtain - := d10
 obtain ⟨e31, K31, s31, M31, E31, K31b, s31b, M31b, E31b, rfl, v31⟩ := d11; obtain ⟨e32, K32, s32, M32, E32, K32b, s32b, M32b, E32b, rfl, v32⟩ := d12
 injection ee with ee
 subst ee; replace X8 := X8.below hJ; replace X9 := X9.below hJ; replace hT := hT.below hJ; replace hT2 := hT2.below hJ; replace HB := Hqb HB hJ; have xX11 := X11.cell; have zX110 := X11.frozen
 refine Jo.jnext (i := 16) (o := ⟨none, _, _, _, _, _⟩) (by kernel_rfl) rfl (fun K hK => ?_)
 go_simp; refine hK.out _ _ ?_; clear hK K xX11 zX110; generalize hS : ((((((((w9.setCell _ _).setCell _ _).setCell _ _).setCell _ _).setCell _ _).setCell _ _).setCell _ _).setCell _ _).setCell _ _ = wA at *; have SX := StN.of9 X11 hS; replace X8 := X8.stn SX (by omega); replace X9 := X9.stn SX (by omega); replace X10 := X10.stn SX (by omega); replace hT := hT.stn SX (by simp [no8])
 replace hT2 := hT2.stn SX (by simp [no8]); replace HB := Hqs HB SX (by omega); replace X11 := SX.box; clear SX hS; refine Jo.jdone (by kernel_rfl) ?_; clear hszp ltX8 ltX9; have e31t := v31.1; subst e31t; clear v31; have e32t := v32.1; subst e32t; clear v32
 go_upto_region 7 with (fail)
 have ltX8 := X8.lt; have ltX9 := X9.lt; have ltX10 := X10.lt; have ltX11 := X11.lt; have hszp := HB.out.size
 refine Jo.region_pair (T := [0, 1, 2, 3, 4, 5, 6, 7, 8, 9, 10, 11, 12, 13, 14, 15]) (ds := [some 68, some 69, some 70, some 71, some 72, some 73, some 74, some 75, some 76, some 77, some 67, some 78, some 79, some 12, some 13, none, none]) (ls := [[], [], [0, 1], [], [2, 3], [4], [5], [], [], [6, 7, 8], [9], [10], [10], [], [], [11, 13, 14], []]) (k := 17) (L := [(some 68, 0), (some 69, 1), (some 70, 2), (some 71, 3), (some 72, 4), (some 73, 5), (some 74, 6), (some 75, 7), (some 76, 8), (some 77, 9), (some 67, 10), (some 78, 11), (some 79, 12), (some 12, 13), (some 13, 14), (none, 15)]) (fuel := 1) (w1 := wA) (p := 13) (q := 14) (s := 15) (e := 11) (old := #[.bool false, .int .i64 0, .bool false, .int .u64 0, .int .i64 0, .int .i64 0, .bool false, .int .u64 0, .int .i64 0]) (R := 26)
   (F := [Jo.qi n0, Jo.qi n1, Jo.Fact.eq (.int .i64 (n0 - n1)), Jo.qi n2, Jo.Fact.eq (.int .i64 (n0 - n1 + n2)), Jo.Fact.num (opl (n0 - n1 + n2)), Jo.Fact.iv zm, Jo.q9 e20 K20 s20 M20 E20 K20b s20b M20b E20b, Jo.q9 e21 K21 s21 M21 E21 K21b s21b M21b E21b, Jo.Fact.iv2 (none) (none), Jo.Fact.iv2 (none) (none), Jo.Fact.iv (none), Jo.Fact.iv (none), Jo.Fact.any, Jo.Fact.any, Jo.Fact.any, Jo.Fact.any])
   (by decide) (by decide) (by decide) (by kernel_rfl) (by kernel_rfl) (by decide) rfl rfl ?_ (fun vs wB hJ hd hpq => ?_)
 · refine Jo.pcons (i := 0) (o := ⟨some 68, _, _, _, _, _⟩) (di := some 68) (L := []) (f := Jo.qi n0) (by decide) (by decide) (by decide) (fun _ _ _ h => h) rfl rfl rfl rfl (fun vs wj hJ hd K hK => ?_) ?_
   · clear hd; simp only [Jo.putl, Jo.ze, Act.put, Jo.za, Jo.zb, Jo.zc] at hK ⊢; go_simp; exact hK.out _ _ rfl (br _ _)
   refine Jo.pcons (i := 1) (o := ⟨some 69, _, _, _, _, _⟩) (di := some 69) (L := []) (f := Jo.qi n1) (by decide) (by decide) (by decide) (fun _ _ _ h => h) rfl rfl rfl rfl (fun vs wj hJ hd K hK => ?_) ?_
   · clear hd; simp only [Jo.putl, Jo.ze, Act.put, Jo.za, Jo.zb, Jo.zc] at hK ⊢; go_simp; exact hK.out _ _ rfl (br _ _)
   refine Jo.pcons (i := 2) (o := ⟨some 70, _, _, _, _, _⟩) (di := some 70) (L := [(some 68, 0), (some 69, 1)]) (f := Jo.Fact.eq (.int .i64 (n0 - n1))) (by decide) (by decide) (by decide) (fun _ _ _ h => h) rfl rfl rfl rfl (fun vs wj hJ hd K hK => ?_) ?_
   · have d0 : (Jo.qi n0).P (vs 0) wj := hd 0 (by decide)
     have d1 : (Jo.qi n1).P (vs 1) wj := hd 1 (by decide)
     simp only [Jo.putl, Jo.zd, Jo.ze, Act.put, Jo.za, Jo.zb, Jo.zc] at hK ⊢; clear hd; generalize vs 0 = u0 at hK d0 ⊢; generalize vs 1 = u1 at hK d1 ⊢
     replace d0 : u0 = _ := d0
     subst d0
     replace d1 : u1 = _ := d1
     subst d1; have hw := W3.out; go_simp; exact hK.out _ _ rfl (br _ _)
   refine Jo.pcons (i := 3) (o := ⟨some 71, _, _, _, _, _⟩) (di := some 71) (L := []) (f := Jo.qi n2) (by decide) (by decide) (by decide) (fun _ _ _ h => h) rfl rfl rfl rfl (fun vs wj hJ hd K hK => ?_) ?_
   · clear hd; simp only [Jo.putl, Jo.ze, Act.put, Jo.za, Jo.zb, Jo.zc] at hK ⊢; go_simp; exact hK.out _ _ rfl (br _ _)
   refine Jo.pcons (i := 4) (o := ⟨some 72, _, _, _, _, _⟩) (di := some 72) (L := [(some 70, 2), (some 71, 3)]) (f := Jo.Fact.eq (.int .i64 (n0 - n1 + n2))) (by decide) (by decide) (by decide) (fun _ _ _ h => h) rfl rfl rfl rfl (fun vs wj hJ hd K hK => ?_) ?_
   · have d2 : (Jo.Fact.eq (.int .i64 (n0 - n1))).P (vs 2) wj := hd 2 (by decide)
     have d3 : (Jo.qi n2).P (vs 3) wj := hd 3 (by decide)
     simp only [Jo.putl, Jo.zd, Jo.ze, Act.put, Jo.za, Jo.zb, Jo.zc] at hK ⊢; clear hd; generalize vs 2 = u2 at hK d2 ⊢; generalize vs 3 = u3 at hK d3 ⊢
     replace d2 : u2 = _ := d2
     subst d2
     replace d3 : u3 = _ := d3
     subst d3; have hw := W4.out; go_simp; exact hK.out _ _ rfl (br _ _)
   refine Jo.pcons (i := 5) (o := ⟨some 73, _, _, _, _, _⟩) (di := some 73) (L := [(some 72, 4)]) (f := Jo.Fact.num (opl (n0 - n1 + n2))) (by decide) (by decide) (by decide) (fun _ _ _ h => h) rfl rfl rfl rfl (fun vs wj hJ hd K hK => ?_) ?_
   · have d4 : (Jo.Fact.eq (.int .i64 (n0 - n1 + n2))).P (vs 4) wj := hd 4 (by decide)
     clear hd; simp only [Jo.putl, Jo.zd, Jo.ze, Act.put, Jo.za, Jo.zb, Jo.zc] at hK ⊢; generalize vs 4 = u4 at hK d4 ⊢
     replace d4 : u4 = _ := d4
     subst d4; go_simp; refine (nOf _ HBM.out.1 HBM.out.2 rfl).mono ?_; rintro ee wk ⟨K100, s100, M100, E100, rfl, q100, B⟩; exact hK.out _ _ ⟨K100, s100, M100, E100, rfl, q100⟩ B
   refine Jo.pcons (i := 6) (o := ⟨some 74, _, _, _, _, _⟩) (di := some 74) (L := [(some 73, 5)]) (f := Jo.Fact.iv zm) (by decide) (by decide) (by decide) (fun _ _ _ h => h) rfl rfl rfl rfl (fun vs wj hJ hd K hK => ?_) ?_
   · have d5 : (Jo.Fact.num (opl (n0 - n1 + n2))).P (vs 5) wj := hd 5 (by decide)
     clear hd; simp only [Jo.putl, Jo.zd, Jo.ze, Act.put, Jo.za, Jo.zb, Jo.zc] at hK ⊢; generalize vs 5 = u5 at hK d5 ⊢; obtain ⟨K100, s100, M100, E100, rfl, q100⟩ := d5; go_simp; refine (kvPoint q100.top q100.rk HZM.out).mono ?_; rintro ee wk ⟨e40, K40, s40, M40, E40, K40b, s40b, M40b, E40b, rfl, v40, B⟩; exact hK.out _ _ ⟨e40, K40, s40, M40, E40, K40b, s40b, M40b, E40b, rfl, v40⟩ B
   refine Jo.pcons (i := 7) (o := ⟨some 75, _, _, _, _, _⟩) (di := some 75) (L := []) (f := Jo.q9 e20 K20 s20 M20 E20 K20b s20b M20b E20b) (by decide) (by decide) (by decide) (fun _ _ _ h => h) rfl rfl rfl rfl (fun vs wj hJ hd K hK => ?_) ?_
   · clear hd; simp only [Jo.putl, Jo.ze, Act.put, Jo.za, Jo.zb, Jo.zc] at hK ⊢
     have xX80 : World.cell? wj ⟨w4.heap.size, 0, none⟩ = some (.bool e20) := (X8.below hJ).cell 0
     have xX81 : World.cell? wj ⟨w4.heap.size, 1, none⟩ = some (.int .i64 K20) := (X8.below hJ).cell 1
     have xX82 : World.cell? wj ⟨w4.heap.size, 2, none⟩ = some (.bool s20) := (X8.below hJ).cell 2
     have xX83 : World.cell? wj ⟨w4.heap.size, 3, none⟩ = some (.int .u64 M20) := (X8.below hJ).cell 3
     have xX84 : World.cell? wj ⟨w4.heap.size, 4, none⟩ = some (.int .i64 E20) := (X8.below hJ).cell 4
     have xX85 : World.cell? wj ⟨w4.heap.size, 5, none⟩ = some (.int .i64 K20b) := (X8.below hJ).cell 5
     have xX86 : World.cell? wj ⟨w4.heap.size, 6, none⟩ = some (.bool s20b) := (X8.below hJ).cell 6
     have xX87 : World.cell? wj ⟨w4.heap.size, 7, none⟩ = some (.int .u64 M20b) := (X8.below hJ).cell 7
     have xX88 : World.cell? wj ⟨w4.heap.size, 8, none⟩ = some (.int .i64 E20b) := (X8.below hJ).cell 8
     go_simp; exact hK.out _ _ rfl (br _ _)
   refine Jo.pcons (i := 8) (o := ⟨some 76, _, _, _, _, _⟩) (di := some 76) (L := []) (f := Jo.q9 e21 K21 s21 M21 E21 K21b s21b M21b E21b) (by decide) (by decide) (by decide) (fun _ _ _ h => h) rfl rfl rfl rfl (fun vs wj hJ hd K hK => ?_) ?_
   · clear hd; simp only [Jo.putl, Jo.ze, Act.put, Jo.za, Jo.zb, Jo.zc] at hK ⊢
     have xX90 : World.cell? wj ⟨w7.heap.size, 0, none⟩ = some (.bool e21) := (X9.below hJ).cell 0
     have xX91 : World.cell? wj ⟨w7.heap.size, 1, none⟩ = some (.int .i64 K21) := (X9.below hJ).cell 1
     have xX92 : World.cell? wj ⟨w7.heap.size, 2, none⟩ = some (.bool s21) := (X9.below hJ).cell 2
     have xX93 : World.cell? wj ⟨w7.heap.size, 3, none⟩ = some (.int .u64 M21) := (X9.below hJ).cell 3
     have xX94 : World.cell? wj ⟨w7.heap.size, 4, none⟩ = some (.int .i64 E21) := (X9.below hJ).cell 4
     have xX95 : World.cell? wj ⟨w7.heap.size, 5, none⟩ = some (.int .i64 K21b) := (X9.below hJ).cell 5
     have xX96 : World.cell? wj ⟨w7.heap.size, 6, none⟩ = some (.bool s21b) := (X9.below hJ).cell 6
     have xX97 : World.cell? wj ⟨w7.heap.size, 7, none⟩ = some (.int .u64 M21b) := (X9.below hJ).cell 7
     have xX98 : World.cell? wj ⟨w7.heap.size, 8, none⟩ = some (.int .i64 E21b) := (X9.below hJ).cell 8
     go_simp; exact hK.out _ _ rfl (br _ _)
   refine Jo.pcons (i := 9) (o := ⟨some 77, _, _, _, _, _⟩) (di := some 77) (L := [(some 74, 6), (some 75, 7), (some 76, 8)]) (f := Jo.Fact.iv2 (none) (none)) (by decide) (by decide) (by decide) (fun _ _ _ h => h) rfl rfl rfl rfl (fun vs wj hJ hd K hK => ?_) ?_
   · have d6 : (Jo.Fact.iv zm).P (vs 6) wj := hd 6 (by decide)
     have d7 : (Jo.q9 e20 K20 s20 M20 E20 K20b s20b M20b E20b).P (vs 7) wj := hd 7 (by decide)
     have d8 : (Jo.q9 e21 K21 s21 M21 E21 K21b s21b M21b E21b).P (vs 8) wj := hd 8 (by decide)
     simp only [Jo.putl, Jo.zd, Jo.ze, Act.put, Jo.za, Jo.zb, Jo.zc] at hK ⊢; clear hd; generalize vs 6 = u6 at hK d6 ⊢; generalize vs 7 = u7 at hK d7 ⊢; generalize vs 8 = u8 at hK d8 ⊢; obtain ⟨e40, K40, s40, M40, E40, K40b, s40b, M40b, E40b, rfl, v40⟩ := d6
     replace d7 : u7 = _ := d7
     subst d7
     replace d8 : u8 = _ := d8
     subst d8; go_simp; refine (bkMinus (hT2.below hJ) v40.top.1 v40.top.2 v20.top.1 v20.top.2 v21.top.1 v21.top.2 v40.rk v20.rk v21.rk HMA.out HMB.out).mono ?_; rintro ee wk ⟨e41, K41, s41, M41, E41, K41b, s41b, M41b, E41b, e42, K42, s42, M42, E42, K42b, s42b, M42b, E42b, rfl, v41, v42, B⟩; exact hK.out _ _ ⟨e41, K41, s41, M41, E41, K41b, s41b, M41b, E41b, e42, K42, s42, M42, E42, K42b, s42b, M42b, E42b, rfl, v41, v42⟩ B
   refine Jo.pcons (i := 10) (o := ⟨some 67, _, _, _, _, _⟩) (di := some 67) (L := [(some 77, 9)]) (f := Jo.Fact.iv2 (none) (none)) (by decide) (by decide) (by decide) (fun _ _ _ h => h) rfl rfl rfl rfl (fun vs wj hJ hd K hK => ?_) ?_
   · have d9 : (Jo.Fact.iv2 (none) (none)).P (vs 9) wj := hd 9 (by decide)
     clear hd; simp only [Jo.putl, Jo.zd, Jo.ze, Act.put, Jo.za, Jo.zb, Jo.zc] at hK ⊢; generalize vs 9 = u9 at hK d9 ⊢; obtain ⟨e41, K41, s41, M41, E41, K41b, s41b, M41b, E41b, e42, K42, s42, M42, E42, K42b, s42b, M42b, E42b, rfl, v41, v42⟩ := d9; go_simp; exact hK.out _ _ ⟨_, _, _, _, _, _, _, _, _, _, _, _, _, _, _, _, _, _, rfl, v41, v42⟩ (br _ _)
   refine Jo.pcons (i := 11) (o := ⟨some 78, _, _, _, _, _⟩) (di := some 78) (L := [(some 67, 10)]) (f := Jo.Fact.iv (none)) (by decide) (by decide) (by decide) (fun _ _ _ h => h) rfl rfl rfl rfl (fun vs wj hJ hd K hK => ?_) ?_
   · have d10 : (Jo.Fact.iv2 (none) (none)).P (vs 10) wj := hd 10 (by decide)
     clear hd; simp only [Jo.putl, Jo.zd, Jo.ze, Act.put, Jo.za, Jo.zb, Jo.zc] at hK ⊢; generalize vs 10 = u10 at hK d10 ⊢; obtain ⟨e41, K41, s41, M41, E41, K41b, s41b, M41b, E41b, e42, K42, s42, M42, E42, K42b, s42b, M42b, E42b, rfl, v41, v42⟩ := d10; go_simp; exact hK.out _ _ ⟨_, _, _, _, _, _, _, _, _, rfl, v41⟩ (br _ _)
   refine Jo.pcons (i := 12) (o := ⟨some 79, _, _, _, _, _⟩) (di := some 79) (L := [(some 67, 10)]) (f := Jo.Fact.iv (none)) (by decide) (by decide) (by decide) (fun _ _ _ h => h) rfl rfl rfl rfl (fun vs wj hJ hd K hK => ?_) ?_
   · have d10 : (Jo.Fact.iv2 (none) (none)).P (vs 10) wj := hd 10 (by decide)
     clear hd; simp only [Jo.putl, Jo.zd, Jo.ze, Act.put, Jo.za, Jo.zb, Jo.zc] at hK ⊢; generalize vs 10 = u10 at hK d10 ⊢; obtain ⟨e41, K41, s41, M41, E41, K41b, s41b, M41b, E41b, e42, K42, s42, M42, E42, K42b, s42b, M42b, E42b, rfl, v41, v42⟩ := d10; go_simp; exact hK.out _ _ ⟨_, _, _, _, _, _, _, _, _, rfl, v42⟩ (br _ _)
   refine Jo.pnew (i := 13) (o := ⟨some 12, _, _, _, _, _⟩) (di := some 12) (L := []) (by decide) (by decide) (by decide) (by decide) rfl rfl rfl rfl (fun vs wj K hK => ?_) ?_
   · simp only [Jo.putl, Jo.ze, Act.put, Jo.za, Jo.zb, Jo.zc] at hK ⊢; go_simp; exact hK.out
   refine Jo.pnew (i := 14) (o := ⟨some 13, _, _, _, _, _⟩) (di := some 13) (L := []) (by decide) (by decide) (by decide) (by decide) rfl rfl rfl rfl (fun vs wj K hK => ?_) ?_
   · simp only [Jo.putl, Jo.ze, Act.put, Jo.za, Jo.zb, Jo.zc] at hK ⊢; go_simp; exact hK.out
   refine Jo.psto (o := ⟨none, _, _, _, _, _⟩) (di := none) (L := [(some 78, 11), (some 12, 13), (some 13, 14)]) (by decide) (by decide) (by decide) rfl rfl rfl rfl (fun vs wj hJ hd g hg X K hK => ?_) ?_
   · have d11 : (Jo.Fact.iv (none)).P (vs 11) wj := hd 11 (by decide)
     clear hd; simp only [Jo.putl, Jo.zd, Jo.ze, Act.put, Jo.za, Jo.zb, Jo.zc] at hK ⊢; simp only [hg] at hK ⊢; clear hg; generalize vs 11 = u11 at hK d11 ⊢; generalize vs 14 = u14 at hK ⊢; obtain ⟨e41, K41, s41, M41, E41, K41b, s41b, M41b, E41b, rfl, v41⟩ := d11; have y0 := X.a 0 (.bool false) rfl; have z0 := X.frozen 0; have y1 := X.a 1 (.int .i64 0) rfl; have z1 := X.frozen 1; have y2 := X.a 2 (.bool false) rfl
     have z2 := X.frozen 2; have y3 := X.a 3 (.int .u64 0) rfl; have z3 := X.frozen 3; have y4 := X.a 4 (.int .i64 0) rfl; have z4 := X.frozen 4; have y5 := X.a 5 (.int .i64 0) rfl; have z5 := X.frozen 5; have y6 := X.a 6 (.bool false) rfl; have z6 := X.frozen 6; have y7 := X.a 7 (.int .u64 0) rfl; have z7 := X.frozen 7; have y8 := X.a 8 (.int .i64 0) rfl; have z8 := X.frozen 8; go_simp; have SX := StN.mk9 X (.bool e41) (.int .i64 K41) (.bool s41) (.int .u64 M41) (.int .i64 E41) (.int .i64 K41b) (.bool s41b) (.int .u64 M41b) (.int .i64 E41b)
     exact hK.out undef _ _ rfl SX
   exact Jo.StepsI.nil
 have d0 : (Jo.qi n0).P (vs 0) wB := hd 0 (by decide)
 have d1 : (Jo.qi n1).P (vs 1) wB := hd 1 (by decide)
 have d2 : (Jo.Fact.eq (.int .i64 (n0 - n1))).P (vs 2) wB := hd 2 (by decide)
 have d3 : (Jo.qi n2).P (vs 3) wB := hd 3 (by decide)
 have d4 : (Jo.Fact.eq (.int .i64 (n0 - n1 + n2))).P (vs 4) wB := hd 4 (by decide)
 have d5 : (Jo.Fact.num (opl (n0 - n1 + n2))).P (vs 5) wB := hd 5 (by decide)
 have d6 : (Jo.Fact.iv zm).P (vs 6) wB := hd 6 (by decide)
 have d7 : (Jo.q9 e20 K20 s20 M20 E20 K20b s20b M20b E20b).P (vs 7) wB := hd 7 (by decide)
 have d8 : (Jo.q9 e21 K21 s21 M21 E21 K21b s21b M21b E21b).P (vs 8) wB := hd 8 (by decide)
 have d9 : (Jo.Fact.iv2 (none) (none)).P (vs 9) wB := hd 9 (by decide)
 have d10 : (Jo.Fact.iv2 (none) (none)).P (vs 10) wB := hd 10 (by decide)
 have d11 : (Jo.Fact.iv (none)).P (vs 11) wB := hd 11 (by decide)
 have d12 : (Jo.Fact.iv (none)).P (vs 12) wB := hd 12 (by decide)
 clear hd; obtain ⟨g12, g13, csp, ep, eq_, hg12, hg13, hneg12, ee, X12, X13⟩ := hpq; simp only [Jo.putl, Jo.zd, Jo.ze, Act.put, Jo.za, Jo.zb, Jo.zc]; simp only [ep, eq_]; clear ep eq_; generalize vs 0 = u0 at d0 ⊢; generalize vs 1 = u1 at d1 ⊢; generalize vs 2 = u2 at d2 ⊢; generalize vs 3 = u3 at d3 ⊢; generalize vs 4 = u4 at d4 ⊢; generalize vs 5 = u5 at d5 ⊢; generalize vs 6 = u6 at d6 ⊢; generalize vs 7 = u7 at d7 ⊢
 generalize vs 8 = u8 at d8 ⊢; generalize vs 9 = u9 at d9 ⊢; generalize vs 10 = u10 at d10 ⊢; generalize vs 11 = u11 at d11 ee ⊢; generalize vs 12 = u12 at d12 ⊢; generalize vs 15 = u15 at ⊢; clear vs
 replace d0 : u0 = _ := d0
 subst d0
 replace d1 : u1 = _ := d1
 subst d1
 replace d2 : u2 = _ := d2
 subst d2
 replace d3 : u3 = _ := d3
 subst d3
 replace d4 : u4 = _ := d4
 subst d4; obtain ⟨K100, s100, M100, E100, rfl, _⟩ := d5; obtain ⟨e40, K40, s40, M40, E40, K40b, s40b, M40b, E40b, rfl, v40⟩ := d6
 replace d7 : u7 = _ := d7
 subst d7
 replace d8 : u8 = _ := d8
 subst d8
 obtain - := d9
 obtain - := d10
 obtain ⟨e41, K41, s41, M41, E41, K41b, s41b, M41b, E41b, rfl, v41⟩ := d11; obtain ⟨e42, K42, s42, M42, E42, K42b, s42b, M42b, E42b, rfl, v42⟩ := d12
 injection ee with ee
 subst ee; replace X8 := X8.below hJ; replace X9 := X9.below hJ; replace X10 := X10.below hJ; replace X11 := X11.below hJ; replace hT := hT.below hJ; replace hT2 := hT2.below hJ; replace HB := Hqb HB hJ; have xX13 := X13.cell; have zX130 := X13.frozen
 refine Jo.jnext (i := 16) (o := ⟨none, _, _, _, _, _⟩) (by kernel_rfl) rfl (fun K hK => ?_)
 go_simp; refine hK.out _ _ ?_; clear hK K xX13 zX130; generalize hS : ((((((((wB.setCell _ _).setCell _ _).setCell _ _).setCell _ _).setCell _ _).setCell _ _).setCell _ _).setCell _ _).setCell _ _ = wC at *; have SX := StN.of9 X13 hS; replace X8 := X8.stn SX (by omega); replace X9 := X9.stn SX (by omega); replace X10 := X10.stn SX (by omega); replace X11 := X11.stn SX (by omega)
 replace X12 := X12.stn SX (by omega); replace hT := hT.stn SX (by simp [no8]); replace hT2 := hT2.stn SX (by simp [no8]); replace HB := Hqs HB SX (by omega); replace X13 := SX.box; clear SX hS; refine Jo.jdone (by kernel_rfl) ?_; clear hszp ltX8 ltX9 ltX10 ltX11; have e41t := v41.1; subst e41t; clear v41; have e42t := v42.1; subst e42t; clear v42
 go_upto_region 8 with (fail)
 obtain ⟨rfl, a20, b20, o20, o20l, o20h⟩ := v20
 have v20 : Ci false K20 s20 M20 E20 K20b s20b M20b E20b (some (oa, oa)) := ⟨rfl, a20, b20, o20, o20l, o20h⟩
 clear a20 b20 o20 o20l o20h; obtain ⟨rfl, a21, b21, o21, o21l, o21h⟩ := v21
 have v21 : Ci false K21 s21 M21 E21 K21b s21b M21b E21b (some (ob, ob)) := ⟨rfl, a21, b21, o21, o21l, o21h⟩
 clear a21 b21 o21 o21l o21h; have xe := HE0.out; have xX8 := X8.cell; have xX9 := X9.cell; have xX10 := X10.cell; have xX11 := X11.cell; have xX12 := X12.cell
 have xX13 := X13.cell
 go_upto_region 11 with (fail)
 clear xX8 xX9 xX10 xX11 xX12 xX13; have ltX8 := X8.lt; have ltX9 := X9.lt; have ltX10 := X10.lt; have ltX11 := X11.lt; have ltX12 := X12.lt
 have ltX13 := X13.lt; have hszp := HB.out.size
 refine Jo.region_pair (T := [0, 1, 2, 3, 4, 5, 6, 7, 8, 9, 10, 11]) (ds := [some 99, some 100, some 101, some 102, some 103, some 104, some 98, some 105, some 106, some 17, some 18, none, none]) (ls := [[], [], [0, 1], [], [], [2, 3, 4], [5], [6], [6], [], [], [7, 9, 10], []]) (k := 13) (L := [(some 99, 0), (some 100, 1), (some 101, 2), (some 102, 3), (some 103, 4), (some 104, 5), (some 98, 6), (some 105, 7), (some 106, 8), (some 17, 9), (some 18, 10), (none, 11)]) (fuel := 1) (w1 := wC) (p := 9) (q := 10) (s := 11) (e := 7) (old := #[.bool false, .int .i64 0, .bool false, .int .u64 0, .int .i64 0, .int .i64 0, .bool false, .int .u64 0, .int .i64 0]) (R := 26)
   (F := [Jo.q9 false K20 s20 M20 E20 K20b s20b M20b E20b, Jo.q9 false K21 s21 M21 E21 K21b s21b M21b E21b, Jo.Fact.iv ml, Jo.q9 false K20 s20 M20 E20 K20b s20b M20b E20b, Jo.q9 false K21 s21 M21 E21 K21b s21b M21b E21b, Jo.Fact.iv2 (some (oa, oa)) (some (ob, ob)), Jo.Fact.iv2 (some (oa, oa)) (some (ob, ob)), Jo.Fact.iv (some (oa, oa)), Jo.Fact.iv (some (ob, ob)), Jo.Fact.any, Jo.Fact.any, Jo.Fact.any, Jo.Fact.any])
   (by decide) (by decide) (by decide) (by kernel_rfl) (by kernel_rfl) (by decide) rfl rfl ?_ (fun vs wD hJ hd hpq => ?_)
 · refine Jo.pcons (i := 0) (o := ⟨some 99, _, _, _, _, _⟩) (di := some 99) (L := []) (f := Jo.q9 false K20 s20 M20 E20 K20b s20b M20b E20b) (by decide) (by decide) (by decide) (fun _ _ _ h => h) rfl rfl rfl rfl (fun vs wj hJ hd K hK => ?_) ?_
   · clear hd; simp only [Jo.putl, Jo.ze, Act.put, Jo.za, Jo.zb, Jo.zc] at hK ⊢
     have xX80 : World.cell? wj ⟨w4.heap.size, 0, none⟩ = some (.bool false) := (X8.below hJ).cell 0
     have xX81 : World.cell? wj ⟨w4.heap.size, 1, none⟩ = some (.int .i64 K20) := (X8.below hJ).cell 1
     have xX82 : World.cell? wj ⟨w4.heap.size, 2, none⟩ = some (.bool s20) := (X8.below hJ).cell 2
     have xX83 : World.cell? wj ⟨w4.heap.size, 3, none⟩ = some (.int .u64 M20) := (X8.below hJ).cell 3
     have xX84 : World.cell? wj ⟨w4.heap.size, 4, none⟩ = some (.int .i64 E20) := (X8.below hJ).cell 4
     have xX85 : World.cell? wj ⟨w4.heap.size, 5, none⟩ = some (.int .i64 K20b) := (X8.below hJ).cell 5
     have xX86 : World.cell? wj ⟨w4.heap.size, 6, none⟩ = some (.bool s20b) := (X8.below hJ).cell 6
     have xX87 : World.cell? wj ⟨w4.heap.size, 7, none⟩ = some (.int .u64 M20b) := (X8.below hJ).cell 7
     have xX88 : World.cell? wj ⟨w4.heap.size, 8, none⟩ = some (.int .i64 E20b) := (X8.below hJ).cell 8
     go_simp; exact hK.out _ _ rfl (br _ _)
   refine Jo.pcons (i := 1) (o := ⟨some 100, _, _, _, _, _⟩) (di := some 100) (L := []) (f := Jo.q9 false K21 s21 M21 E21 K21b s21b M21b E21b) (by decide) (by decide) (by decide) (fun _ _ _ h => h) rfl rfl rfl rfl (fun vs wj hJ hd K hK => ?_) ?_
   · clear hd; simp only [Jo.putl, Jo.ze, Act.put, Jo.za, Jo.zb, Jo.zc] at hK ⊢
     have xX90 : World.cell? wj ⟨w7.heap.size, 0, none⟩ = some (.bool false) := (X9.below hJ).cell 0
     have xX91 : World.cell? wj ⟨w7.heap.size, 1, none⟩ = some (.int .i64 K21) := (X9.below hJ).cell 1
     have xX92 : World.cell? wj ⟨w7.heap.size, 2, none⟩ = some (.bool s21) := (X9.below hJ).cell 2
     have xX93 : World.cell? wj ⟨w7.heap.size, 3, none⟩ = some (.int .u64 M21) := (X9.below hJ).cell 3
     have xX94 : World.cell? wj ⟨w7.heap.size, 4, none⟩ = some (.int .i64 E21) := (X9.below hJ).cell 4
     have xX95 : World.cell? wj ⟨w7.heap.size, 5, none⟩ = some (.int .i64 K21b) := (X9.below hJ).cell 5
     have xX96 : World.cell? wj ⟨w7.heap.size, 6, none⟩ = some (.bool s21b) := (X9.below hJ).cell 6
     have xX97 : World.cell? wj ⟨w7.heap.size, 7, none⟩ = some (.int .u64 M21b) := (X9.below hJ).cell 7
     have xX98 : World.cell? wj ⟨w7.heap.size, 8, none⟩ = some (.int .i64 E21b) := (X9.below hJ).cell 8
     go_simp; exact hK.out _ _ rfl (br _ _)
   refine Jo.pcons (i := 2) (o := ⟨some 101, _, _, _, _, _⟩) (di := some 101) (L := [(some 99, 0), (some 100, 1)]) (f := Jo.Fact.iv ml) (by decide) (by decide) (by decide) (fun _ _ _ h => h) rfl rfl rfl rfl (fun vs wj hJ hd K hK => ?_) ?_
   · have d0 : (Jo.q9 false K20 s20 M20 E20 K20b s20b M20b E20b).P (vs 0) wj := hd 0 (by decide)
     have d1 : (Jo.q9 false K21 s21 M21 E21 K21b s21b M21b E21b).P (vs 1) wj := hd 1 (by decide)
     simp only [Jo.putl, Jo.zd, Jo.ze, Act.put, Jo.za, Jo.zb, Jo.zc] at hK ⊢; clear hd; generalize vs 0 = u0 at hK d0 ⊢; generalize vs 1 = u1 at hK d1 ⊢
     replace d0 : u0 = _ := d0
     subst d0
     replace d1 : u1 = _ := d1
     subst d1; go_simp; refine (fkMul v20.top.1 v20.top.2 v21.top.1 v21.top.2 v20.rk v21.rk HML.out).mono ?_; rintro ee wk ⟨e50, K50, s50, M50, E50, K50b, s50b, M50b, E50b, rfl, v50, B⟩; exact hK.out _ _ ⟨e50, K50, s50, M50, E50, K50b, s50b, M50b, E50b, rfl, v50⟩ B
   refine Jo.pcons (i := 3) (o := ⟨some 102, _, _, _, _, _⟩) (di := some 102) (L := []) (f := Jo.q9 false K20 s20 M20 E20 K20b s20b M20b E20b) (by decide) (by decide) (by decide) (fun _ _ _ h => h) rfl rfl rfl rfl (fun vs wj hJ hd K hK => ?_) ?_
   · clear hd; simp only [Jo.putl, Jo.ze, Act.put, Jo.za, Jo.zb, Jo.zc] at hK ⊢
     have xX80 : World.cell? wj ⟨w4.heap.size, 0, none⟩ = some (.bool false) := (X8.below hJ).cell 0
     have xX81 : World.cell? wj ⟨w4.heap.size, 1, none⟩ = some (.int .i64 K20) := (X8.below hJ).cell 1
     have xX82 : World.cell? wj ⟨w4.heap.size, 2, none⟩ = some (.bool s20) := (X8.below hJ).cell 2
     have xX83 : World.cell? wj ⟨w4.heap.size, 3, none⟩ = some (.int .u64 M20) := (X8.below hJ).cell 3
     have xX84 : World.cell? wj ⟨w4.heap.size, 4, none⟩ = some (.int .i64 E20) := (X8.below hJ).cell 4
     have xX85 : World.cell? wj ⟨w4.heap.size, 5, none⟩ = some (.int .i64 K20b) := (X8.below hJ).cell 5
     have xX86 : World.cell? wj ⟨w4.heap.size, 6, none⟩ = some (.bool s20b) := (X8.below hJ).cell 6
     have xX87 : World.cell? wj ⟨w4.heap.size, 7, none⟩ = some (.int .u64 M20b) := (X8.below hJ).cell 7
     have xX88 : World.cell? wj ⟨w4.heap.size, 8, none⟩ = some (.int .i64 E20b) := (X8.below hJ).cell 8
     go_simp; exact hK.out _ _ rfl (br _ _)
   refine Jo.pcons (i := 4) (o := ⟨some 103, _, _, _, _, _⟩) (di := some 103) (L := []) (f := Jo.q9 false K21 s21 M21 E21 K21b s21b M21b E21b) (by decide) (by decide) (by decide) (fun _ _ _ h => h) rfl rfl rfl rfl (fun vs wj hJ hd K hK => ?_) ?_
   · clear hd; simp only [Jo.putl, Jo.ze, Act.put, Jo.za, Jo.zb, Jo.zc] at hK ⊢
     have xX90 : World.cell? wj ⟨w7.heap.size, 0, none⟩ = some (.bool false) := (X9.below hJ).cell 0
     have xX91 : World.cell? wj ⟨w7.heap.size, 1, none⟩ = some (.int .i64 K21) := (X9.below hJ).cell 1
     have xX92 : World.cell? wj ⟨w7.heap.size, 2, none⟩ = some (.bool s21) := (X9.below hJ).cell 2
     have xX93 : World.cell? wj ⟨w7.heap.size, 3, none⟩ = some (.int .u64 M21) := (X9.below hJ).cell 3
     have xX94 : World.cell? wj ⟨w7.heap.size, 4, none⟩ = some (.int .i64 E21) := (X9.below hJ).cell 4
     have xX95 : World.cell? wj ⟨w7.heap.size, 5, none⟩ = some (.int .i64 K21b) := (X9.below hJ).cell 5
     have xX96 : World.cell? wj ⟨w7.heap.size, 6, none⟩ = some (.bool s21b) := (X9.below hJ).cell 6
     have xX97 : World.cell? wj ⟨w7.heap.size, 7, none⟩ = some (.int .u64 M21b) := (X9.below hJ).cell 7
     have xX98 : World.cell? wj ⟨w7.heap.size, 8, none⟩ = some (.int .i64 E21b) := (X9.below hJ).cell 8
     go_simp; exact hK.out _ _ rfl (br _ _)
   refine Jo.pcons (i := 5) (o := ⟨some 104, _, _, _, _, _⟩) (di := some 104) (L := [(some 101, 2), (some 102, 3), (some 103, 4)]) (f := Jo.Fact.iv2 (some (oa, oa)) (some (ob, ob))) (by decide) (by decide) (by decide) (fun _ _ _ h => h) rfl rfl rfl rfl (fun vs wj hJ hd K hK => ?_) ?_
   · have d2 : (Jo.Fact.iv ml).P (vs 2) wj := hd 2 (by decide)
     have d3 : (Jo.q9 false K20 s20 M20 E20 K20b s20b M20b E20b).P (vs 3) wj := hd 3 (by decide)
     have d4 : (Jo.q9 false K21 s21 M21 E21 K21b s21b M21b E21b).P (vs 4) wj := hd 4 (by decide)
     simp only [Jo.putl, Jo.zd, Jo.ze, Act.put, Jo.za, Jo.zb, Jo.zc] at hK ⊢; clear hd; generalize vs 2 = u2 at hK d2 ⊢; generalize vs 3 = u3 at hK d3 ⊢; generalize vs 4 = u4 at hK d4 ⊢; obtain ⟨e50, K50, s50, M50, E50, K50b, s50b, M50b, E50b, rfl, v50⟩ := d2
     replace d3 : u3 = _ := d3
     subst d3
     replace d4 : u4 = _ := d4
     subst d4; go_simp; refine (bkTimes (hT.below hJ) HQ.out v50.top.1 v50.top.2 v20.top.1 v20.top.2 v21.top.1 v21.top.2 v50.rk v20.rk v21.rk HTM.out).mono ?_; rintro ee wk ⟨e51, K51, s51, M51, E51, K51b, s51b, M51b, E51b, e52, K52, s52, M52, E52, K52b, s52b, M52b, E52b, rfl, v51, v52, B⟩; exact hK.out _ _ ⟨e51, K51, s51, M51, E51, K51b, s51b, M51b, E51b, e52, K52, s52, M52, E52, K52b, s52b, M52b, E52b, rfl, v51, v52⟩ B
   refine Jo.pcons (i := 6) (o := ⟨some 98, _, _, _, _, _⟩) (di := some 98) (L := [(some 104, 5)]) (f := Jo.Fact.iv2 (some (oa, oa)) (some (ob, ob))) (by decide) (by decide) (by decide) (fun _ _ _ h => h) rfl rfl rfl rfl (fun vs wj hJ hd K hK => ?_) ?_
   · have d5 : (Jo.Fact.iv2 (some (oa, oa)) (some (ob, ob))).P (vs 5) wj := hd 5 (by decide)
     clear hd; simp only [Jo.putl, Jo.zd, Jo.ze, Act.put, Jo.za, Jo.zb, Jo.zc] at hK ⊢; generalize vs 5 = u5 at hK d5 ⊢; obtain ⟨e51, K51, s51, M51, E51, K51b, s51b, M51b, E51b, e52, K52, s52, M52, E52, K52b, s52b, M52b, E52b, rfl, v51, v52⟩ := d5; go_simp; exact hK.out _ _ ⟨_, _, _, _, _, _, _, _, _, _, _, _, _, _, _, _, _, _, rfl, v51, v52⟩ (br _ _)
   refine Jo.pcons (i := 7) (o := ⟨some 105, _, _, _, _, _⟩) (di := some 105) (L := [(some 98, 6)]) (f := Jo.Fact.iv (some (oa, oa))) (by decide) (by decide) (by decide) (fun _ _ _ h => h) rfl rfl rfl rfl (fun vs wj hJ hd K hK => ?_) ?_
   · have d6 : (Jo.Fact.iv2 (some (oa, oa)) (some (ob, ob))).P (vs 6) wj := hd 6 (by decide)
     clear hd; simp only [Jo.putl, Jo.zd, Jo.ze, Act.put, Jo.za, Jo.zb, Jo.zc] at hK ⊢; generalize vs 6 = u6 at hK d6 ⊢; obtain ⟨e51, K51, s51, M51, E51, K51b, s51b, M51b, E51b, e52, K52, s52, M52, E52, K52b, s52b, M52b, E52b, rfl, v51, v52⟩ := d6; go_simp; exact hK.out _ _ ⟨_, _, _, _, _, _, _, _, _, rfl, v51⟩ (br _ _)
   refine Jo.pcons (i := 8) (o := ⟨some 106, _, _, _, _, _⟩) (di := some 106) (L := [(some 98, 6)]) (f := Jo.Fact.iv (some (ob, ob))) (by decide) (by decide) (by decide) (fun _ _ _ h => h) rfl rfl rfl rfl (fun vs wj hJ hd K hK => ?_) ?_
   · have d6 : (Jo.Fact.iv2 (some (oa, oa)) (some (ob, ob))).P (vs 6) wj := hd 6 (by decide)
     clear hd; simp only [Jo.putl, Jo.zd, Jo.ze, Act.put, Jo.za, Jo.zb, Jo.zc] at hK ⊢; generalize vs 6 = u6 at hK d6 ⊢; obtain ⟨e51, K51, s51, M51, E51, K51b, s51b, M51b, E51b, e52, K52, s52, M52, E52, K52b, s52b, M52b, E52b, rfl, v51, v52⟩ := d6; go_simp; exact hK.out _ _ ⟨_, _, _, _, _, _, _, _, _, rfl, v52⟩ (br _ _)
   refine Jo.pnew (i := 9) (o := ⟨some 17, _, _, _, _, _⟩) (di := some 17) (L := []) (by decide) (by decide) (by decide) (by decide) rfl rfl rfl rfl (fun vs wj K hK => ?_) ?_
   · simp only [Jo.putl, Jo.ze, Act.put, Jo.za, Jo.zb, Jo.zc] at hK ⊢; go_simp; exact hK.out
   refine Jo.pnew (i := 10) (o := ⟨some 18, _, _, _, _, _⟩) (di := some 18) (L := []) (by decide) (by decide) (by decide) (by decide) rfl rfl rfl rfl (fun vs wj K hK => ?_) ?_
   · simp only [Jo.putl, Jo.ze, Act.put, Jo.za, Jo.zb, Jo.zc] at hK ⊢; go_simp; exact hK.out
   refine Jo.psto (o := ⟨none, _, _, _, _, _⟩) (di := none) (L := [(some 105, 7), (some 17, 9), (some 18, 10)]) (by decide) (by decide) (by decide) rfl rfl rfl rfl (fun vs wj hJ hd g hg X K hK => ?_) ?_
   · have d7 : (Jo.Fact.iv (some (oa, oa))).P (vs 7) wj := hd 7 (by decide)
     clear hd; simp only [Jo.putl, Jo.zd, Jo.ze, Act.put, Jo.za, Jo.zb, Jo.zc] at hK ⊢; simp only [hg] at hK ⊢; clear hg; generalize vs 7 = u7 at hK d7 ⊢; generalize vs 10 = u10 at hK ⊢; obtain ⟨e51, K51, s51, M51, E51, K51b, s51b, M51b, E51b, rfl, v51⟩ := d7; have y0 := X.a 0 (.bool false) rfl; have z0 := X.frozen 0; have y1 := X.a 1 (.int .i64 0) rfl; have z1 := X.frozen 1; have y2 := X.a 2 (.bool false) rfl
     have z2 := X.frozen 2; have y3 := X.a 3 (.int .u64 0) rfl; have z3 := X.frozen 3; have y4 := X.a 4 (.int .i64 0) rfl; have z4 := X.frozen 4; have y5 := X.a 5 (.int .i64 0) rfl; have z5 := X.frozen 5; have y6 := X.a 6 (.bool false) rfl; have z6 := X.frozen 6; have y7 := X.a 7 (.int .u64 0) rfl; have z7 := X.frozen 7; have y8 := X.a 8 (.int .i64 0) rfl; have z8 := X.frozen 8; go_simp; have SX := StN.mk9 X (.bool e51) (.int .i64 K51) (.bool s51) (.int .u64 M51) (.int .i64 E51) (.int .i64 K51b) (.bool s51b) (.int .u64 M51b) (.int .i64 E51b)
     exact hK.out undef _ _ rfl SX
   exact Jo.StepsI.nil
 have d0 : (Jo.q9 false K20 s20 M20 E20 K20b s20b M20b E20b).P (vs 0) wD := hd 0 (by decide)
 have d1 : (Jo.q9 false K21 s21 M21 E21 K21b s21b M21b E21b).P (vs 1) wD := hd 1 (by decide)
 have d2 : (Jo.Fact.iv ml).P (vs 2) wD := hd 2 (by decide)
 have d3 : (Jo.q9 false K20 s20 M20 E20 K20b s20b M20b E20b).P (vs 3) wD := hd 3 (by decide)
 have d4 : (Jo.q9 false K21 s21 M21 E21 K21b s21b M21b E21b).P (vs 4) wD := hd 4 (by decide)
 have d5 : (Jo.Fact.iv2 (some (oa, oa)) (some (ob, ob))).P (vs 5) wD := hd 5 (by decide)
 have d6 : (Jo.Fact.iv2 (some (oa, oa)) (some (ob, ob))).P (vs 6) wD := hd 6 (by decide)
 have d7 : (Jo.Fact.iv (some (oa, oa))).P (vs 7) wD := hd 7 (by decide)
 have d8 : (Jo.Fact.iv (some (ob, ob))).P (vs 8) wD := hd 8 (by decide)
 clear hd; obtain ⟨g17, g18, csp, ep, eq_, hg17, hg18, hneg17, ee, X17, X18⟩ := hpq; simp only [Jo.putl, Jo.zd, Jo.ze, Act.put, Jo.za, Jo.zb, Jo.zc]; simp only [ep, eq_]; clear ep eq_; generalize vs 0 = u0 at d0 ⊢; generalize vs 1 = u1 at d1 ⊢; generalize vs 2 = u2 at d2 ⊢; generalize vs 3 = u3 at d3 ⊢; generalize vs 4 = u4 at d4 ⊢; generalize vs 5 = u5 at d5 ⊢; generalize vs 6 = u6 at d6 ⊢; generalize vs 7 = u7 at d7 ee ⊢
 generalize vs 8 = u8 at d8 ⊢; generalize vs 11 = u11 at ⊢; clear vs
 replace d0 : u0 = _ := d0
 subst d0
 replace d1 : u1 = _ := d1
 subst d1; obtain ⟨e50, K50, s50, M50, E50, K50b, s50b, M50b, E50b, rfl, v50⟩ := d2
 replace d3 : u3 = _ := d3
 subst d3
 replace d4 : u4 = _ := d4
 subst d4
 obtain - := d5
 obtain - := d6
 obtain ⟨e51, K51, s51, M51, E51, K51b, s51b, M51b, E51b, rfl, v51⟩ := d7; obtain ⟨e52, K52, s52, M52, E52, K52b, s52b, M52b, E52b, rfl, v52⟩ := d8
 injection ee with ee
 subst ee; replace X8 := X8.below hJ; replace X9 := X9.below hJ; replace X10 := X10.below hJ; replace X11 := X11.below hJ; replace X12 := X12.below hJ; replace X13 := X13.below hJ; replace hT := hT.below hJ; replace hT2 := hT2.below hJ; replace HB := Hqb HB hJ; have xX18 := X18.cell; have zX180 := X18.frozen
 refine Jo.jnext (i := 12) (o := ⟨none, _, _, _, _, _⟩) (by kernel_rfl) rfl (fun K hK => ?_)
 go_simp; refine hK.out _ _ ?_; clear hK K xX18 zX180; generalize hS : ((((((((wD.setCell _ _).setCell _ _).setCell _ _).setCell _ _).setCell _ _).setCell _ _).setCell _ _).setCell _ _).setCell _ _ = wE at *; have SX := StN.of9 X18 hS; replace X8 := X8.stn SX (by omega); replace X9 := X9.stn SX (by omega); replace X10 := X10.stn SX (by omega); replace X11 := X11.stn SX (by omega)
 replace X12 := X12.stn SX (by omega); replace X13 := X13.stn SX (by omega); replace X17 := X17.stn SX (by omega); replace hT := hT.stn SX (by simp [no8]); replace hT2 := hT2.stn SX (by simp [no8]); replace HB := Hqs HB SX (by omega); replace X18 := SX.box; clear SX hS; refine Jo.jdone (by kernel_rfl) ?_; clear hszp ltX8 ltX9 ltX10 ltX11 ltX12 ltX13; obtain ⟨rfl, rfl, rfl, rfl, rfl, rfl, rfl, rfl, rfl⟩ := v20.uniq v51
 clear v51; obtain ⟨rfl, rfl, rfl, rfl, rfl, rfl, rfl, rfl, rfl⟩ := v21.uniq v52; clear v52; have xX8 := X8.cell; have xX9 := X9.cell; have xX10 := X10.cell; have xX11 := X11.cell
 have xX12 := X12.cell; have xX13 := X13.cell; have xX17 := X17.cell; have xX18 := X18.cell; go_wp2
 go_ret
 exact ⟨rfl, HB.out⟩
theorem backPoints_walk (n0 : Int) (n1 : Int) (n2 : Int) (w : World) (hT : Tab w) (hT2 : Tb w) (w0 : (Lit.int .i64 n0).wf = true) (w1 : (Lit.int .i64 n1).wf = true) (w2 : (Lit.int .i64 n2).wf = true) :
   Calls Tryz.prog 9 #[.int .i64 n0, .int .i64 n1, .int .i64 n2] w fun e w' => e = .returned (.bool true) ∧ Below w.heap.size w w' := by
 obtain ⟨q, hq⟩ := qf_ex; obtain ⟨r, hr⟩ := rf_ex
 by_cases c : n0 < (-1000000000 : Int) ∨ (1000000000 : Int) < n0 ∨ n1 < (-1000000000 : Int) ∨ (1000000000 : Int) < n1 ∨ n2 < (-3 : Int) ∨ (3 : Int) < n2
 · exact backPoints_far n0 n1 n2 w hq hr hT hT2 c
 · have i0 := wf_i64' w0; have i1 := wf_i64' w1; have P := plus_pt (a := n0) (b := n1) (o := n2) (by omega) (by omega) (by omega) (by omega) (by omega) (by omega); have M := minus_pt (a := n0) (b := n1) (o := n2) (by omega) (by omega) (by omega) (by omega) (by omega) (by omega); have X := (Zi.mk (a := n0) (b := n0) (by omega) (by omega) (by omega)).1; have Y := (Zi.mk (a := n1) (b := n1) (by omega) (by omega) (by omega)).1
   have ZP := (Zi.mk (a := n0 + n1 + n2) (b := n0 + n1 + n2) (by omega) (by omega) (by omega)).1; have ZM := (Zi.mk (a := n0 - n1 + n2) (b := n0 - n1 + n2) (by omega) (by omega) (by omega)).1
   by_cases c0 : n2 = 0
   · simp only [if_pos c0] at P M; exact backPoints_y n0 n1 n2 w (opl n0) (opl n1) _ _ _ hq hr hT hT2 i0 i1 (by omega) (by omega) (IntWalk.i64_in _ (by omega)) (IntWalk.i64_in _ (by omega)) (IntWalk.i64_in _ (by omega)) (IntWalk.i64_in _ (by omega)) (decide_eq_false (by omega)) (decide_eq_false (by omega)) (decide_eq_false (by omega)) (decide_eq_false (by omega)) (decide_eq_false (by omega)) (decide_eq_false (by omega)) (by simpa using c0) X Y ZP ZM P.1 P.2 M.1 M.2 rfl (times_pt hq (by omega) (by omega) (by omega) (by omega))
   · simp only [if_neg c0] at P M; exact backPoints_n n0 n1 n2 w (opl n0) (opl n1) _ _ _ hq hr hT hT2 i0 i1 (by omega) (by omega) (IntWalk.i64_in _ (by omega)) (IntWalk.i64_in _ (by omega)) (IntWalk.i64_in _ (by omega)) (IntWalk.i64_in _ (by omega)) (decide_eq_false (by omega)) (decide_eq_false (by omega)) (decide_eq_false (by omega)) (decide_eq_false (by omega)) (decide_eq_false (by omega)) (decide_eq_false (by omega)) (by simpa using c0) X Y ZP ZM P.1 P.2 M.1 M.2 rfl (times_pt hq (by omega) (by omega) (by omega) (by omega))
end Go.Proofs.YtnbliijpjcmbjaaGreatDoor
