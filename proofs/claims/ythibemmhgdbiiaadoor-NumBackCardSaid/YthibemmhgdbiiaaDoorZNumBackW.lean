/-
  The walk of NumBack: for all arguments, where the table lies as it was laid, the call answers true, and nothing that was there has turned.
-/
import Derived.Test.YthibemmhgdbiiaaDoorZay
import Derived.Test.YthibemmhgdbiiaaDoorZba
namespace Go.Proofs.YthibemmhgdbiiaaDoor
open Go.RowKit
set_option linter.unusedVariables false
set_option linter.unusedSimpArgs false
set_option maxRecDepth 100000

set_option maxHeartbeats 8000000 in
theorem numBack_far1 (D0 : Int) (s0 : Bool) (M0 E0 : Int) (s1 : Bool) (a1 : Option Addr) (len1 cap1 : Nat) (e1 : Int) (s2 : Bool) (a2 : Option Addr) (len2 cap2 : Nat) (e2 : Int) (b3 : Bool) (w : World) (p q : Bool) (hT : Tab w) (hp : fewB len1 e1 = p) (hq : fewB len2 e2 = q) (h : p = false) :
    Calls Tryd.prog 7 #[.agg #[.int .i64 D0, .bool s0, .int .u64 M0, .int .i64 E0], .agg #[.bool s1, .slice a1 len1 cap1, .int .i64 e1], .agg #[.bool s2, .slice a2 len2 cap2, .int .i64 e2], .bool b3] w (PB w true) := by
  have HP := Lib.hid hp
  have HQ := Lib.hid hq
  clear hp hq
  subst h
  go_enter Tryd.func7, Tryd.ntmps7
  go_upto_region 1 with (fail)
  have X0 := (Bo.newAt w (g := w.heap.size) (by simp) #[.int .i64 D0, .bool s0, .int .u64 M0, .int .i64 E0] 30).below (bel2 _ (.cells #[.bool s1, .slice a1 len1 cap1, .int .i64 e1] 26) (.cells #[.bool s2, .slice a2 len2 cap2, .int .i64 e2] 26))
  have X1 := (Bo.newAt (w.alloc (.cells #[.int .i64 D0, .bool s0, .int .u64 M0, .int .i64 E0] 30)) (g := w.heap.size + 1) (by simp) #[.bool s1, .slice a1 len1 cap1, .int .i64 e1] 26).below (bel1 _ (.cells #[.bool s2, .slice a2 len2 cap2, .int .i64 e2] 26))
  have X2 := (Bo.newAt ((w.alloc (.cells #[.int .i64 D0, .bool s0, .int .u64 M0, .int .i64 E0] 30)).alloc (.cells #[.bool s1, .slice a1 len1 cap1, .int .i64 e1] 26)) (g := w.heap.size + 1 + 1) (by simp) #[.bool s2, .slice a2 len2 cap2, .int .i64 e2] 26)
  have HB := Lib.hid (bel3 w (.cells #[.int .i64 D0, .bool s0, .int .u64 M0, .int .i64 E0] 30) (.cells #[.bool s1, .slice a1 len1 cap1, .int .i64 e1] 26) (.cells #[.bool s2, .slice a2 len2 cap2, .int .i64 e2] 26))
  replace hT := hT.below HB.out
  generalize hW1 : (((w.alloc (.cells #[.int .i64 D0, .bool s0, .int .u64 M0, .int .i64 E0] 30)).alloc (.cells #[.bool s1, .slice a1 len1 cap1, .int .i64 e1] 26)).alloc (.cells #[.bool s2, .slice a2 len2 cap2, .int .i64 e2] 26)) = w1 at *
  clear hW1
  go_wp2_with fail
  refine (awake5 _ hT).mono ?_
  rintro ee w2 ⟨rfl, B⟩
  replace X0 := X0.below B
  replace X1 := X1.below B
  replace X2 := X2.below B
  replace hT := hT.below B
  replace HB := Lib.hid (bt HB.out B)
  clear B
  have xX10 := X1.at (i := 0) (v := .bool s1) rfl
  have xX11 := X1.at (i := 1) (v := .slice a1 len1 cap1) rfl
  have xX12 := X1.at (i := 2) (v := .int .i64 e1) rfl
  go_wp2_with fail
  refine (few3E _ HP.out).mono ?_
  rintro ee w3 ⟨rfl, B⟩
  clear xX10 xX11 xX12
  replace X0 := X0.below B
  replace X1 := X1.below B
  replace X2 := X2.below B
  replace hT := hT.below B
  replace HB := Lib.hid (bt HB.out B)
  clear B
  have xX20 := X2.at (i := 0) (v := .bool s2) rfl
  have xX21 := X2.at (i := 1) (v := .slice a2 len2 cap2) rfl
  have xX22 := X2.at (i := 2) (v := .int .i64 e2) rfl
  go_wp2_with fail
  refine (few3E _ HQ.out).mono ?_
  rintro ee w4 ⟨rfl, B⟩
  clear xX20 xX21 xX22
  replace X0 := X0.below B
  replace X1 := X1.below B
  replace X2 := X2.below B
  replace hT := hT.below B
  replace HB := Lib.hid (bt HB.out B)
  clear B
  have xX00 := X0.at (i := 0) (v := .int .i64 D0) rfl
  have xX01 := X0.at (i := 1) (v := .bool s0) rfl
  have xX02 := X0.at (i := 2) (v := .int .u64 M0) rfl
  have xX03 := X0.at (i := 3) (v := .int .i64 E0) rfl
  go_wp2
  go_ret
  exact ⟨rfl, HB.out⟩
set_option maxHeartbeats 8000000 in
theorem numBack_far2 (D0 : Int) (s0 : Bool) (M0 E0 : Int) (s1 : Bool) (a1 : Option Addr) (len1 cap1 : Nat) (e1 : Int) (s2 : Bool) (a2 : Option Addr) (len2 cap2 : Nat) (e2 : Int) (b3 : Bool) (w : World) (p q : Bool) (hT : Tab w) (hp : fewB len1 e1 = p) (hq : fewB len2 e2 = q) (h : p = true) (k : q = false) :
    Calls Tryd.prog 7 #[.agg #[.int .i64 D0, .bool s0, .int .u64 M0, .int .i64 E0], .agg #[.bool s1, .slice a1 len1 cap1, .int .i64 e1], .agg #[.bool s2, .slice a2 len2 cap2, .int .i64 e2], .bool b3] w (PB w true) := by
  have HP := Lib.hid hp
  have HQ := Lib.hid hq
  clear hp hq
  subst h
  subst k
  go_enter Tryd.func7, Tryd.ntmps7
  go_upto_region 1 with (fail)
  have X0 := (Bo.newAt w (g := w.heap.size) (by simp) #[.int .i64 D0, .bool s0, .int .u64 M0, .int .i64 E0] 30).below (bel2 _ (.cells #[.bool s1, .slice a1 len1 cap1, .int .i64 e1] 26) (.cells #[.bool s2, .slice a2 len2 cap2, .int .i64 e2] 26))
  have X1 := (Bo.newAt (w.alloc (.cells #[.int .i64 D0, .bool s0, .int .u64 M0, .int .i64 E0] 30)) (g := w.heap.size + 1) (by simp) #[.bool s1, .slice a1 len1 cap1, .int .i64 e1] 26).below (bel1 _ (.cells #[.bool s2, .slice a2 len2 cap2, .int .i64 e2] 26))
  have X2 := (Bo.newAt ((w.alloc (.cells #[.int .i64 D0, .bool s0, .int .u64 M0, .int .i64 E0] 30)).alloc (.cells #[.bool s1, .slice a1 len1 cap1, .int .i64 e1] 26)) (g := w.heap.size + 1 + 1) (by simp) #[.bool s2, .slice a2 len2 cap2, .int .i64 e2] 26)
  have HB := Lib.hid (bel3 w (.cells #[.int .i64 D0, .bool s0, .int .u64 M0, .int .i64 E0] 30) (.cells #[.bool s1, .slice a1 len1 cap1, .int .i64 e1] 26) (.cells #[.bool s2, .slice a2 len2 cap2, .int .i64 e2] 26))
  replace hT := hT.below HB.out
  generalize hW1 : (((w.alloc (.cells #[.int .i64 D0, .bool s0, .int .u64 M0, .int .i64 E0] 30)).alloc (.cells #[.bool s1, .slice a1 len1 cap1, .int .i64 e1] 26)).alloc (.cells #[.bool s2, .slice a2 len2 cap2, .int .i64 e2] 26)) = w1 at *
  clear hW1
  go_wp2_with fail
  refine (awake5 _ hT).mono ?_
  rintro ee w2 ⟨rfl, B⟩
  replace X0 := X0.below B
  replace X1 := X1.below B
  replace X2 := X2.below B
  replace hT := hT.below B
  replace HB := Lib.hid (bt HB.out B)
  clear B
  have xX10 := X1.at (i := 0) (v := .bool s1) rfl
  have xX11 := X1.at (i := 1) (v := .slice a1 len1 cap1) rfl
  have xX12 := X1.at (i := 2) (v := .int .i64 e1) rfl
  go_wp2_with fail
  refine (few3E _ HP.out).mono ?_
  rintro ee w3 ⟨rfl, B⟩
  clear xX10 xX11 xX12
  replace X0 := X0.below B
  replace X1 := X1.below B
  replace X2 := X2.below B
  replace hT := hT.below B
  replace HB := Lib.hid (bt HB.out B)
  clear B
  have xX20 := X2.at (i := 0) (v := .bool s2) rfl
  have xX21 := X2.at (i := 1) (v := .slice a2 len2 cap2) rfl
  have xX22 := X2.at (i := 2) (v := .int .i64 e2) rfl
  go_wp2_with fail
  refine (few3E _ HQ.out).mono ?_
  rintro ee w4 ⟨rfl, B⟩
  clear xX20 xX21 xX22
  replace X0 := X0.below B
  replace X1 := X1.below B
  replace X2 := X2.below B
  replace hT := hT.below B
  replace HB := Lib.hid (bt HB.out B)
  clear B
  have xX00 := X0.at (i := 0) (v := .int .i64 D0) rfl
  have xX01 := X0.at (i := 1) (v := .bool s0) rfl
  have xX02 := X0.at (i := 2) (v := .int .u64 M0) rfl
  have xX03 := X0.at (i := 3) (v := .int .i64 E0) rfl
  go_wp2
  go_ret
  exact ⟨rfl, HB.out⟩
set_option maxHeartbeats 8000000 in
theorem numBack_far3 (D0 : Int) (s0 : Bool) (M0 E0 : Int) (s1 : Bool) (a1 : Option Addr) (len1 cap1 : Nat) (e1 : Int) (s2 : Bool) (a2 : Option Addr) (len2 cap2 : Nat) (e2 : Int) (b3 : Bool) (w : World) (p q : Bool) (hT : Tab w) (hp : fewB len1 e1 = p) (hq : fewB len2 e2 = q) (h : p = true) (k : q = true) (hE : 1000 < E0) :
    Calls Tryd.prog 7 #[.agg #[.int .i64 D0, .bool s0, .int .u64 M0, .int .i64 E0], .agg #[.bool s1, .slice a1 len1 cap1, .int .i64 e1], .agg #[.bool s2, .slice a2 len2 cap2, .int .i64 e2], .bool b3] w (PB w true) := by
  have HP := Lib.hid hp
  have HQ := Lib.hid hq
  clear hp hq
  subst h
  subst k
  go_enter Tryd.func7, Tryd.ntmps7
  go_upto_region 1 with (fail)
  have X0 := (Bo.newAt w (g := w.heap.size) (by simp) #[.int .i64 D0, .bool s0, .int .u64 M0, .int .i64 E0] 30).below (bel2 _ (.cells #[.bool s1, .slice a1 len1 cap1, .int .i64 e1] 26) (.cells #[.bool s2, .slice a2 len2 cap2, .int .i64 e2] 26))
  have X1 := (Bo.newAt (w.alloc (.cells #[.int .i64 D0, .bool s0, .int .u64 M0, .int .i64 E0] 30)) (g := w.heap.size + 1) (by simp) #[.bool s1, .slice a1 len1 cap1, .int .i64 e1] 26).below (bel1 _ (.cells #[.bool s2, .slice a2 len2 cap2, .int .i64 e2] 26))
  have X2 := (Bo.newAt ((w.alloc (.cells #[.int .i64 D0, .bool s0, .int .u64 M0, .int .i64 E0] 30)).alloc (.cells #[.bool s1, .slice a1 len1 cap1, .int .i64 e1] 26)) (g := w.heap.size + 1 + 1) (by simp) #[.bool s2, .slice a2 len2 cap2, .int .i64 e2] 26)
  have HB := Lib.hid (bel3 w (.cells #[.int .i64 D0, .bool s0, .int .u64 M0, .int .i64 E0] 30) (.cells #[.bool s1, .slice a1 len1 cap1, .int .i64 e1] 26) (.cells #[.bool s2, .slice a2 len2 cap2, .int .i64 e2] 26))
  replace hT := hT.below HB.out
  generalize hW1 : (((w.alloc (.cells #[.int .i64 D0, .bool s0, .int .u64 M0, .int .i64 E0] 30)).alloc (.cells #[.bool s1, .slice a1 len1 cap1, .int .i64 e1] 26)).alloc (.cells #[.bool s2, .slice a2 len2 cap2, .int .i64 e2] 26)) = w1 at *
  clear hW1
  go_wp2_with fail
  refine (awake5 _ hT).mono ?_
  rintro ee w2 ⟨rfl, B⟩
  replace X0 := X0.below B
  replace X1 := X1.below B
  replace X2 := X2.below B
  replace hT := hT.below B
  replace HB := Lib.hid (bt HB.out B)
  clear B
  have xX10 := X1.at (i := 0) (v := .bool s1) rfl
  have xX11 := X1.at (i := 1) (v := .slice a1 len1 cap1) rfl
  have xX12 := X1.at (i := 2) (v := .int .i64 e1) rfl
  go_wp2_with fail
  refine (few3E _ HP.out).mono ?_
  rintro ee w3 ⟨rfl, B⟩
  clear xX10 xX11 xX12
  replace X0 := X0.below B
  replace X1 := X1.below B
  replace X2 := X2.below B
  replace hT := hT.below B
  replace HB := Lib.hid (bt HB.out B)
  clear B
  have xX20 := X2.at (i := 0) (v := .bool s2) rfl
  have xX21 := X2.at (i := 1) (v := .slice a2 len2 cap2) rfl
  have xX22 := X2.at (i := 2) (v := .int .i64 e2) rfl
  go_wp2_with fail
  refine (few3E _ HQ.out).mono ?_
  rintro ee w4 ⟨rfl, B⟩
  clear xX20 xX21 xX22
  replace X0 := X0.below B
  replace X1 := X1.below B
  replace X2 := X2.below B
  replace hT := hT.below B
  replace HB := Lib.hid (bt HB.out B)
  clear B
  have xX00 := X0.at (i := 0) (v := .int .i64 D0) rfl
  have xX01 := X0.at (i := 1) (v := .bool s0) rfl
  have xX02 := X0.at (i := 2) (v := .int .u64 M0) rfl
  have xX03 := X0.at (i := 3) (v := .int .i64 E0) rfl
  go_wp2
  go_ret
  exact ⟨rfl, HB.out⟩
set_option maxHeartbeats 8000000 in
theorem numBack_far4 (D0 : Int) (s0 : Bool) (M0 E0 : Int) (s1 : Bool) (a1 : Option Addr) (len1 cap1 : Nat) (e1 : Int) (s2 : Bool) (a2 : Option Addr) (len2 cap2 : Nat) (e2 : Int) (b3 : Bool) (w : World) (p q : Bool) (hT : Tab w) (hp : fewB len1 e1 = p) (hq : fewB len2 e2 = q) (h : p = true) (k : q = true) (hE : E0 < -1000) :
    Calls Tryd.prog 7 #[.agg #[.int .i64 D0, .bool s0, .int .u64 M0, .int .i64 E0], .agg #[.bool s1, .slice a1 len1 cap1, .int .i64 e1], .agg #[.bool s2, .slice a2 len2 cap2, .int .i64 e2], .bool b3] w (PB w true) := by
  have HP := Lib.hid hp
  have HQ := Lib.hid hq
  clear hp hq
  subst h
  subst k
  have hE2 : E0 ≤ 1000 := by omega
  go_enter Tryd.func7, Tryd.ntmps7
  go_upto_region 1 with (fail)
  have X0 := (Bo.newAt w (g := w.heap.size) (by simp) #[.int .i64 D0, .bool s0, .int .u64 M0, .int .i64 E0] 30).below (bel2 _ (.cells #[.bool s1, .slice a1 len1 cap1, .int .i64 e1] 26) (.cells #[.bool s2, .slice a2 len2 cap2, .int .i64 e2] 26))
  have X1 := (Bo.newAt (w.alloc (.cells #[.int .i64 D0, .bool s0, .int .u64 M0, .int .i64 E0] 30)) (g := w.heap.size + 1) (by simp) #[.bool s1, .slice a1 len1 cap1, .int .i64 e1] 26).below (bel1 _ (.cells #[.bool s2, .slice a2 len2 cap2, .int .i64 e2] 26))
  have X2 := (Bo.newAt ((w.alloc (.cells #[.int .i64 D0, .bool s0, .int .u64 M0, .int .i64 E0] 30)).alloc (.cells #[.bool s1, .slice a1 len1 cap1, .int .i64 e1] 26)) (g := w.heap.size + 1 + 1) (by simp) #[.bool s2, .slice a2 len2 cap2, .int .i64 e2] 26)
  have HB := Lib.hid (bel3 w (.cells #[.int .i64 D0, .bool s0, .int .u64 M0, .int .i64 E0] 30) (.cells #[.bool s1, .slice a1 len1 cap1, .int .i64 e1] 26) (.cells #[.bool s2, .slice a2 len2 cap2, .int .i64 e2] 26))
  replace hT := hT.below HB.out
  generalize hW1 : (((w.alloc (.cells #[.int .i64 D0, .bool s0, .int .u64 M0, .int .i64 E0] 30)).alloc (.cells #[.bool s1, .slice a1 len1 cap1, .int .i64 e1] 26)).alloc (.cells #[.bool s2, .slice a2 len2 cap2, .int .i64 e2] 26)) = w1 at *
  clear hW1
  go_wp2_with fail
  refine (awake5 _ hT).mono ?_
  rintro ee w2 ⟨rfl, B⟩
  replace X0 := X0.below B
  replace X1 := X1.below B
  replace X2 := X2.below B
  replace hT := hT.below B
  replace HB := Lib.hid (bt HB.out B)
  clear B
  have xX10 := X1.at (i := 0) (v := .bool s1) rfl
  have xX11 := X1.at (i := 1) (v := .slice a1 len1 cap1) rfl
  have xX12 := X1.at (i := 2) (v := .int .i64 e1) rfl
  go_wp2_with fail
  refine (few3E _ HP.out).mono ?_
  rintro ee w3 ⟨rfl, B⟩
  clear xX10 xX11 xX12
  replace X0 := X0.below B
  replace X1 := X1.below B
  replace X2 := X2.below B
  replace hT := hT.below B
  replace HB := Lib.hid (bt HB.out B)
  clear B
  have xX20 := X2.at (i := 0) (v := .bool s2) rfl
  have xX21 := X2.at (i := 1) (v := .slice a2 len2 cap2) rfl
  have xX22 := X2.at (i := 2) (v := .int .i64 e2) rfl
  go_wp2_with fail
  refine (few3E _ HQ.out).mono ?_
  rintro ee w4 ⟨rfl, B⟩
  clear xX20 xX21 xX22
  replace X0 := X0.below B
  replace X1 := X1.below B
  replace X2 := X2.below B
  replace hT := hT.below B
  replace HB := Lib.hid (bt HB.out B)
  clear B
  have xX00 := X0.at (i := 0) (v := .int .i64 D0) rfl
  have xX01 := X0.at (i := 1) (v := .bool s0) rfl
  have xX02 := X0.at (i := 2) (v := .int .u64 M0) rfl
  have xX03 := X0.at (i := 3) (v := .int .i64 E0) rfl
  go_wp2
  go_ret
  exact ⟨rfl, HB.out⟩
theorem mk_exq' (D : Int) (s : Bool) (M E : Int) : mk (exq D s M E).1 (exq D s M E).2 = exq D s M E := by
  unfold exq
  split
  · exact mk_nf _ _
  · exact mk_zero 0
set_option maxHeartbeats 8000000 in
theorem numBack_main_yg (D0 : Int) (s0 : Bool) (M0 E0 : Int) (s1 : Bool) (a1 : Option Addr) (len1 cap1 : Nat) (e1 : Int) (s2 : Bool) (a2 : Option Addr) (len2 cap2 : Nat) (e2 : Int) (b3 : Bool) (w : World) (y z c : Int) (hT : Tab w) (hM0 : 0 ≤ M0) (hM : M0 < 18446744073709551616) (h1 : Wr w s1 a1 len1 cap1 y) (h2 : Wr w s2 a2 len2 cap2 z) (hp : fewB len1 e1 = true) (hq : fewB len2 e2 = true) (g1 : -1000 ≤ E0) (g2 : E0 ≤ 1000)
    (hx : exb D0 s0 M0 E0 = true) (hc : cmpI (vl (mk y e1)) (vl (mk z e2)) = c) (hc2 : c = 1) :
    Calls Tryd.prog 7 #[.agg #[.int .i64 D0, .bool s0, .int .u64 M0, .int .i64 E0], .agg #[.bool s1, .slice a1 len1 cap1, .int .i64 e1], .agg #[.bool s2, .slice a2 len2 cap2, .int .i64 e2], .bool b3] w (PB w true) := by
  obtain ⟨hn1, _, _⟩ := fewB_true hp
  obtain ⟨hn2, _, _⟩ := fewB_true hq
  have HP := Lib.hid hp
  have HQ := Lib.hid hq
  have HX := Lib.hid hx
  subst hc2
  have HC := Lib.hid hc
  obtain ⟨N1, hN1⟩ : ∃ N, (exq D0 s0 M0 E0).1 = N := ⟨_, rfl⟩
  obtain ⟨F1, hF1⟩ : ∃ N, (exq D0 s0 M0 E0).2 = N := ⟨_, rfl⟩
  have HN1 := Lib.hid hN1
  have HF1 := Lib.hid hF1
  have hmq : MayQ D0 s0 M0 E0 := by
    unfold exb at hx
    exact of_decide_eq_true (Bool.and_eq_true _ _ ▸ hx : _ ∧ _).1
  have q0 := rk_fq hM hmq
  have hb := rnd_back b3 q0 hx
  have hmk := mk_exq' D0 s0 M0 E0
  rw [hN1, hF1] at hb hmk
  have HMa : Hid ((mk N1 F1).1 = N1) := Lib.hid (by rw [hmk, hN1])
  have HMb : Hid ((mk N1 F1).2 = F1) := Lib.hid (by rw [hmk, hF1])
  revert q0 hb
  generalize rk D0 s0 M0 E0 = x
  intro q0 hb
  have HRB := Lib.hid hb
  clear hmq hmk hb
  clear hp hq hx hc hN1 hF1
  go_enter Tryd.func7, Tryd.ntmps7
  go_upto_region 1 with (fail)
  have X0 := (Bo.newAt w (g := w.heap.size) (by simp) #[.int .i64 D0, .bool s0, .int .u64 M0, .int .i64 E0] 30).below (bel2 _ (.cells #[.bool s1, .slice a1 len1 cap1, .int .i64 e1] 26) (.cells #[.bool s2, .slice a2 len2 cap2, .int .i64 e2] 26))
  have X1 := (Bo.newAt (w.alloc (.cells #[.int .i64 D0, .bool s0, .int .u64 M0, .int .i64 E0] 30)) (g := w.heap.size + 1) (by simp) #[.bool s1, .slice a1 len1 cap1, .int .i64 e1] 26).below (bel1 _ (.cells #[.bool s2, .slice a2 len2 cap2, .int .i64 e2] 26))
  have X2 := (Bo.newAt ((w.alloc (.cells #[.int .i64 D0, .bool s0, .int .u64 M0, .int .i64 E0] 30)).alloc (.cells #[.bool s1, .slice a1 len1 cap1, .int .i64 e1] 26)) (g := w.heap.size + 1 + 1) (by simp) #[.bool s2, .slice a2 len2 cap2, .int .i64 e2] 26)
  have HB := Lib.hid (bel3 w (.cells #[.int .i64 D0, .bool s0, .int .u64 M0, .int .i64 E0] 30) (.cells #[.bool s1, .slice a1 len1 cap1, .int .i64 e1] 26) (.cells #[.bool s2, .slice a2 len2 cap2, .int .i64 e2] 26))
  replace hT := hT.below HB.out
  replace h1 := h1.below HB.out
  replace h2 := h2.below HB.out
  generalize hW1 : (((w.alloc (.cells #[.int .i64 D0, .bool s0, .int .u64 M0, .int .i64 E0] 30)).alloc (.cells #[.bool s1, .slice a1 len1 cap1, .int .i64 e1] 26)).alloc (.cells #[.bool s2, .slice a2 len2 cap2, .int .i64 e2] 26)) = w1 at *
  clear hW1
  go_wp2_with fail
  refine (awake5 _ hT).mono ?_
  rintro ee w2 ⟨rfl, B⟩
  replace X0 := X0.below B
  replace X1 := X1.below B
  replace X2 := X2.below B
  replace hT := hT.below B
  replace h1 := h1.below B
  replace h2 := h2.below B
  replace HB := Lib.hid (bt HB.out B)
  clear B
  have xX10 := X1.at (i := 0) (v := .bool s1) rfl
  have xX11 := X1.at (i := 1) (v := .slice a1 len1 cap1) rfl
  have xX12 := X1.at (i := 2) (v := .int .i64 e1) rfl
  go_wp2_with fail
  refine (few3E _ HP.out).mono ?_
  rintro ee w3 ⟨rfl, B⟩
  clear xX10 xX11 xX12
  replace X0 := X0.below B
  replace X1 := X1.below B
  replace X2 := X2.below B
  replace hT := hT.below B
  replace h1 := h1.below B
  replace h2 := h2.below B
  replace HB := Lib.hid (bt HB.out B)
  clear B
  have xX20 := X2.at (i := 0) (v := .bool s2) rfl
  have xX21 := X2.at (i := 1) (v := .slice a2 len2 cap2) rfl
  have xX22 := X2.at (i := 2) (v := .int .i64 e2) rfl
  go_wp2_with fail
  refine (few3E _ HQ.out).mono ?_
  rintro ee w4 ⟨rfl, B⟩
  clear xX20 xX21 xX22
  replace X0 := X0.below B
  replace X1 := X1.below B
  replace X2 := X2.below B
  replace hT := hT.below B
  replace h1 := h1.below B
  replace h2 := h2.below B
  replace HB := Lib.hid (bt HB.out B)
  clear B
  have xX00 := X0.at (i := 0) (v := .int .i64 D0) rfl
  have xX01 := X0.at (i := 1) (v := .bool s0) rfl
  have xX02 := X0.at (i := 2) (v := .int .u64 M0) rfl
  have xX03 := X0.at (i := 3) (v := .int .i64 E0) rfl
  go_wp2_with fail
  refine (nExact hT hM0 hM HX.out HN1.out HF1.out).mono ?_
  rintro ee w5 ⟨sa, Aa, na, ca, rfl, pa, ka, B⟩
  clear xX00 xX01 xX02 xX03
  replace X0 := X0.below B
  replace X1 := X1.below B
  replace X2 := X2.below B
  replace hT := hT.below B
  replace h1 := h1.below B
  replace h2 := h2.below B
  replace HB := Lib.hid (bt HB.out B)
  clear B
  go_upto_region 7 with (fail)
  have lX12 := Nat.le_refl (World.heap w5).size
  have nX12X0 := X0.lt
  have nX12X1 := X1.lt
  have nX12X2 := X2.lt
  replace X0 := X0.below (bel1 _ (.cells #[.bool sa, .slice Aa na ca, .int .i64 F1] 26))
  replace X1 := X1.below (bel1 _ (.cells #[.bool sa, .slice Aa na ca, .int .i64 F1] 26))
  replace X2 := X2.below (bel1 _ (.cells #[.bool sa, .slice Aa na ca, .int .i64 F1] 26))
  replace hT := hT.below (bel1 _ (.cells #[.bool sa, .slice Aa na ca, .int .i64 F1] 26))
  replace h1 := h1.below (bel1 _ (.cells #[.bool sa, .slice Aa na ca, .int .i64 F1] 26))
  replace h2 := h2.below (bel1 _ (.cells #[.bool sa, .slice Aa na ca, .int .i64 F1] 26))
  replace pa := pa.below (bel1 _ (.cells #[.bool sa, .slice Aa na ca, .int .i64 F1] 26))
  replace HB := Lib.hid (bt HB.out (bel1 _ (.cells #[.bool sa, .slice Aa na ca, .int .i64 F1] 26)))
  have X12 := Bo.new w5 #[.bool sa, .slice Aa na ca, .int .i64 F1] 26
  generalize hWn : World.alloc w5 (.cells #[.bool sa, .slice Aa na ca, .int .i64 F1] 26) = w6 at *
  clear hWn
  clear lX12
  refine Jo.region_joint (T := [0, 1, 2, 3, 4, 5, 6, 7]) (ds := [some 45, some 46, some 47, some 48, some 49, some 50, some 51, some 52]) (ls := [[], [0], [1], [1], [1, 2, 3], [1], [1, 4, 5], [1, 6]]) (k := 8) (L := [(some 45, 0), (some 46, 1), (some 47, 2), (some 48, 3), (some 49, 4), (some 50, 5), (some 51, 6), (some 52, 7)]) (fuel := 0) (J := fun wj => Below (World.heap w6).size w6 wj)
    (F := [Jo.Fact.eq (.bool true), Jo.Fact.eq (.bool true), Jo.Fact.eq (.agg #[.bool sa, .slice Aa na ca, .int .i64 F1]), Jo.Fact.eq (.bool b3), Jo.Fact.num x, Jo.Fact.eq (.agg #[.int .i64 D0, .bool s0, .int .u64 M0, .int .i64 E0]), Jo.Fact.eq (.bool false), Jo.Fact.eq (.bool false)])
    (by kernel_rfl) (by kernel_rfl) (by decide) rfl rfl (fun _ _ h b => bt h b) ((Below.refl _ _).drew) ?_ (fun vs w7 hJ hd => ?_)
  · refine Jo.jcons (i := 0) (o := ⟨some 45, _, _, _, _, _⟩) (di := some 45) (L := []) (f := Jo.Fact.eq (.bool true)) rfl rfl rfl rfl (fun vs wj hJ hd K hK => ?_) ?_
    · clear hd
      simp only [Jo.putl, List.foldl_nil, Act.put, List.setIfInBounds_toArray, List.set_cons_zero, List.set_cons_succ] at hK ⊢
      go_simp
      exact hK.out _ _ rfl (Below.refl _ _)
    refine Jo.jcons (i := 1) (o := ⟨some 46, _, _, _, _, _⟩) (di := some 46) (L := [(some 45, 0)]) (f := Jo.Fact.eq (.bool true)) rfl rfl rfl rfl (fun vs wj hJ hd K hK => ?_) ?_
    · have d0 : (Jo.Fact.eq (.bool true)).P (vs 0) wj := hd 0 (by decide)
      clear hd
      simp only [Jo.putl, List.foldl_cons, List.foldl_nil, Act.put, List.setIfInBounds_toArray, List.set_cons_zero, List.set_cons_succ] at hK ⊢
      generalize vs 0 = u0 at hK d0 ⊢
      replace d0 : u0 = _ := d0
      subst d0
      go_simp
      exact hK.out _ _ rfl (Below.refl _ _)
    refine Jo.jcons (i := 2) (o := ⟨some 47, _, _, _, _, _⟩) (di := some 47) (L := [(some 46, 1)]) (f := Jo.Fact.eq (.agg #[.bool sa, .slice Aa na ca, .int .i64 F1])) rfl rfl rfl rfl (fun vs wj hJ hd K hK => ?_) ?_
    · have d1 : (Jo.Fact.eq (.bool true)).P (vs 1) wj := hd 1 (by decide)
      clear hd
      simp only [Jo.putl, List.foldl_cons, List.foldl_nil, Act.put, List.setIfInBounds_toArray, List.set_cons_zero, List.set_cons_succ] at hK ⊢
      generalize vs 1 = u1 at hK d1 ⊢
      replace d1 : u1 = _ := d1
      subst d1
      have xX120 : World.cell? wj ⟨w5.heap.size, 0, none⟩ = some (.bool sa) := (X12.below hJ).cell 0
      have xX121 : World.cell? wj ⟨w5.heap.size, 1, none⟩ = some (.slice Aa na ca) := (X12.below hJ).cell 1
      have xX122 : World.cell? wj ⟨w5.heap.size, 2, none⟩ = some (.int .i64 F1) := (X12.below hJ).cell 2
      go_simp
      exact hK.out _ _ rfl (Below.refl _ _)
    refine Jo.jcons (i := 3) (o := ⟨some 48, _, _, _, _, _⟩) (di := some 48) (L := [(some 46, 1)]) (f := Jo.Fact.eq (.bool b3)) rfl rfl rfl rfl (fun vs wj hJ hd K hK => ?_) ?_
    · have d1 : (Jo.Fact.eq (.bool true)).P (vs 1) wj := hd 1 (by decide)
      clear hd
      simp only [Jo.putl, List.foldl_cons, List.foldl_nil, Act.put, List.setIfInBounds_toArray, List.set_cons_zero, List.set_cons_succ] at hK ⊢
      generalize vs 1 = u1 at hK d1 ⊢
      replace d1 : u1 = _ := d1
      subst d1
      go_simp
      exact hK.out _ _ rfl (Below.refl _ _)
    refine Jo.jcons (i := 4) (o := ⟨some 49, _, _, _, _, _⟩) (di := some 49) (L := [(some 46, 1), (some 47, 2), (some 48, 3)]) (f := Jo.Fact.num x) rfl rfl rfl rfl (fun vs wj hJ hd K hK => ?_) ?_
    · have d1 : (Jo.Fact.eq (.bool true)).P (vs 1) wj := hd 1 (by decide)
      have d2 : (Jo.Fact.eq (.agg #[.bool sa, .slice Aa na ca, .int .i64 F1])).P (vs 2) wj := hd 2 (by decide)
      have d3 : (Jo.Fact.eq (.bool b3)).P (vs 3) wj := hd 3 (by decide)
      clear hd
      simp only [Jo.putl, List.foldl_cons, List.foldl_nil, Act.put, List.setIfInBounds_toArray, List.set_cons_zero, List.set_cons_succ] at hK ⊢
      generalize vs 1 = u1 at hK d1 ⊢
      generalize vs 2 = u2 at hK d2 ⊢
      generalize vs 3 = u3 at hK d3 ⊢
      replace d1 : u1 = _ := d1
      subst d1
      replace d2 : u2 = _ := d2
      subst d2
      replace d3 : u3 = _ := d3
      subst d3
      go_simp
      refine (nRound (hT.below hJ) (pa.wr.below hJ) (by omega) HMa.out HMb.out HRB.out).mono ?_
      rintro ee wk ⟨K9, s9, M9, E9, rfl, q9, B⟩
      exact hK.out _ _ ⟨K9, s9, M9, E9, rfl, q9⟩ B
    refine Jo.jcons (i := 5) (o := ⟨some 50, _, _, _, _, _⟩) (di := some 50) (L := [(some 46, 1)]) (f := Jo.Fact.eq (.agg #[.int .i64 D0, .bool s0, .int .u64 M0, .int .i64 E0])) rfl rfl rfl rfl (fun vs wj hJ hd K hK => ?_) ?_
    · have d1 : (Jo.Fact.eq (.bool true)).P (vs 1) wj := hd 1 (by decide)
      clear hd
      simp only [Jo.putl, List.foldl_cons, List.foldl_nil, Act.put, List.setIfInBounds_toArray, List.set_cons_zero, List.set_cons_succ] at hK ⊢
      generalize vs 1 = u1 at hK d1 ⊢
      replace d1 : u1 = _ := d1
      subst d1
      have xX00 : World.cell? wj ⟨w.heap.size, 0, none⟩ = some (.int .i64 D0) := (X0.below hJ).cell 0
      have xX01 : World.cell? wj ⟨w.heap.size, 1, none⟩ = some (.bool s0) := (X0.below hJ).cell 1
      have xX02 : World.cell? wj ⟨w.heap.size, 2, none⟩ = some (.int .u64 M0) := (X0.below hJ).cell 2
      have xX03 : World.cell? wj ⟨w.heap.size, 3, none⟩ = some (.int .i64 E0) := (X0.below hJ).cell 3
      go_simp
      exact hK.out _ _ rfl (Below.refl _ _)
    refine Jo.jcons (i := 6) (o := ⟨some 51, _, _, _, _, _⟩) (di := some 51) (L := [(some 46, 1), (some 49, 4), (some 50, 5)]) (f := Jo.Fact.eq (.bool false)) rfl rfl rfl rfl (fun vs wj hJ hd K hK => ?_) ?_
    · have d1 : (Jo.Fact.eq (.bool true)).P (vs 1) wj := hd 1 (by decide)
      have d4 : (Jo.Fact.num x).P (vs 4) wj := hd 4 (by decide)
      have d5 : (Jo.Fact.eq (.agg #[.int .i64 D0, .bool s0, .int .u64 M0, .int .i64 E0])).P (vs 5) wj := hd 5 (by decide)
      clear hd
      simp only [Jo.putl, List.foldl_cons, List.foldl_nil, Act.put, List.setIfInBounds_toArray, List.set_cons_zero, List.set_cons_succ] at hK ⊢
      generalize vs 1 = u1 at hK d1 ⊢
      generalize vs 4 = u4 at hK d4 ⊢
      generalize vs 5 = u5 at hK d5 ⊢
      replace d1 : u1 = _ := d1
      subst d1
      obtain ⟨K9, s9, M9, E9, rfl, q9⟩ := d4
      replace d5 : u5 = _ := d5
      subst d5
      obtain ⟨rfl, rfl, rfl, rfl⟩ := q9.uniq q0
      go_simp
      exact hK.out _ _ (by first | rfl | (show Value.bool _ = Value.bool _; simp)) (Below.refl _ _)
    refine Jo.jcons (i := 7) (o := ⟨some 52, _, _, _, _, _⟩) (di := some 52) (L := [(some 46, 1), (some 51, 6)]) (f := Jo.Fact.eq (.bool false)) rfl rfl rfl rfl (fun vs wj hJ hd K hK => ?_) ?_
    · have d1 : (Jo.Fact.eq (.bool true)).P (vs 1) wj := hd 1 (by decide)
      have d6 : (Jo.Fact.eq (.bool false)).P (vs 6) wj := hd 6 (by decide)
      clear hd
      simp only [Jo.putl, List.foldl_cons, List.foldl_nil, Act.put, List.setIfInBounds_toArray, List.set_cons_zero, List.set_cons_succ] at hK ⊢
      generalize vs 1 = u1 at hK d1 ⊢
      generalize vs 6 = u6 at hK d6 ⊢
      replace d1 : u1 = _ := d1
      subst d1
      replace d6 : u6 = _ := d6
      subst d6
      go_simp
      exact hK.out _ _ rfl (Below.refl _ _)
    exact Jo.Steps.nil
  have d0 : (Jo.Fact.eq (.bool true)).P (vs 0) w7 := hd 0 (by decide)
  have d1 : (Jo.Fact.eq (.bool true)).P (vs 1) w7 := hd 1 (by decide)
  have d2 : (Jo.Fact.eq (.agg #[.bool sa, .slice Aa na ca, .int .i64 F1])).P (vs 2) w7 := hd 2 (by decide)
  have d3 : (Jo.Fact.eq (.bool b3)).P (vs 3) w7 := hd 3 (by decide)
  have d4 : (Jo.Fact.num x).P (vs 4) w7 := hd 4 (by decide)
  have d5 : (Jo.Fact.eq (.agg #[.int .i64 D0, .bool s0, .int .u64 M0, .int .i64 E0])).P (vs 5) w7 := hd 5 (by decide)
  have d6 : (Jo.Fact.eq (.bool false)).P (vs 6) w7 := hd 6 (by decide)
  have d7 : (Jo.Fact.eq (.bool false)).P (vs 7) w7 := hd 7 (by decide)
  clear hd
  simp only [Jo.putl, List.foldl_cons, List.foldl_nil, Act.put, List.setIfInBounds_toArray, List.set_cons_zero, List.set_cons_succ]
  generalize vs 0 = u0 at d0 ⊢
  generalize vs 1 = u1 at d1 ⊢
  generalize vs 2 = u2 at d2 ⊢
  generalize vs 3 = u3 at d3 ⊢
  generalize vs 4 = u4 at d4 ⊢
  generalize vs 5 = u5 at d5 ⊢
  generalize vs 6 = u6 at d6 ⊢
  generalize vs 7 = u7 at d7 ⊢
  clear vs
  replace d0 : u0 = _ := d0
  subst d0
  replace d1 : u1 = _ := d1
  subst d1
  replace d2 : u2 = _ := d2
  subst d2
  replace d3 : u3 = _ := d3
  subst d3
  obtain ⟨K9, s9, M9, E9, rfl, _⟩ := d4
  replace d5 : u5 = _ := d5
  subst d5
  replace d6 : u6 = _ := d6
  subst d6
  replace d7 : u7 = _ := d7
  subst d7
  replace X0 := X0.below hJ
  replace X1 := X1.below hJ
  replace X2 := X2.below hJ
  replace X12 := X12.below hJ
  replace hT := hT.below hJ
  replace h1 := h1.below hJ
  replace h2 := h2.below hJ
  replace pa := pa.below hJ
  replace HB := Lib.hid (bt HB.out hJ)
  refine Jo.jdone (by kernel_rfl) ?_
  go_upto_region 9 with (fail)
  refine Jo.region_joint (T := [0, 1, 2, 3, 4, 5, 6, 7, 8, 9, 10, 11, 12, 13, 14]) (ds := [some 53, some 54, some 55, some 56, some 57, some 58, some 59, some 60, some 61, some 62, some 63, some 64, some 65, some 66, some 8]) (ls := [[], [], [0, 1], [2], [3], [4], [4], [4, 5, 6], [4], [4], [4, 8, 9], [4, 7, 10], [4, 11], [4, 12], [13]]) (k := 15) (L := [(some 53, 0), (some 54, 1), (some 55, 2), (some 56, 3), (some 57, 4), (some 58, 5), (some 59, 6), (some 60, 7), (some 61, 8), (some 62, 9), (some 63, 10), (some 64, 11), (some 65, 12), (some 66, 13), (some 8, 14)]) (fuel := 0) (J := fun wj => Below (World.heap w7).size w7 wj)
    (F := [Jo.Fact.eq (.agg #[.bool s1, .slice a1 len1 cap1, .int .i64 e1]), Jo.Fact.eq (.agg #[.bool s2, .slice a2 len2 cap2, .int .i64 e2]), Jo.Fact.eq (.int .i64 1), Jo.Fact.eq (.bool true), Jo.Fact.eq (.bool true), Jo.Fact.eq undef, Jo.Fact.eq undef, Jo.Fact.eq undef, Jo.Fact.eq undef, Jo.Fact.eq undef, Jo.Fact.eq undef, Jo.Fact.eq undef, Jo.Fact.eq undef, Jo.Fact.eq (.bool true), Jo.Fact.eq (.bool true)])
    (by kernel_rfl) (by kernel_rfl) (by decide) rfl rfl (fun _ _ h b => bt h b) ((Below.refl _ _).drew) ?_ (fun vs w8 hJ hd => ?_)
  · refine Jo.jcons (i := 0) (o := ⟨some 53, _, _, _, _, _⟩) (di := some 53) (L := []) (f := Jo.Fact.eq (.agg #[.bool s1, .slice a1 len1 cap1, .int .i64 e1])) rfl rfl rfl rfl (fun vs wj hJ hd K hK => ?_) ?_
    · clear hd
      simp only [Jo.putl, List.foldl_nil, Act.put, List.setIfInBounds_toArray, List.set_cons_zero, List.set_cons_succ] at hK ⊢
      have xX10 : World.cell? wj ⟨w.heap.size + 1, 0, none⟩ = some (.bool s1) := (X1.below hJ).cell 0
      have xX11 : World.cell? wj ⟨w.heap.size + 1, 1, none⟩ = some (.slice a1 len1 cap1) := (X1.below hJ).cell 1
      have xX12 : World.cell? wj ⟨w.heap.size + 1, 2, none⟩ = some (.int .i64 e1) := (X1.below hJ).cell 2
      go_simp
      exact hK.out _ _ rfl (Below.refl _ _)
    refine Jo.jcons (i := 1) (o := ⟨some 54, _, _, _, _, _⟩) (di := some 54) (L := []) (f := Jo.Fact.eq (.agg #[.bool s2, .slice a2 len2 cap2, .int .i64 e2])) rfl rfl rfl rfl (fun vs wj hJ hd K hK => ?_) ?_
    · clear hd
      simp only [Jo.putl, List.foldl_nil, Act.put, List.setIfInBounds_toArray, List.set_cons_zero, List.set_cons_succ] at hK ⊢
      have xX20 : World.cell? wj ⟨w.heap.size + 1 + 1, 0, none⟩ = some (.bool s2) := (X2.below hJ).cell 0
      have xX21 : World.cell? wj ⟨w.heap.size + 1 + 1, 1, none⟩ = some (.slice a2 len2 cap2) := (X2.below hJ).cell 1
      have xX22 : World.cell? wj ⟨w.heap.size + 1 + 1, 2, none⟩ = some (.int .i64 e2) := (X2.below hJ).cell 2
      go_simp
      exact hK.out _ _ rfl (Below.refl _ _)
    refine Jo.jcons (i := 2) (o := ⟨some 55, _, _, _, _, _⟩) (di := some 55) (L := [(some 53, 0), (some 54, 1)]) (f := Jo.Fact.eq (.int .i64 1)) rfl rfl rfl rfl (fun vs wj hJ hd K hK => ?_) ?_
    · have d0 : (Jo.Fact.eq (.agg #[.bool s1, .slice a1 len1 cap1, .int .i64 e1])).P (vs 0) wj := hd 0 (by decide)
      have d1 : (Jo.Fact.eq (.agg #[.bool s2, .slice a2 len2 cap2, .int .i64 e2])).P (vs 1) wj := hd 1 (by decide)
      clear hd
      simp only [Jo.putl, List.foldl_cons, List.foldl_nil, Act.put, List.setIfInBounds_toArray, List.set_cons_zero, List.set_cons_succ] at hK ⊢
      generalize vs 0 = u0 at hK d0 ⊢
      generalize vs 1 = u1 at hK d1 ⊢
      replace d0 : u0 = _ := d0
      subst d0
      replace d1 : u1 = _ := d1
      subst d1
      go_simp
      refine (dCmp (hT.below hJ) (h1.below hJ) (h2.below hJ) (by omega) (by omega) HC.out).mono ?_
      rintro ee wk ⟨rfl, B⟩
      exact hK.out _ _ rfl B
    refine Jo.jcons (i := 3) (o := ⟨some 56, _, _, _, _, _⟩) (di := some 56) (L := [(some 55, 2)]) (f := Jo.Fact.eq (.bool true)) rfl rfl rfl rfl (fun vs wj hJ hd K hK => ?_) ?_
    · have d2 : (Jo.Fact.eq (.int .i64 1)).P (vs 2) wj := hd 2 (by decide)
      clear hd
      simp only [Jo.putl, List.foldl_cons, List.foldl_nil, Act.put, List.setIfInBounds_toArray, List.set_cons_zero, List.set_cons_succ] at hK ⊢
      generalize vs 2 = u2 at hK d2 ⊢
      replace d2 : u2 = _ := d2
      subst d2
      go_simp
      exact hK.out _ _ (by first | rfl | (show Value.bool _ = Value.bool _; simp)) (Below.refl _ _)
    refine Jo.jcons (i := 4) (o := ⟨some 57, _, _, _, _, _⟩) (di := some 57) (L := [(some 56, 3)]) (f := Jo.Fact.eq (.bool true)) rfl rfl rfl rfl (fun vs wj hJ hd K hK => ?_) ?_
    · have d3 : (Jo.Fact.eq (.bool true)).P (vs 3) wj := hd 3 (by decide)
      clear hd
      simp only [Jo.putl, List.foldl_cons, List.foldl_nil, Act.put, List.setIfInBounds_toArray, List.set_cons_zero, List.set_cons_succ] at hK ⊢
      generalize vs 3 = u3 at hK d3 ⊢
      replace d3 : u3 = _ := d3
      subst d3
      go_simp
      exact hK.out _ _ rfl (Below.refl _ _)
    refine Jo.jcons (i := 5) (o := ⟨some 58, _, _, _, _, _⟩) (di := some 58) (L := [(some 57, 4)]) (f := Jo.Fact.eq undef) rfl rfl rfl rfl (fun vs wj hJ hd K hK => ?_) ?_
    · have d4 : (Jo.Fact.eq (.bool true)).P (vs 4) wj := hd 4 (by decide)
      clear hd
      simp only [Jo.putl, List.foldl_cons, List.foldl_nil, Act.put, List.setIfInBounds_toArray, List.set_cons_zero, List.set_cons_succ] at hK ⊢
      generalize vs 4 = u4 at hK d4 ⊢
      replace d4 : u4 = _ := d4
      subst d4
      go_simp
      exact hK.out _ _ rfl (Below.refl _ _)
    refine Jo.jcons (i := 6) (o := ⟨some 59, _, _, _, _, _⟩) (di := some 59) (L := [(some 57, 4)]) (f := Jo.Fact.eq undef) rfl rfl rfl rfl (fun vs wj hJ hd K hK => ?_) ?_
    · have d4 : (Jo.Fact.eq (.bool true)).P (vs 4) wj := hd 4 (by decide)
      clear hd
      simp only [Jo.putl, List.foldl_cons, List.foldl_nil, Act.put, List.setIfInBounds_toArray, List.set_cons_zero, List.set_cons_succ] at hK ⊢
      generalize vs 4 = u4 at hK d4 ⊢
      replace d4 : u4 = _ := d4
      subst d4
      go_simp
      exact hK.out _ _ rfl (Below.refl _ _)
    refine Jo.jcons (i := 7) (o := ⟨some 60, _, _, _, _, _⟩) (di := some 60) (L := [(some 57, 4), (some 58, 5), (some 59, 6)]) (f := Jo.Fact.eq undef) rfl rfl rfl rfl (fun vs wj hJ hd K hK => ?_) ?_
    · have d4 : (Jo.Fact.eq (.bool true)).P (vs 4) wj := hd 4 (by decide)
      have d5 : (Jo.Fact.eq undef).P (vs 5) wj := hd 5 (by decide)
      have d6 : (Jo.Fact.eq undef).P (vs 6) wj := hd 6 (by decide)
      clear hd
      simp only [Jo.putl, List.foldl_cons, List.foldl_nil, Act.put, List.setIfInBounds_toArray, List.set_cons_zero, List.set_cons_succ] at hK ⊢
      generalize vs 4 = u4 at hK d4 ⊢
      generalize vs 5 = u5 at hK d5 ⊢
      generalize vs 6 = u6 at hK d6 ⊢
      replace d4 : u4 = _ := d4
      subst d4
      replace d5 : u5 = _ := d5
      subst d5
      replace d6 : u6 = _ := d6
      subst d6
      go_simp
      exact hK.out _ _ rfl (Below.refl _ _)
    refine Jo.jcons (i := 8) (o := ⟨some 61, _, _, _, _, _⟩) (di := some 61) (L := [(some 57, 4)]) (f := Jo.Fact.eq undef) rfl rfl rfl rfl (fun vs wj hJ hd K hK => ?_) ?_
    · have d4 : (Jo.Fact.eq (.bool true)).P (vs 4) wj := hd 4 (by decide)
      clear hd
      simp only [Jo.putl, List.foldl_cons, List.foldl_nil, Act.put, List.setIfInBounds_toArray, List.set_cons_zero, List.set_cons_succ] at hK ⊢
      generalize vs 4 = u4 at hK d4 ⊢
      replace d4 : u4 = _ := d4
      subst d4
      go_simp
      exact hK.out _ _ rfl (Below.refl _ _)
    refine Jo.jcons (i := 9) (o := ⟨some 62, _, _, _, _, _⟩) (di := some 62) (L := [(some 57, 4)]) (f := Jo.Fact.eq undef) rfl rfl rfl rfl (fun vs wj hJ hd K hK => ?_) ?_
    · have d4 : (Jo.Fact.eq (.bool true)).P (vs 4) wj := hd 4 (by decide)
      clear hd
      simp only [Jo.putl, List.foldl_cons, List.foldl_nil, Act.put, List.setIfInBounds_toArray, List.set_cons_zero, List.set_cons_succ] at hK ⊢
      generalize vs 4 = u4 at hK d4 ⊢
      replace d4 : u4 = _ := d4
      subst d4
      go_simp
      exact hK.out _ _ rfl (Below.refl _ _)
    refine Jo.jcons (i := 10) (o := ⟨some 63, _, _, _, _, _⟩) (di := some 63) (L := [(some 57, 4), (some 61, 8), (some 62, 9)]) (f := Jo.Fact.eq undef) rfl rfl rfl rfl (fun vs wj hJ hd K hK => ?_) ?_
    · have d4 : (Jo.Fact.eq (.bool true)).P (vs 4) wj := hd 4 (by decide)
      have d8 : (Jo.Fact.eq undef).P (vs 8) wj := hd 8 (by decide)
      have d9 : (Jo.Fact.eq undef).P (vs 9) wj := hd 9 (by decide)
      clear hd
      simp only [Jo.putl, List.foldl_cons, List.foldl_nil, Act.put, List.setIfInBounds_toArray, List.set_cons_zero, List.set_cons_succ] at hK ⊢
      generalize vs 4 = u4 at hK d4 ⊢
      generalize vs 8 = u8 at hK d8 ⊢
      generalize vs 9 = u9 at hK d9 ⊢
      replace d4 : u4 = _ := d4
      subst d4
      replace d8 : u8 = _ := d8
      subst d8
      replace d9 : u9 = _ := d9
      subst d9
      go_simp
      exact hK.out _ _ rfl (Below.refl _ _)
    refine Jo.jcons (i := 11) (o := ⟨some 64, _, _, _, _, _⟩) (di := some 64) (L := [(some 57, 4), (some 60, 7), (some 63, 10)]) (f := Jo.Fact.eq undef) rfl rfl rfl rfl (fun vs wj hJ hd K hK => ?_) ?_
    · have d4 : (Jo.Fact.eq (.bool true)).P (vs 4) wj := hd 4 (by decide)
      have d7 : (Jo.Fact.eq undef).P (vs 7) wj := hd 7 (by decide)
      have d10 : (Jo.Fact.eq undef).P (vs 10) wj := hd 10 (by decide)
      clear hd
      simp only [Jo.putl, List.foldl_cons, List.foldl_nil, Act.put, List.setIfInBounds_toArray, List.set_cons_zero, List.set_cons_succ] at hK ⊢
      generalize vs 4 = u4 at hK d4 ⊢
      generalize vs 7 = u7 at hK d7 ⊢
      generalize vs 10 = u10 at hK d10 ⊢
      replace d4 : u4 = _ := d4
      subst d4
      replace d7 : u7 = _ := d7
      subst d7
      replace d10 : u10 = _ := d10
      subst d10
      go_simp
      exact hK.out _ _ rfl (Below.refl _ _)
    refine Jo.jcons (i := 12) (o := ⟨some 65, _, _, _, _, _⟩) (di := some 65) (L := [(some 57, 4), (some 64, 11)]) (f := Jo.Fact.eq undef) rfl rfl rfl rfl (fun vs wj hJ hd K hK => ?_) ?_
    · have d4 : (Jo.Fact.eq (.bool true)).P (vs 4) wj := hd 4 (by decide)
      have d11 : (Jo.Fact.eq undef).P (vs 11) wj := hd 11 (by decide)
      clear hd
      simp only [Jo.putl, List.foldl_cons, List.foldl_nil, Act.put, List.setIfInBounds_toArray, List.set_cons_zero, List.set_cons_succ] at hK ⊢
      generalize vs 4 = u4 at hK d4 ⊢
      generalize vs 11 = u11 at hK d11 ⊢
      replace d4 : u4 = _ := d4
      subst d4
      replace d11 : u11 = _ := d11
      subst d11
      go_simp
      exact hK.out _ _ rfl (Below.refl _ _)
    refine Jo.jcons (i := 13) (o := ⟨some 66, _, _, _, _, _⟩) (di := some 66) (L := [(some 57, 4), (some 65, 12)]) (f := Jo.Fact.eq (.bool true)) rfl rfl rfl rfl (fun vs wj hJ hd K hK => ?_) ?_
    · have d4 : (Jo.Fact.eq (.bool true)).P (vs 4) wj := hd 4 (by decide)
      have d12 : (Jo.Fact.eq undef).P (vs 12) wj := hd 12 (by decide)
      clear hd
      simp only [Jo.putl, List.foldl_cons, List.foldl_nil, Act.put, List.setIfInBounds_toArray, List.set_cons_zero, List.set_cons_succ] at hK ⊢
      generalize vs 4 = u4 at hK d4 ⊢
      generalize vs 12 = u12 at hK d12 ⊢
      replace d4 : u4 = _ := d4
      subst d4
      replace d12 : u12 = _ := d12
      subst d12
      go_simp
      exact hK.out _ _ rfl (Below.refl _ _)
    refine Jo.jcons (i := 14) (o := ⟨some 8, _, _, _, _, _⟩) (di := some 8) (L := [(some 66, 13)]) (f := Jo.Fact.eq (.bool true)) rfl rfl rfl rfl (fun vs wj hJ hd K hK => ?_) ?_
    · have d13 : (Jo.Fact.eq (.bool true)).P (vs 13) wj := hd 13 (by decide)
      clear hd
      simp only [Jo.putl, List.foldl_cons, List.foldl_nil, Act.put, List.setIfInBounds_toArray, List.set_cons_zero, List.set_cons_succ] at hK ⊢
      generalize vs 13 = u13 at hK d13 ⊢
      replace d13 : u13 = _ := d13
      subst d13
      go_simp
      exact hK.out _ _ rfl (Below.refl _ _)
    exact Jo.Steps.nil
  have d0 : (Jo.Fact.eq (.agg #[.bool s1, .slice a1 len1 cap1, .int .i64 e1])).P (vs 0) w8 := hd 0 (by decide)
  have d1 : (Jo.Fact.eq (.agg #[.bool s2, .slice a2 len2 cap2, .int .i64 e2])).P (vs 1) w8 := hd 1 (by decide)
  have d2 : (Jo.Fact.eq (.int .i64 1)).P (vs 2) w8 := hd 2 (by decide)
  have d3 : (Jo.Fact.eq (.bool true)).P (vs 3) w8 := hd 3 (by decide)
  have d4 : (Jo.Fact.eq (.bool true)).P (vs 4) w8 := hd 4 (by decide)
  have d5 : (Jo.Fact.eq undef).P (vs 5) w8 := hd 5 (by decide)
  have d6 : (Jo.Fact.eq undef).P (vs 6) w8 := hd 6 (by decide)
  have d7 : (Jo.Fact.eq undef).P (vs 7) w8 := hd 7 (by decide)
  have d8 : (Jo.Fact.eq undef).P (vs 8) w8 := hd 8 (by decide)
  have d9 : (Jo.Fact.eq undef).P (vs 9) w8 := hd 9 (by decide)
  have d10 : (Jo.Fact.eq undef).P (vs 10) w8 := hd 10 (by decide)
  have d11 : (Jo.Fact.eq undef).P (vs 11) w8 := hd 11 (by decide)
  have d12 : (Jo.Fact.eq undef).P (vs 12) w8 := hd 12 (by decide)
  have d13 : (Jo.Fact.eq (.bool true)).P (vs 13) w8 := hd 13 (by decide)
  have d14 : (Jo.Fact.eq (.bool true)).P (vs 14) w8 := hd 14 (by decide)
  clear hd
  simp only [Jo.putl, List.foldl_cons, List.foldl_nil, Act.put, List.setIfInBounds_toArray, List.set_cons_zero, List.set_cons_succ]
  generalize vs 0 = u0 at d0 ⊢
  generalize vs 1 = u1 at d1 ⊢
  generalize vs 2 = u2 at d2 ⊢
  generalize vs 3 = u3 at d3 ⊢
  generalize vs 4 = u4 at d4 ⊢
  generalize vs 5 = u5 at d5 ⊢
  generalize vs 6 = u6 at d6 ⊢
  generalize vs 7 = u7 at d7 ⊢
  generalize vs 8 = u8 at d8 ⊢
  generalize vs 9 = u9 at d9 ⊢
  generalize vs 10 = u10 at d10 ⊢
  generalize vs 11 = u11 at d11 ⊢
  generalize vs 12 = u12 at d12 ⊢
  generalize vs 13 = u13 at d13 ⊢
  generalize vs 14 = u14 at d14 ⊢
  clear vs
  replace d0 : u0 = _ := d0
  subst d0
  replace d1 : u1 = _ := d1
  subst d1
  replace d2 : u2 = _ := d2
  subst d2
  replace d3 : u3 = _ := d3
  subst d3
  replace d4 : u4 = _ := d4
  subst d4
  replace d5 : u5 = _ := d5
  subst d5
  replace d6 : u6 = _ := d6
  subst d6
  replace d7 : u7 = _ := d7
  subst d7
  replace d8 : u8 = _ := d8
  subst d8
  replace d9 : u9 = _ := d9
  subst d9
  replace d10 : u10 = _ := d10
  subst d10
  replace d11 : u11 = _ := d11
  subst d11
  replace d12 : u12 = _ := d12
  subst d12
  replace d13 : u13 = _ := d13
  subst d13
  replace d14 : u14 = _ := d14
  subst d14
  replace X0 := X0.below hJ
  replace X1 := X1.below hJ
  replace X2 := X2.below hJ
  replace X12 := X12.below hJ
  replace hT := hT.below hJ
  replace h1 := h1.below hJ
  replace h2 := h2.below hJ
  replace pa := pa.below hJ
  replace HB := Lib.hid (bt HB.out hJ)
  refine Jo.jdone (by kernel_rfl) ?_
  go_wp2
  go_ret
  exact ⟨rfl, HB.out⟩
set_option maxHeartbeats 8000000 in
theorem numBack_main_yl (D0 : Int) (s0 : Bool) (M0 E0 : Int) (s1 : Bool) (a1 : Option Addr) (len1 cap1 : Nat) (e1 : Int) (s2 : Bool) (a2 : Option Addr) (len2 cap2 : Nat) (e2 : Int) (b3 : Bool) (w : World) (y z c : Int) (hT : Tab w) (hM0 : 0 ≤ M0) (hM : M0 < 18446744073709551616) (h1 : Wr w s1 a1 len1 cap1 y) (h2 : Wr w s2 a2 len2 cap2 z) (hp : fewB len1 e1 = true) (hq : fewB len2 e2 = true) (g1 : -1000 ≤ E0) (g2 : E0 ≤ 1000)
    (hx : exb D0 s0 M0 E0 = true) (hc : cmpI (vl (mk y e1)) (vl (mk z e2)) = c) (hc2 : c ≤ 0) (hle : rnd b3 (mk y e1).1 (mk y e1).2 ≤ rnd b3 (mk z e2).1 (mk z e2).2) :
    Calls Tryd.prog 7 #[.agg #[.int .i64 D0, .bool s0, .int .u64 M0, .int .i64 E0], .agg #[.bool s1, .slice a1 len1 cap1, .int .i64 e1], .agg #[.bool s2, .slice a2 len2 cap2, .int .i64 e2], .bool b3] w (PB w true) := by
  obtain ⟨hn1, _, _⟩ := fewB_true hp
  obtain ⟨hn2, _, _⟩ := fewB_true hq
  have HP := Lib.hid hp
  have HQ := Lib.hid hq
  have HX := Lib.hid hx
  have HC := Lib.hid hc
  have HC2 : Hid (decide (0 < c) = false) := Lib.hid (decide_eq_false (by omega))
  obtain ⟨r1, hr1⟩ : ∃ r, rnd b3 (mk y e1).1 (mk y e1).2 = r := ⟨_, rfl⟩
  obtain ⟨r2, hr2⟩ : ∃ r, rnd b3 (mk z e2).1 (mk z e2).2 = r := ⟨_, rfl⟩
  rw [hr1, hr2] at hle
  obtain ⟨c2, hcc⟩ : ∃ c2, cmpI r1 r2 = c2 := ⟨_, rfl⟩
  have HC3 : Hid (decide (c2 ≤ 0) = true) := Lib.hid (decide_eq_true (by
    rw [← hcc]
    rcases cmpI_tri r1 r2 with ⟨a, b⟩ | ⟨a, b⟩ | ⟨a, b⟩ <;> rw [b] <;> omega))
  have HCC := Lib.hid hcc
  have HR1 := Lib.hid hr1
  have HR2 := Lib.hid hr2
  clear hc2 hle hcc hr1 hr2
  obtain ⟨N1, hN1⟩ : ∃ N, (exq D0 s0 M0 E0).1 = N := ⟨_, rfl⟩
  obtain ⟨F1, hF1⟩ : ∃ N, (exq D0 s0 M0 E0).2 = N := ⟨_, rfl⟩
  have HN1 := Lib.hid hN1
  have HF1 := Lib.hid hF1
  have hmq : MayQ D0 s0 M0 E0 := by
    unfold exb at hx
    exact of_decide_eq_true (Bool.and_eq_true _ _ ▸ hx : _ ∧ _).1
  have q0 := rk_fq hM hmq
  have hb := rnd_back b3 q0 hx
  have hmk := mk_exq' D0 s0 M0 E0
  rw [hN1, hF1] at hb hmk
  have HMa : Hid ((mk N1 F1).1 = N1) := Lib.hid (by rw [hmk, hN1])
  have HMb : Hid ((mk N1 F1).2 = F1) := Lib.hid (by rw [hmk, hF1])
  revert q0 hb
  generalize rk D0 s0 M0 E0 = x
  intro q0 hb
  have HRB := Lib.hid hb
  clear hmq hmk hb
  clear hp hq hx hc hN1 hF1
  go_enter Tryd.func7, Tryd.ntmps7
  go_upto_region 1 with (fail)
  have X0 := (Bo.newAt w (g := w.heap.size) (by simp) #[.int .i64 D0, .bool s0, .int .u64 M0, .int .i64 E0] 30).below (bel2 _ (.cells #[.bool s1, .slice a1 len1 cap1, .int .i64 e1] 26) (.cells #[.bool s2, .slice a2 len2 cap2, .int .i64 e2] 26))
  have X1 := (Bo.newAt (w.alloc (.cells #[.int .i64 D0, .bool s0, .int .u64 M0, .int .i64 E0] 30)) (g := w.heap.size + 1) (by simp) #[.bool s1, .slice a1 len1 cap1, .int .i64 e1] 26).below (bel1 _ (.cells #[.bool s2, .slice a2 len2 cap2, .int .i64 e2] 26))
  have X2 := (Bo.newAt ((w.alloc (.cells #[.int .i64 D0, .bool s0, .int .u64 M0, .int .i64 E0] 30)).alloc (.cells #[.bool s1, .slice a1 len1 cap1, .int .i64 e1] 26)) (g := w.heap.size + 1 + 1) (by simp) #[.bool s2, .slice a2 len2 cap2, .int .i64 e2] 26)
  have HB := Lib.hid (bel3 w (.cells #[.int .i64 D0, .bool s0, .int .u64 M0, .int .i64 E0] 30) (.cells #[.bool s1, .slice a1 len1 cap1, .int .i64 e1] 26) (.cells #[.bool s2, .slice a2 len2 cap2, .int .i64 e2] 26))
  replace hT := hT.below HB.out
  replace h1 := h1.below HB.out
  replace h2 := h2.below HB.out
  generalize hW1 : (((w.alloc (.cells #[.int .i64 D0, .bool s0, .int .u64 M0, .int .i64 E0] 30)).alloc (.cells #[.bool s1, .slice a1 len1 cap1, .int .i64 e1] 26)).alloc (.cells #[.bool s2, .slice a2 len2 cap2, .int .i64 e2] 26)) = w1 at *
  clear hW1
  go_wp2_with fail
  refine (awake5 _ hT).mono ?_
  rintro ee w2 ⟨rfl, B⟩
  replace X0 := X0.below B
  replace X1 := X1.below B
  replace X2 := X2.below B
  replace hT := hT.below B
  replace h1 := h1.below B
  replace h2 := h2.below B
  replace HB := Lib.hid (bt HB.out B)
  clear B
  have xX10 := X1.at (i := 0) (v := .bool s1) rfl
  have xX11 := X1.at (i := 1) (v := .slice a1 len1 cap1) rfl
  have xX12 := X1.at (i := 2) (v := .int .i64 e1) rfl
  go_wp2_with fail
  refine (few3E _ HP.out).mono ?_
  rintro ee w3 ⟨rfl, B⟩
  clear xX10 xX11 xX12
  replace X0 := X0.below B
  replace X1 := X1.below B
  replace X2 := X2.below B
  replace hT := hT.below B
  replace h1 := h1.below B
  replace h2 := h2.below B
  replace HB := Lib.hid (bt HB.out B)
  clear B
  have xX20 := X2.at (i := 0) (v := .bool s2) rfl
  have xX21 := X2.at (i := 1) (v := .slice a2 len2 cap2) rfl
  have xX22 := X2.at (i := 2) (v := .int .i64 e2) rfl
  go_wp2_with fail
  refine (few3E _ HQ.out).mono ?_
  rintro ee w4 ⟨rfl, B⟩
  clear xX20 xX21 xX22
  replace X0 := X0.below B
  replace X1 := X1.below B
  replace X2 := X2.below B
  replace hT := hT.below B
  replace h1 := h1.below B
  replace h2 := h2.below B
  replace HB := Lib.hid (bt HB.out B)
  clear B
  have xX00 := X0.at (i := 0) (v := .int .i64 D0) rfl
  have xX01 := X0.at (i := 1) (v := .bool s0) rfl
  have xX02 := X0.at (i := 2) (v := .int .u64 M0) rfl
  have xX03 := X0.at (i := 3) (v := .int .i64 E0) rfl
  go_wp2_with fail
  refine (nExact hT hM0 hM HX.out HN1.out HF1.out).mono ?_
  rintro ee w5 ⟨sa, Aa, na, ca, rfl, pa, ka, B⟩
  clear xX00 xX01 xX02 xX03
  replace X0 := X0.below B
  replace X1 := X1.below B
  replace X2 := X2.below B
  replace hT := hT.below B
  replace h1 := h1.below B
  replace h2 := h2.below B
  replace HB := Lib.hid (bt HB.out B)
  clear B
  go_upto_region 7 with (fail)
  have lX12 := Nat.le_refl (World.heap w5).size
  have nX12X0 := X0.lt
  have nX12X1 := X1.lt
  have nX12X2 := X2.lt
  replace X0 := X0.below (bel1 _ (.cells #[.bool sa, .slice Aa na ca, .int .i64 F1] 26))
  replace X1 := X1.below (bel1 _ (.cells #[.bool sa, .slice Aa na ca, .int .i64 F1] 26))
  replace X2 := X2.below (bel1 _ (.cells #[.bool sa, .slice Aa na ca, .int .i64 F1] 26))
  replace hT := hT.below (bel1 _ (.cells #[.bool sa, .slice Aa na ca, .int .i64 F1] 26))
  replace h1 := h1.below (bel1 _ (.cells #[.bool sa, .slice Aa na ca, .int .i64 F1] 26))
  replace h2 := h2.below (bel1 _ (.cells #[.bool sa, .slice Aa na ca, .int .i64 F1] 26))
  replace pa := pa.below (bel1 _ (.cells #[.bool sa, .slice Aa na ca, .int .i64 F1] 26))
  replace HB := Lib.hid (bt HB.out (bel1 _ (.cells #[.bool sa, .slice Aa na ca, .int .i64 F1] 26)))
  have X12 := Bo.new w5 #[.bool sa, .slice Aa na ca, .int .i64 F1] 26
  generalize hWn : World.alloc w5 (.cells #[.bool sa, .slice Aa na ca, .int .i64 F1] 26) = w6 at *
  clear hWn
  clear lX12
  refine Jo.region_joint (T := [0, 1, 2, 3, 4, 5, 6, 7]) (ds := [some 45, some 46, some 47, some 48, some 49, some 50, some 51, some 52]) (ls := [[], [0], [1], [1], [1, 2, 3], [1], [1, 4, 5], [1, 6]]) (k := 8) (L := [(some 45, 0), (some 46, 1), (some 47, 2), (some 48, 3), (some 49, 4), (some 50, 5), (some 51, 6), (some 52, 7)]) (fuel := 0) (J := fun wj => Below (World.heap w6).size w6 wj)
    (F := [Jo.Fact.eq (.bool true), Jo.Fact.eq (.bool true), Jo.Fact.eq (.agg #[.bool sa, .slice Aa na ca, .int .i64 F1]), Jo.Fact.eq (.bool b3), Jo.Fact.num x, Jo.Fact.eq (.agg #[.int .i64 D0, .bool s0, .int .u64 M0, .int .i64 E0]), Jo.Fact.eq (.bool false), Jo.Fact.eq (.bool false)])
    (by kernel_rfl) (by kernel_rfl) (by decide) rfl rfl (fun _ _ h b => bt h b) ((Below.refl _ _).drew) ?_ (fun vs w7 hJ hd => ?_)
  · refine Jo.jcons (i := 0) (o := ⟨some 45, _, _, _, _, _⟩) (di := some 45) (L := []) (f := Jo.Fact.eq (.bool true)) rfl rfl rfl rfl (fun vs wj hJ hd K hK => ?_) ?_
    · clear hd
      simp only [Jo.putl, List.foldl_nil, Act.put, List.setIfInBounds_toArray, List.set_cons_zero, List.set_cons_succ] at hK ⊢
      go_simp
      exact hK.out _ _ rfl (Below.refl _ _)
    refine Jo.jcons (i := 1) (o := ⟨some 46, _, _, _, _, _⟩) (di := some 46) (L := [(some 45, 0)]) (f := Jo.Fact.eq (.bool true)) rfl rfl rfl rfl (fun vs wj hJ hd K hK => ?_) ?_
    · have d0 : (Jo.Fact.eq (.bool true)).P (vs 0) wj := hd 0 (by decide)
      clear hd
      simp only [Jo.putl, List.foldl_cons, List.foldl_nil, Act.put, List.setIfInBounds_toArray, List.set_cons_zero, List.set_cons_succ] at hK ⊢
      generalize vs 0 = u0 at hK d0 ⊢
      replace d0 : u0 = _ := d0
      subst d0
      go_simp
      exact hK.out _ _ rfl (Below.refl _ _)
    refine Jo.jcons (i := 2) (o := ⟨some 47, _, _, _, _, _⟩) (di := some 47) (L := [(some 46, 1)]) (f := Jo.Fact.eq (.agg #[.bool sa, .slice Aa na ca, .int .i64 F1])) rfl rfl rfl rfl (fun vs wj hJ hd K hK => ?_) ?_
    · have d1 : (Jo.Fact.eq (.bool true)).P (vs 1) wj := hd 1 (by decide)
      clear hd
      simp only [Jo.putl, List.foldl_cons, List.foldl_nil, Act.put, List.setIfInBounds_toArray, List.set_cons_zero, List.set_cons_succ] at hK ⊢
      generalize vs 1 = u1 at hK d1 ⊢
      replace d1 : u1 = _ := d1
      subst d1
      have xX120 : World.cell? wj ⟨w5.heap.size, 0, none⟩ = some (.bool sa) := (X12.below hJ).cell 0
      have xX121 : World.cell? wj ⟨w5.heap.size, 1, none⟩ = some (.slice Aa na ca) := (X12.below hJ).cell 1
      have xX122 : World.cell? wj ⟨w5.heap.size, 2, none⟩ = some (.int .i64 F1) := (X12.below hJ).cell 2
      go_simp
      exact hK.out _ _ rfl (Below.refl _ _)
    refine Jo.jcons (i := 3) (o := ⟨some 48, _, _, _, _, _⟩) (di := some 48) (L := [(some 46, 1)]) (f := Jo.Fact.eq (.bool b3)) rfl rfl rfl rfl (fun vs wj hJ hd K hK => ?_) ?_
    · have d1 : (Jo.Fact.eq (.bool true)).P (vs 1) wj := hd 1 (by decide)
      clear hd
      simp only [Jo.putl, List.foldl_cons, List.foldl_nil, Act.put, List.setIfInBounds_toArray, List.set_cons_zero, List.set_cons_succ] at hK ⊢
      generalize vs 1 = u1 at hK d1 ⊢
      replace d1 : u1 = _ := d1
      subst d1
      go_simp
      exact hK.out _ _ rfl (Below.refl _ _)
    refine Jo.jcons (i := 4) (o := ⟨some 49, _, _, _, _, _⟩) (di := some 49) (L := [(some 46, 1), (some 47, 2), (some 48, 3)]) (f := Jo.Fact.num x) rfl rfl rfl rfl (fun vs wj hJ hd K hK => ?_) ?_
    · have d1 : (Jo.Fact.eq (.bool true)).P (vs 1) wj := hd 1 (by decide)
      have d2 : (Jo.Fact.eq (.agg #[.bool sa, .slice Aa na ca, .int .i64 F1])).P (vs 2) wj := hd 2 (by decide)
      have d3 : (Jo.Fact.eq (.bool b3)).P (vs 3) wj := hd 3 (by decide)
      clear hd
      simp only [Jo.putl, List.foldl_cons, List.foldl_nil, Act.put, List.setIfInBounds_toArray, List.set_cons_zero, List.set_cons_succ] at hK ⊢
      generalize vs 1 = u1 at hK d1 ⊢
      generalize vs 2 = u2 at hK d2 ⊢
      generalize vs 3 = u3 at hK d3 ⊢
      replace d1 : u1 = _ := d1
      subst d1
      replace d2 : u2 = _ := d2
      subst d2
      replace d3 : u3 = _ := d3
      subst d3
      go_simp
      refine (nRound (hT.below hJ) (pa.wr.below hJ) (by omega) HMa.out HMb.out HRB.out).mono ?_
      rintro ee wk ⟨K9, s9, M9, E9, rfl, q9, B⟩
      exact hK.out _ _ ⟨K9, s9, M9, E9, rfl, q9⟩ B
    refine Jo.jcons (i := 5) (o := ⟨some 50, _, _, _, _, _⟩) (di := some 50) (L := [(some 46, 1)]) (f := Jo.Fact.eq (.agg #[.int .i64 D0, .bool s0, .int .u64 M0, .int .i64 E0])) rfl rfl rfl rfl (fun vs wj hJ hd K hK => ?_) ?_
    · have d1 : (Jo.Fact.eq (.bool true)).P (vs 1) wj := hd 1 (by decide)
      clear hd
      simp only [Jo.putl, List.foldl_cons, List.foldl_nil, Act.put, List.setIfInBounds_toArray, List.set_cons_zero, List.set_cons_succ] at hK ⊢
      generalize vs 1 = u1 at hK d1 ⊢
      replace d1 : u1 = _ := d1
      subst d1
      have xX00 : World.cell? wj ⟨w.heap.size, 0, none⟩ = some (.int .i64 D0) := (X0.below hJ).cell 0
      have xX01 : World.cell? wj ⟨w.heap.size, 1, none⟩ = some (.bool s0) := (X0.below hJ).cell 1
      have xX02 : World.cell? wj ⟨w.heap.size, 2, none⟩ = some (.int .u64 M0) := (X0.below hJ).cell 2
      have xX03 : World.cell? wj ⟨w.heap.size, 3, none⟩ = some (.int .i64 E0) := (X0.below hJ).cell 3
      go_simp
      exact hK.out _ _ rfl (Below.refl _ _)
    refine Jo.jcons (i := 6) (o := ⟨some 51, _, _, _, _, _⟩) (di := some 51) (L := [(some 46, 1), (some 49, 4), (some 50, 5)]) (f := Jo.Fact.eq (.bool false)) rfl rfl rfl rfl (fun vs wj hJ hd K hK => ?_) ?_
    · have d1 : (Jo.Fact.eq (.bool true)).P (vs 1) wj := hd 1 (by decide)
      have d4 : (Jo.Fact.num x).P (vs 4) wj := hd 4 (by decide)
      have d5 : (Jo.Fact.eq (.agg #[.int .i64 D0, .bool s0, .int .u64 M0, .int .i64 E0])).P (vs 5) wj := hd 5 (by decide)
      clear hd
      simp only [Jo.putl, List.foldl_cons, List.foldl_nil, Act.put, List.setIfInBounds_toArray, List.set_cons_zero, List.set_cons_succ] at hK ⊢
      generalize vs 1 = u1 at hK d1 ⊢
      generalize vs 4 = u4 at hK d4 ⊢
      generalize vs 5 = u5 at hK d5 ⊢
      replace d1 : u1 = _ := d1
      subst d1
      obtain ⟨K9, s9, M9, E9, rfl, q9⟩ := d4
      replace d5 : u5 = _ := d5
      subst d5
      obtain ⟨rfl, rfl, rfl, rfl⟩ := q9.uniq q0
      go_simp
      exact hK.out _ _ (by first | rfl | (show Value.bool _ = Value.bool _; simp)) (Below.refl _ _)
    refine Jo.jcons (i := 7) (o := ⟨some 52, _, _, _, _, _⟩) (di := some 52) (L := [(some 46, 1), (some 51, 6)]) (f := Jo.Fact.eq (.bool false)) rfl rfl rfl rfl (fun vs wj hJ hd K hK => ?_) ?_
    · have d1 : (Jo.Fact.eq (.bool true)).P (vs 1) wj := hd 1 (by decide)
      have d6 : (Jo.Fact.eq (.bool false)).P (vs 6) wj := hd 6 (by decide)
      clear hd
      simp only [Jo.putl, List.foldl_cons, List.foldl_nil, Act.put, List.setIfInBounds_toArray, List.set_cons_zero, List.set_cons_succ] at hK ⊢
      generalize vs 1 = u1 at hK d1 ⊢
      generalize vs 6 = u6 at hK d6 ⊢
      replace d1 : u1 = _ := d1
      subst d1
      replace d6 : u6 = _ := d6
      subst d6
      go_simp
      exact hK.out _ _ rfl (Below.refl _ _)
    exact Jo.Steps.nil
  have d0 : (Jo.Fact.eq (.bool true)).P (vs 0) w7 := hd 0 (by decide)
  have d1 : (Jo.Fact.eq (.bool true)).P (vs 1) w7 := hd 1 (by decide)
  have d2 : (Jo.Fact.eq (.agg #[.bool sa, .slice Aa na ca, .int .i64 F1])).P (vs 2) w7 := hd 2 (by decide)
  have d3 : (Jo.Fact.eq (.bool b3)).P (vs 3) w7 := hd 3 (by decide)
  have d4 : (Jo.Fact.num x).P (vs 4) w7 := hd 4 (by decide)
  have d5 : (Jo.Fact.eq (.agg #[.int .i64 D0, .bool s0, .int .u64 M0, .int .i64 E0])).P (vs 5) w7 := hd 5 (by decide)
  have d6 : (Jo.Fact.eq (.bool false)).P (vs 6) w7 := hd 6 (by decide)
  have d7 : (Jo.Fact.eq (.bool false)).P (vs 7) w7 := hd 7 (by decide)
  clear hd
  simp only [Jo.putl, List.foldl_cons, List.foldl_nil, Act.put, List.setIfInBounds_toArray, List.set_cons_zero, List.set_cons_succ]
  generalize vs 0 = u0 at d0 ⊢
  generalize vs 1 = u1 at d1 ⊢
  generalize vs 2 = u2 at d2 ⊢
  generalize vs 3 = u3 at d3 ⊢
  generalize vs 4 = u4 at d4 ⊢
  generalize vs 5 = u5 at d5 ⊢
  generalize vs 6 = u6 at d6 ⊢
  generalize vs 7 = u7 at d7 ⊢
  clear vs
  replace d0 : u0 = _ := d0
  subst d0
  replace d1 : u1 = _ := d1
  subst d1
  replace d2 : u2 = _ := d2
  subst d2
  replace d3 : u3 = _ := d3
  subst d3
  obtain ⟨K9, s9, M9, E9, rfl, _⟩ := d4
  replace d5 : u5 = _ := d5
  subst d5
  replace d6 : u6 = _ := d6
  subst d6
  replace d7 : u7 = _ := d7
  subst d7
  replace X0 := X0.below hJ
  replace X1 := X1.below hJ
  replace X2 := X2.below hJ
  replace X12 := X12.below hJ
  replace hT := hT.below hJ
  replace h1 := h1.below hJ
  replace h2 := h2.below hJ
  replace pa := pa.below hJ
  replace HB := Lib.hid (bt HB.out hJ)
  refine Jo.jdone (by kernel_rfl) ?_
  go_upto_region 9 with (fail)
  refine Jo.region_joint (T := [0, 1, 2, 3, 4, 5, 6, 7, 8, 9, 10, 11, 12, 13, 14]) (ds := [some 53, some 54, some 55, some 56, some 57, some 58, some 59, some 60, some 61, some 62, some 63, some 64, some 65, some 66, some 8]) (ls := [[], [], [0, 1], [2], [3], [4], [4], [4, 5, 6], [4], [4], [4, 8, 9], [4, 7, 10], [4, 11], [4, 12], [13]]) (k := 15) (L := [(some 53, 0), (some 54, 1), (some 55, 2), (some 56, 3), (some 57, 4), (some 58, 5), (some 59, 6), (some 60, 7), (some 61, 8), (some 62, 9), (some 63, 10), (some 64, 11), (some 65, 12), (some 66, 13), (some 8, 14)]) (fuel := 0) (J := fun wj => Below (World.heap w7).size w7 wj)
    (F := [Jo.Fact.eq (.agg #[.bool s1, .slice a1 len1 cap1, .int .i64 e1]), Jo.Fact.eq (.agg #[.bool s2, .slice a2 len2 cap2, .int .i64 e2]), Jo.Fact.eq (.int .i64 c), Jo.Fact.eq (.bool false), Jo.Fact.eq (.bool false), Jo.Fact.eq (.agg #[.bool s1, .slice a1 len1 cap1, .int .i64 e1]), Jo.Fact.eq (.bool b3), Jo.Fact.num r1, Jo.Fact.eq (.agg #[.bool s2, .slice a2 len2 cap2, .int .i64 e2]), Jo.Fact.eq (.bool b3), Jo.Fact.num r2, Jo.Fact.eq (.int .i64 c2), Jo.Fact.eq (.bool true), Jo.Fact.eq (.bool true), Jo.Fact.eq (.bool true)])
    (by kernel_rfl) (by kernel_rfl) (by decide) rfl rfl (fun _ _ h b => bt h b) ((Below.refl _ _).drew) ?_ (fun vs w8 hJ hd => ?_)
  · refine Jo.jcons (i := 0) (o := ⟨some 53, _, _, _, _, _⟩) (di := some 53) (L := []) (f := Jo.Fact.eq (.agg #[.bool s1, .slice a1 len1 cap1, .int .i64 e1])) rfl rfl rfl rfl (fun vs wj hJ hd K hK => ?_) ?_
    · clear hd
      simp only [Jo.putl, List.foldl_nil, Act.put, List.setIfInBounds_toArray, List.set_cons_zero, List.set_cons_succ] at hK ⊢
      have xX10 : World.cell? wj ⟨w.heap.size + 1, 0, none⟩ = some (.bool s1) := (X1.below hJ).cell 0
      have xX11 : World.cell? wj ⟨w.heap.size + 1, 1, none⟩ = some (.slice a1 len1 cap1) := (X1.below hJ).cell 1
      have xX12 : World.cell? wj ⟨w.heap.size + 1, 2, none⟩ = some (.int .i64 e1) := (X1.below hJ).cell 2
      go_simp
      exact hK.out _ _ rfl (Below.refl _ _)
    refine Jo.jcons (i := 1) (o := ⟨some 54, _, _, _, _, _⟩) (di := some 54) (L := []) (f := Jo.Fact.eq (.agg #[.bool s2, .slice a2 len2 cap2, .int .i64 e2])) rfl rfl rfl rfl (fun vs wj hJ hd K hK => ?_) ?_
    · clear hd
      simp only [Jo.putl, List.foldl_nil, Act.put, List.setIfInBounds_toArray, List.set_cons_zero, List.set_cons_succ] at hK ⊢
      have xX20 : World.cell? wj ⟨w.heap.size + 1 + 1, 0, none⟩ = some (.bool s2) := (X2.below hJ).cell 0
      have xX21 : World.cell? wj ⟨w.heap.size + 1 + 1, 1, none⟩ = some (.slice a2 len2 cap2) := (X2.below hJ).cell 1
      have xX22 : World.cell? wj ⟨w.heap.size + 1 + 1, 2, none⟩ = some (.int .i64 e2) := (X2.below hJ).cell 2
      go_simp
      exact hK.out _ _ rfl (Below.refl _ _)
    refine Jo.jcons (i := 2) (o := ⟨some 55, _, _, _, _, _⟩) (di := some 55) (L := [(some 53, 0), (some 54, 1)]) (f := Jo.Fact.eq (.int .i64 c)) rfl rfl rfl rfl (fun vs wj hJ hd K hK => ?_) ?_
    · have d0 : (Jo.Fact.eq (.agg #[.bool s1, .slice a1 len1 cap1, .int .i64 e1])).P (vs 0) wj := hd 0 (by decide)
      have d1 : (Jo.Fact.eq (.agg #[.bool s2, .slice a2 len2 cap2, .int .i64 e2])).P (vs 1) wj := hd 1 (by decide)
      clear hd
      simp only [Jo.putl, List.foldl_cons, List.foldl_nil, Act.put, List.setIfInBounds_toArray, List.set_cons_zero, List.set_cons_succ] at hK ⊢
      generalize vs 0 = u0 at hK d0 ⊢
      generalize vs 1 = u1 at hK d1 ⊢
      replace d0 : u0 = _ := d0
      subst d0
      replace d1 : u1 = _ := d1
      subst d1
      go_simp
      refine (dCmp (hT.below hJ) (h1.below hJ) (h2.below hJ) (by omega) (by omega) HC.out).mono ?_
      rintro ee wk ⟨rfl, B⟩
      exact hK.out _ _ rfl B
    refine Jo.jcons (i := 3) (o := ⟨some 56, _, _, _, _, _⟩) (di := some 56) (L := [(some 55, 2)]) (f := Jo.Fact.eq (.bool false)) rfl rfl rfl rfl (fun vs wj hJ hd K hK => ?_) ?_
    · have d2 : (Jo.Fact.eq (.int .i64 c)).P (vs 2) wj := hd 2 (by decide)
      clear hd
      simp only [Jo.putl, List.foldl_cons, List.foldl_nil, Act.put, List.setIfInBounds_toArray, List.set_cons_zero, List.set_cons_succ] at hK ⊢
      generalize vs 2 = u2 at hK d2 ⊢
      replace d2 : u2 = _ := d2
      subst d2
      have ht := HC2.out
      go_simp
      exact hK.out _ _ (by first | rfl | (show Value.bool _ = Value.bool _; simp only [ht])) (Below.refl _ _)
    refine Jo.jcons (i := 4) (o := ⟨some 57, _, _, _, _, _⟩) (di := some 57) (L := [(some 56, 3)]) (f := Jo.Fact.eq (.bool false)) rfl rfl rfl rfl (fun vs wj hJ hd K hK => ?_) ?_
    · have d3 : (Jo.Fact.eq (.bool false)).P (vs 3) wj := hd 3 (by decide)
      clear hd
      simp only [Jo.putl, List.foldl_cons, List.foldl_nil, Act.put, List.setIfInBounds_toArray, List.set_cons_zero, List.set_cons_succ] at hK ⊢
      generalize vs 3 = u3 at hK d3 ⊢
      replace d3 : u3 = _ := d3
      subst d3
      go_simp
      exact hK.out _ _ rfl (Below.refl _ _)
    refine Jo.jcons (i := 5) (o := ⟨some 58, _, _, _, _, _⟩) (di := some 58) (L := [(some 57, 4)]) (f := Jo.Fact.eq (.agg #[.bool s1, .slice a1 len1 cap1, .int .i64 e1])) rfl rfl rfl rfl (fun vs wj hJ hd K hK => ?_) ?_
    · have d4 : (Jo.Fact.eq (.bool false)).P (vs 4) wj := hd 4 (by decide)
      clear hd
      simp only [Jo.putl, List.foldl_cons, List.foldl_nil, Act.put, List.setIfInBounds_toArray, List.set_cons_zero, List.set_cons_succ] at hK ⊢
      generalize vs 4 = u4 at hK d4 ⊢
      replace d4 : u4 = _ := d4
      subst d4
      have xX10 : World.cell? wj ⟨w.heap.size + 1, 0, none⟩ = some (.bool s1) := (X1.below hJ).cell 0
      have xX11 : World.cell? wj ⟨w.heap.size + 1, 1, none⟩ = some (.slice a1 len1 cap1) := (X1.below hJ).cell 1
      have xX12 : World.cell? wj ⟨w.heap.size + 1, 2, none⟩ = some (.int .i64 e1) := (X1.below hJ).cell 2
      go_simp
      exact hK.out _ _ rfl (Below.refl _ _)
    refine Jo.jcons (i := 6) (o := ⟨some 59, _, _, _, _, _⟩) (di := some 59) (L := [(some 57, 4)]) (f := Jo.Fact.eq (.bool b3)) rfl rfl rfl rfl (fun vs wj hJ hd K hK => ?_) ?_
    · have d4 : (Jo.Fact.eq (.bool false)).P (vs 4) wj := hd 4 (by decide)
      clear hd
      simp only [Jo.putl, List.foldl_cons, List.foldl_nil, Act.put, List.setIfInBounds_toArray, List.set_cons_zero, List.set_cons_succ] at hK ⊢
      generalize vs 4 = u4 at hK d4 ⊢
      replace d4 : u4 = _ := d4
      subst d4
      go_simp
      exact hK.out _ _ rfl (Below.refl _ _)
    refine Jo.jcons (i := 7) (o := ⟨some 60, _, _, _, _, _⟩) (di := some 60) (L := [(some 57, 4), (some 58, 5), (some 59, 6)]) (f := Jo.Fact.num r1) rfl rfl rfl rfl (fun vs wj hJ hd K hK => ?_) ?_
    · have d4 : (Jo.Fact.eq (.bool false)).P (vs 4) wj := hd 4 (by decide)
      have d5 : (Jo.Fact.eq (.agg #[.bool s1, .slice a1 len1 cap1, .int .i64 e1])).P (vs 5) wj := hd 5 (by decide)
      have d6 : (Jo.Fact.eq (.bool b3)).P (vs 6) wj := hd 6 (by decide)
      clear hd
      simp only [Jo.putl, List.foldl_cons, List.foldl_nil, Act.put, List.setIfInBounds_toArray, List.set_cons_zero, List.set_cons_succ] at hK ⊢
      generalize vs 4 = u4 at hK d4 ⊢
      generalize vs 5 = u5 at hK d5 ⊢
      generalize vs 6 = u6 at hK d6 ⊢
      replace d4 : u4 = _ := d4
      subst d4
      replace d5 : u5 = _ := d5
      subst d5
      replace d6 : u6 = _ := d6
      subst d6
      go_simp
      refine (nRound (hT.below hJ) (h1.below hJ) (by omega) rfl rfl HR1.out).mono ?_
      rintro ee wk ⟨K5, s5, M5, E5, rfl, q5, B⟩
      exact hK.out _ _ ⟨K5, s5, M5, E5, rfl, q5⟩ B
    refine Jo.jcons (i := 8) (o := ⟨some 61, _, _, _, _, _⟩) (di := some 61) (L := [(some 57, 4)]) (f := Jo.Fact.eq (.agg #[.bool s2, .slice a2 len2 cap2, .int .i64 e2])) rfl rfl rfl rfl (fun vs wj hJ hd K hK => ?_) ?_
    · have d4 : (Jo.Fact.eq (.bool false)).P (vs 4) wj := hd 4 (by decide)
      clear hd
      simp only [Jo.putl, List.foldl_cons, List.foldl_nil, Act.put, List.setIfInBounds_toArray, List.set_cons_zero, List.set_cons_succ] at hK ⊢
      generalize vs 4 = u4 at hK d4 ⊢
      replace d4 : u4 = _ := d4
      subst d4
      have xX20 : World.cell? wj ⟨w.heap.size + 1 + 1, 0, none⟩ = some (.bool s2) := (X2.below hJ).cell 0
      have xX21 : World.cell? wj ⟨w.heap.size + 1 + 1, 1, none⟩ = some (.slice a2 len2 cap2) := (X2.below hJ).cell 1
      have xX22 : World.cell? wj ⟨w.heap.size + 1 + 1, 2, none⟩ = some (.int .i64 e2) := (X2.below hJ).cell 2
      go_simp
      exact hK.out _ _ rfl (Below.refl _ _)
    refine Jo.jcons (i := 9) (o := ⟨some 62, _, _, _, _, _⟩) (di := some 62) (L := [(some 57, 4)]) (f := Jo.Fact.eq (.bool b3)) rfl rfl rfl rfl (fun vs wj hJ hd K hK => ?_) ?_
    · have d4 : (Jo.Fact.eq (.bool false)).P (vs 4) wj := hd 4 (by decide)
      clear hd
      simp only [Jo.putl, List.foldl_cons, List.foldl_nil, Act.put, List.setIfInBounds_toArray, List.set_cons_zero, List.set_cons_succ] at hK ⊢
      generalize vs 4 = u4 at hK d4 ⊢
      replace d4 : u4 = _ := d4
      subst d4
      go_simp
      exact hK.out _ _ rfl (Below.refl _ _)
    refine Jo.jcons (i := 10) (o := ⟨some 63, _, _, _, _, _⟩) (di := some 63) (L := [(some 57, 4), (some 61, 8), (some 62, 9)]) (f := Jo.Fact.num r2) rfl rfl rfl rfl (fun vs wj hJ hd K hK => ?_) ?_
    · have d4 : (Jo.Fact.eq (.bool false)).P (vs 4) wj := hd 4 (by decide)
      have d8 : (Jo.Fact.eq (.agg #[.bool s2, .slice a2 len2 cap2, .int .i64 e2])).P (vs 8) wj := hd 8 (by decide)
      have d9 : (Jo.Fact.eq (.bool b3)).P (vs 9) wj := hd 9 (by decide)
      clear hd
      simp only [Jo.putl, List.foldl_cons, List.foldl_nil, Act.put, List.setIfInBounds_toArray, List.set_cons_zero, List.set_cons_succ] at hK ⊢
      generalize vs 4 = u4 at hK d4 ⊢
      generalize vs 8 = u8 at hK d8 ⊢
      generalize vs 9 = u9 at hK d9 ⊢
      replace d4 : u4 = _ := d4
      subst d4
      replace d8 : u8 = _ := d8
      subst d8
      replace d9 : u9 = _ := d9
      subst d9
      go_simp
      refine (nRound (hT.below hJ) (h2.below hJ) (by omega) rfl rfl HR2.out).mono ?_
      rintro ee wk ⟨K6, s6, M6, E6, rfl, q6, B⟩
      exact hK.out _ _ ⟨K6, s6, M6, E6, rfl, q6⟩ B
    refine Jo.jcons (i := 11) (o := ⟨some 64, _, _, _, _, _⟩) (di := some 64) (L := [(some 57, 4), (some 60, 7), (some 63, 10)]) (f := Jo.Fact.eq (.int .i64 c2)) rfl rfl rfl rfl (fun vs wj hJ hd K hK => ?_) ?_
    · have d4 : (Jo.Fact.eq (.bool false)).P (vs 4) wj := hd 4 (by decide)
      have d7 : (Jo.Fact.num r1).P (vs 7) wj := hd 7 (by decide)
      have d10 : (Jo.Fact.num r2).P (vs 10) wj := hd 10 (by decide)
      clear hd
      simp only [Jo.putl, List.foldl_cons, List.foldl_nil, Act.put, List.setIfInBounds_toArray, List.set_cons_zero, List.set_cons_succ] at hK ⊢
      generalize vs 4 = u4 at hK d4 ⊢
      generalize vs 7 = u7 at hK d7 ⊢
      generalize vs 10 = u10 at hK d10 ⊢
      replace d4 : u4 = _ := d4
      subst d4
      obtain ⟨K5, s5, M5, E5, rfl, q5⟩ := d7
      obtain ⟨K6, s6, M6, E6, rfl, q6⟩ := d10
      go_simp
      refine (nCmp (z := c2) q5.top q6.top (by rw [q5.rk, q6.rk]; exact HCC.out)).mono ?_
      rintro ee wk ⟨rfl, B⟩
      exact hK.out _ _ rfl B
    refine Jo.jcons (i := 12) (o := ⟨some 65, _, _, _, _, _⟩) (di := some 65) (L := [(some 57, 4), (some 64, 11)]) (f := Jo.Fact.eq (.bool true)) rfl rfl rfl rfl (fun vs wj hJ hd K hK => ?_) ?_
    · have d4 : (Jo.Fact.eq (.bool false)).P (vs 4) wj := hd 4 (by decide)
      have d11 : (Jo.Fact.eq (.int .i64 c2)).P (vs 11) wj := hd 11 (by decide)
      clear hd
      simp only [Jo.putl, List.foldl_cons, List.foldl_nil, Act.put, List.setIfInBounds_toArray, List.set_cons_zero, List.set_cons_succ] at hK ⊢
      generalize vs 4 = u4 at hK d4 ⊢
      generalize vs 11 = u11 at hK d11 ⊢
      replace d4 : u4 = _ := d4
      subst d4
      replace d11 : u11 = _ := d11
      subst d11
      have ht := HC3.out
      go_simp
      exact hK.out _ _ (by first | rfl | (show Value.bool _ = Value.bool _; simp only [ht])) (Below.refl _ _)
    refine Jo.jcons (i := 13) (o := ⟨some 66, _, _, _, _, _⟩) (di := some 66) (L := [(some 57, 4), (some 65, 12)]) (f := Jo.Fact.eq (.bool true)) rfl rfl rfl rfl (fun vs wj hJ hd K hK => ?_) ?_
    · have d4 : (Jo.Fact.eq (.bool false)).P (vs 4) wj := hd 4 (by decide)
      have d12 : (Jo.Fact.eq (.bool true)).P (vs 12) wj := hd 12 (by decide)
      clear hd
      simp only [Jo.putl, List.foldl_cons, List.foldl_nil, Act.put, List.setIfInBounds_toArray, List.set_cons_zero, List.set_cons_succ] at hK ⊢
      generalize vs 4 = u4 at hK d4 ⊢
      generalize vs 12 = u12 at hK d12 ⊢
      replace d4 : u4 = _ := d4
      subst d4
      replace d12 : u12 = _ := d12
      subst d12
      go_simp
      exact hK.out _ _ rfl (Below.refl _ _)
    refine Jo.jcons (i := 14) (o := ⟨some 8, _, _, _, _, _⟩) (di := some 8) (L := [(some 66, 13)]) (f := Jo.Fact.eq (.bool true)) rfl rfl rfl rfl (fun vs wj hJ hd K hK => ?_) ?_
    · have d13 : (Jo.Fact.eq (.bool true)).P (vs 13) wj := hd 13 (by decide)
      clear hd
      simp only [Jo.putl, List.foldl_cons, List.foldl_nil, Act.put, List.setIfInBounds_toArray, List.set_cons_zero, List.set_cons_succ] at hK ⊢
      generalize vs 13 = u13 at hK d13 ⊢
      replace d13 : u13 = _ := d13
      subst d13
      go_simp
      exact hK.out _ _ rfl (Below.refl _ _)
    exact Jo.Steps.nil
  have d0 : (Jo.Fact.eq (.agg #[.bool s1, .slice a1 len1 cap1, .int .i64 e1])).P (vs 0) w8 := hd 0 (by decide)
  have d1 : (Jo.Fact.eq (.agg #[.bool s2, .slice a2 len2 cap2, .int .i64 e2])).P (vs 1) w8 := hd 1 (by decide)
  have d2 : (Jo.Fact.eq (.int .i64 c)).P (vs 2) w8 := hd 2 (by decide)
  have d3 : (Jo.Fact.eq (.bool false)).P (vs 3) w8 := hd 3 (by decide)
  have d4 : (Jo.Fact.eq (.bool false)).P (vs 4) w8 := hd 4 (by decide)
  have d5 : (Jo.Fact.eq (.agg #[.bool s1, .slice a1 len1 cap1, .int .i64 e1])).P (vs 5) w8 := hd 5 (by decide)
  have d6 : (Jo.Fact.eq (.bool b3)).P (vs 6) w8 := hd 6 (by decide)
  have d7 : (Jo.Fact.num r1).P (vs 7) w8 := hd 7 (by decide)
  have d8 : (Jo.Fact.eq (.agg #[.bool s2, .slice a2 len2 cap2, .int .i64 e2])).P (vs 8) w8 := hd 8 (by decide)
  have d9 : (Jo.Fact.eq (.bool b3)).P (vs 9) w8 := hd 9 (by decide)
  have d10 : (Jo.Fact.num r2).P (vs 10) w8 := hd 10 (by decide)
  have d11 : (Jo.Fact.eq (.int .i64 c2)).P (vs 11) w8 := hd 11 (by decide)
  have d12 : (Jo.Fact.eq (.bool true)).P (vs 12) w8 := hd 12 (by decide)
  have d13 : (Jo.Fact.eq (.bool true)).P (vs 13) w8 := hd 13 (by decide)
  have d14 : (Jo.Fact.eq (.bool true)).P (vs 14) w8 := hd 14 (by decide)
  clear hd
  simp only [Jo.putl, List.foldl_cons, List.foldl_nil, Act.put, List.setIfInBounds_toArray, List.set_cons_zero, List.set_cons_succ]
  generalize vs 0 = u0 at d0 ⊢
  generalize vs 1 = u1 at d1 ⊢
  generalize vs 2 = u2 at d2 ⊢
  generalize vs 3 = u3 at d3 ⊢
  generalize vs 4 = u4 at d4 ⊢
  generalize vs 5 = u5 at d5 ⊢
  generalize vs 6 = u6 at d6 ⊢
  generalize vs 7 = u7 at d7 ⊢
  generalize vs 8 = u8 at d8 ⊢
  generalize vs 9 = u9 at d9 ⊢
  generalize vs 10 = u10 at d10 ⊢
  generalize vs 11 = u11 at d11 ⊢
  generalize vs 12 = u12 at d12 ⊢
  generalize vs 13 = u13 at d13 ⊢
  generalize vs 14 = u14 at d14 ⊢
  clear vs
  replace d0 : u0 = _ := d0
  subst d0
  replace d1 : u1 = _ := d1
  subst d1
  replace d2 : u2 = _ := d2
  subst d2
  replace d3 : u3 = _ := d3
  subst d3
  replace d4 : u4 = _ := d4
  subst d4
  replace d5 : u5 = _ := d5
  subst d5
  replace d6 : u6 = _ := d6
  subst d6
  obtain ⟨K5, s5, M5, E5, rfl, _⟩ := d7
  replace d8 : u8 = _ := d8
  subst d8
  replace d9 : u9 = _ := d9
  subst d9
  obtain ⟨K6, s6, M6, E6, rfl, _⟩ := d10
  replace d11 : u11 = _ := d11
  subst d11
  replace d12 : u12 = _ := d12
  subst d12
  replace d13 : u13 = _ := d13
  subst d13
  replace d14 : u14 = _ := d14
  subst d14
  replace X0 := X0.below hJ
  replace X1 := X1.below hJ
  replace X2 := X2.below hJ
  replace X12 := X12.below hJ
  replace hT := hT.below hJ
  replace h1 := h1.below hJ
  replace h2 := h2.below hJ
  replace pa := pa.below hJ
  replace HB := Lib.hid (bt HB.out hJ)
  refine Jo.jdone (by kernel_rfl) ?_
  go_wp2
  go_ret
  exact ⟨rfl, HB.out⟩
set_option maxHeartbeats 8000000 in
theorem numBack_main_ng (D0 : Int) (s0 : Bool) (M0 E0 : Int) (s1 : Bool) (a1 : Option Addr) (len1 cap1 : Nat) (e1 : Int) (s2 : Bool) (a2 : Option Addr) (len2 cap2 : Nat) (e2 : Int) (b3 : Bool) (w : World) (y z c : Int) (hT : Tab w) (hM0 : 0 ≤ M0) (hM : M0 < 18446744073709551616) (h1 : Wr w s1 a1 len1 cap1 y) (h2 : Wr w s2 a2 len2 cap2 z) (hp : fewB len1 e1 = true) (hq : fewB len2 e2 = true) (g1 : -1000 ≤ E0) (g2 : E0 ≤ 1000)
    (hx : exb D0 s0 M0 E0 = false) (hc : cmpI (vl (mk y e1)) (vl (mk z e2)) = c) (hc2 : c = 1) :
    Calls Tryd.prog 7 #[.agg #[.int .i64 D0, .bool s0, .int .u64 M0, .int .i64 E0], .agg #[.bool s1, .slice a1 len1 cap1, .int .i64 e1], .agg #[.bool s2, .slice a2 len2 cap2, .int .i64 e2], .bool b3] w (PB w true) := by
  obtain ⟨hn1, _, _⟩ := fewB_true hp
  obtain ⟨hn2, _, _⟩ := fewB_true hq
  have HP := Lib.hid hp
  have HQ := Lib.hid hq
  have HX := Lib.hid hx
  subst hc2
  have HC := Lib.hid hc
  obtain ⟨N1, hN1⟩ : ∃ N, (exq D0 s0 M0 E0).1 = N := ⟨_, rfl⟩
  obtain ⟨F1, hF1⟩ : ∃ N, (exq D0 s0 M0 E0).2 = N := ⟨_, rfl⟩
  have HN1 := Lib.hid hN1
  have HF1 := Lib.hid hF1
  clear hp hq hx hc hN1 hF1
  go_enter Tryd.func7, Tryd.ntmps7
  go_upto_region 1 with (fail)
  have X0 := (Bo.newAt w (g := w.heap.size) (by simp) #[.int .i64 D0, .bool s0, .int .u64 M0, .int .i64 E0] 30).below (bel2 _ (.cells #[.bool s1, .slice a1 len1 cap1, .int .i64 e1] 26) (.cells #[.bool s2, .slice a2 len2 cap2, .int .i64 e2] 26))
  have X1 := (Bo.newAt (w.alloc (.cells #[.int .i64 D0, .bool s0, .int .u64 M0, .int .i64 E0] 30)) (g := w.heap.size + 1) (by simp) #[.bool s1, .slice a1 len1 cap1, .int .i64 e1] 26).below (bel1 _ (.cells #[.bool s2, .slice a2 len2 cap2, .int .i64 e2] 26))
  have X2 := (Bo.newAt ((w.alloc (.cells #[.int .i64 D0, .bool s0, .int .u64 M0, .int .i64 E0] 30)).alloc (.cells #[.bool s1, .slice a1 len1 cap1, .int .i64 e1] 26)) (g := w.heap.size + 1 + 1) (by simp) #[.bool s2, .slice a2 len2 cap2, .int .i64 e2] 26)
  have HB := Lib.hid (bel3 w (.cells #[.int .i64 D0, .bool s0, .int .u64 M0, .int .i64 E0] 30) (.cells #[.bool s1, .slice a1 len1 cap1, .int .i64 e1] 26) (.cells #[.bool s2, .slice a2 len2 cap2, .int .i64 e2] 26))
  replace hT := hT.below HB.out
  replace h1 := h1.below HB.out
  replace h2 := h2.below HB.out
  generalize hW1 : (((w.alloc (.cells #[.int .i64 D0, .bool s0, .int .u64 M0, .int .i64 E0] 30)).alloc (.cells #[.bool s1, .slice a1 len1 cap1, .int .i64 e1] 26)).alloc (.cells #[.bool s2, .slice a2 len2 cap2, .int .i64 e2] 26)) = w1 at *
  clear hW1
  go_wp2_with fail
  refine (awake5 _ hT).mono ?_
  rintro ee w2 ⟨rfl, B⟩
  replace X0 := X0.below B
  replace X1 := X1.below B
  replace X2 := X2.below B
  replace hT := hT.below B
  replace h1 := h1.below B
  replace h2 := h2.below B
  replace HB := Lib.hid (bt HB.out B)
  clear B
  have xX10 := X1.at (i := 0) (v := .bool s1) rfl
  have xX11 := X1.at (i := 1) (v := .slice a1 len1 cap1) rfl
  have xX12 := X1.at (i := 2) (v := .int .i64 e1) rfl
  go_wp2_with fail
  refine (few3E _ HP.out).mono ?_
  rintro ee w3 ⟨rfl, B⟩
  clear xX10 xX11 xX12
  replace X0 := X0.below B
  replace X1 := X1.below B
  replace X2 := X2.below B
  replace hT := hT.below B
  replace h1 := h1.below B
  replace h2 := h2.below B
  replace HB := Lib.hid (bt HB.out B)
  clear B
  have xX20 := X2.at (i := 0) (v := .bool s2) rfl
  have xX21 := X2.at (i := 1) (v := .slice a2 len2 cap2) rfl
  have xX22 := X2.at (i := 2) (v := .int .i64 e2) rfl
  go_wp2_with fail
  refine (few3E _ HQ.out).mono ?_
  rintro ee w4 ⟨rfl, B⟩
  clear xX20 xX21 xX22
  replace X0 := X0.below B
  replace X1 := X1.below B
  replace X2 := X2.below B
  replace hT := hT.below B
  replace h1 := h1.below B
  replace h2 := h2.below B
  replace HB := Lib.hid (bt HB.out B)
  clear B
  have xX00 := X0.at (i := 0) (v := .int .i64 D0) rfl
  have xX01 := X0.at (i := 1) (v := .bool s0) rfl
  have xX02 := X0.at (i := 2) (v := .int .u64 M0) rfl
  have xX03 := X0.at (i := 3) (v := .int .i64 E0) rfl
  go_wp2_with fail
  refine (nExact hT hM0 hM HX.out HN1.out HF1.out).mono ?_
  rintro ee w5 ⟨sa, Aa, na, ca, rfl, pa, ka, B⟩
  clear xX00 xX01 xX02 xX03
  replace X0 := X0.below B
  replace X1 := X1.below B
  replace X2 := X2.below B
  replace hT := hT.below B
  replace h1 := h1.below B
  replace h2 := h2.below B
  replace HB := Lib.hid (bt HB.out B)
  clear B
  go_upto_region 7 with (fail)
  have lX12 := Nat.le_refl (World.heap w5).size
  have nX12X0 := X0.lt
  have nX12X1 := X1.lt
  have nX12X2 := X2.lt
  replace X0 := X0.below (bel1 _ (.cells #[.bool sa, .slice Aa na ca, .int .i64 F1] 26))
  replace X1 := X1.below (bel1 _ (.cells #[.bool sa, .slice Aa na ca, .int .i64 F1] 26))
  replace X2 := X2.below (bel1 _ (.cells #[.bool sa, .slice Aa na ca, .int .i64 F1] 26))
  replace hT := hT.below (bel1 _ (.cells #[.bool sa, .slice Aa na ca, .int .i64 F1] 26))
  replace h1 := h1.below (bel1 _ (.cells #[.bool sa, .slice Aa na ca, .int .i64 F1] 26))
  replace h2 := h2.below (bel1 _ (.cells #[.bool sa, .slice Aa na ca, .int .i64 F1] 26))
  replace pa := pa.below (bel1 _ (.cells #[.bool sa, .slice Aa na ca, .int .i64 F1] 26))
  replace HB := Lib.hid (bt HB.out (bel1 _ (.cells #[.bool sa, .slice Aa na ca, .int .i64 F1] 26)))
  have X12 := Bo.new w5 #[.bool sa, .slice Aa na ca, .int .i64 F1] 26
  generalize hWn : World.alloc w5 (.cells #[.bool sa, .slice Aa na ca, .int .i64 F1] 26) = w6 at *
  clear hWn
  clear lX12
  refine Jo.region_joint (T := [0, 1, 2, 3, 4, 5, 6, 7]) (ds := [some 45, some 46, some 47, some 48, some 49, some 50, some 51, some 52]) (ls := [[], [0], [1], [1], [1, 2, 3], [1], [1, 4, 5], [1, 6]]) (k := 8) (L := [(some 45, 0), (some 46, 1), (some 47, 2), (some 48, 3), (some 49, 4), (some 50, 5), (some 51, 6), (some 52, 7)]) (fuel := 0) (J := fun wj => Below (World.heap w6).size w6 wj)
    (F := [Jo.Fact.eq (.bool false), Jo.Fact.eq (.bool false), Jo.Fact.eq undef, Jo.Fact.eq undef, Jo.Fact.eq undef, Jo.Fact.eq undef, Jo.Fact.eq undef, Jo.Fact.eq (.bool false)])
    (by kernel_rfl) (by kernel_rfl) (by decide) rfl rfl (fun _ _ h b => bt h b) ((Below.refl _ _).drew) ?_ (fun vs w7 hJ hd => ?_)
  · refine Jo.jcons (i := 0) (o := ⟨some 45, _, _, _, _, _⟩) (di := some 45) (L := []) (f := Jo.Fact.eq (.bool false)) rfl rfl rfl rfl (fun vs wj hJ hd K hK => ?_) ?_
    · clear hd
      simp only [Jo.putl, List.foldl_nil, Act.put, List.setIfInBounds_toArray, List.set_cons_zero, List.set_cons_succ] at hK ⊢
      go_simp
      exact hK.out _ _ rfl (Below.refl _ _)
    refine Jo.jcons (i := 1) (o := ⟨some 46, _, _, _, _, _⟩) (di := some 46) (L := [(some 45, 0)]) (f := Jo.Fact.eq (.bool false)) rfl rfl rfl rfl (fun vs wj hJ hd K hK => ?_) ?_
    · have d0 : (Jo.Fact.eq (.bool false)).P (vs 0) wj := hd 0 (by decide)
      clear hd
      simp only [Jo.putl, List.foldl_cons, List.foldl_nil, Act.put, List.setIfInBounds_toArray, List.set_cons_zero, List.set_cons_succ] at hK ⊢
      generalize vs 0 = u0 at hK d0 ⊢
      replace d0 : u0 = _ := d0
      subst d0
      go_simp
      exact hK.out _ _ rfl (Below.refl _ _)
    refine Jo.jcons (i := 2) (o := ⟨some 47, _, _, _, _, _⟩) (di := some 47) (L := [(some 46, 1)]) (f := Jo.Fact.eq undef) rfl rfl rfl rfl (fun vs wj hJ hd K hK => ?_) ?_
    · have d1 : (Jo.Fact.eq (.bool false)).P (vs 1) wj := hd 1 (by decide)
      clear hd
      simp only [Jo.putl, List.foldl_cons, List.foldl_nil, Act.put, List.setIfInBounds_toArray, List.set_cons_zero, List.set_cons_succ] at hK ⊢
      generalize vs 1 = u1 at hK d1 ⊢
      replace d1 : u1 = _ := d1
      subst d1
      go_simp
      exact hK.out _ _ rfl (Below.refl _ _)
    refine Jo.jcons (i := 3) (o := ⟨some 48, _, _, _, _, _⟩) (di := some 48) (L := [(some 46, 1)]) (f := Jo.Fact.eq undef) rfl rfl rfl rfl (fun vs wj hJ hd K hK => ?_) ?_
    · have d1 : (Jo.Fact.eq (.bool false)).P (vs 1) wj := hd 1 (by decide)
      clear hd
      simp only [Jo.putl, List.foldl_cons, List.foldl_nil, Act.put, List.setIfInBounds_toArray, List.set_cons_zero, List.set_cons_succ] at hK ⊢
      generalize vs 1 = u1 at hK d1 ⊢
      replace d1 : u1 = _ := d1
      subst d1
      go_simp
      exact hK.out _ _ rfl (Below.refl _ _)
    refine Jo.jcons (i := 4) (o := ⟨some 49, _, _, _, _, _⟩) (di := some 49) (L := [(some 46, 1), (some 47, 2), (some 48, 3)]) (f := Jo.Fact.eq undef) rfl rfl rfl rfl (fun vs wj hJ hd K hK => ?_) ?_
    · have d1 : (Jo.Fact.eq (.bool false)).P (vs 1) wj := hd 1 (by decide)
      have d2 : (Jo.Fact.eq undef).P (vs 2) wj := hd 2 (by decide)
      have d3 : (Jo.Fact.eq undef).P (vs 3) wj := hd 3 (by decide)
      clear hd
      simp only [Jo.putl, List.foldl_cons, List.foldl_nil, Act.put, List.setIfInBounds_toArray, List.set_cons_zero, List.set_cons_succ] at hK ⊢
      generalize vs 1 = u1 at hK d1 ⊢
      generalize vs 2 = u2 at hK d2 ⊢
      generalize vs 3 = u3 at hK d3 ⊢
      replace d1 : u1 = _ := d1
      subst d1
      replace d2 : u2 = _ := d2
      subst d2
      replace d3 : u3 = _ := d3
      subst d3
      go_simp
      exact hK.out _ _ rfl (Below.refl _ _)
    refine Jo.jcons (i := 5) (o := ⟨some 50, _, _, _, _, _⟩) (di := some 50) (L := [(some 46, 1)]) (f := Jo.Fact.eq undef) rfl rfl rfl rfl (fun vs wj hJ hd K hK => ?_) ?_
    · have d1 : (Jo.Fact.eq (.bool false)).P (vs 1) wj := hd 1 (by decide)
      clear hd
      simp only [Jo.putl, List.foldl_cons, List.foldl_nil, Act.put, List.setIfInBounds_toArray, List.set_cons_zero, List.set_cons_succ] at hK ⊢
      generalize vs 1 = u1 at hK d1 ⊢
      replace d1 : u1 = _ := d1
      subst d1
      go_simp
      exact hK.out _ _ rfl (Below.refl _ _)
    refine Jo.jcons (i := 6) (o := ⟨some 51, _, _, _, _, _⟩) (di := some 51) (L := [(some 46, 1), (some 49, 4), (some 50, 5)]) (f := Jo.Fact.eq undef) rfl rfl rfl rfl (fun vs wj hJ hd K hK => ?_) ?_
    · have d1 : (Jo.Fact.eq (.bool false)).P (vs 1) wj := hd 1 (by decide)
      have d4 : (Jo.Fact.eq undef).P (vs 4) wj := hd 4 (by decide)
      have d5 : (Jo.Fact.eq undef).P (vs 5) wj := hd 5 (by decide)
      clear hd
      simp only [Jo.putl, List.foldl_cons, List.foldl_nil, Act.put, List.setIfInBounds_toArray, List.set_cons_zero, List.set_cons_succ] at hK ⊢
      generalize vs 1 = u1 at hK d1 ⊢
      generalize vs 4 = u4 at hK d4 ⊢
      generalize vs 5 = u5 at hK d5 ⊢
      replace d1 : u1 = _ := d1
      subst d1
      replace d4 : u4 = _ := d4
      subst d4
      replace d5 : u5 = _ := d5
      subst d5
      go_simp
      exact hK.out _ _ rfl (Below.refl _ _)
    refine Jo.jcons (i := 7) (o := ⟨some 52, _, _, _, _, _⟩) (di := some 52) (L := [(some 46, 1), (some 51, 6)]) (f := Jo.Fact.eq (.bool false)) rfl rfl rfl rfl (fun vs wj hJ hd K hK => ?_) ?_
    · have d1 : (Jo.Fact.eq (.bool false)).P (vs 1) wj := hd 1 (by decide)
      have d6 : (Jo.Fact.eq undef).P (vs 6) wj := hd 6 (by decide)
      clear hd
      simp only [Jo.putl, List.foldl_cons, List.foldl_nil, Act.put, List.setIfInBounds_toArray, List.set_cons_zero, List.set_cons_succ] at hK ⊢
      generalize vs 1 = u1 at hK d1 ⊢
      generalize vs 6 = u6 at hK d6 ⊢
      replace d1 : u1 = _ := d1
      subst d1
      replace d6 : u6 = _ := d6
      subst d6
      go_simp
      exact hK.out _ _ rfl (Below.refl _ _)
    exact Jo.Steps.nil
  have d0 : (Jo.Fact.eq (.bool false)).P (vs 0) w7 := hd 0 (by decide)
  have d1 : (Jo.Fact.eq (.bool false)).P (vs 1) w7 := hd 1 (by decide)
  have d2 : (Jo.Fact.eq undef).P (vs 2) w7 := hd 2 (by decide)
  have d3 : (Jo.Fact.eq undef).P (vs 3) w7 := hd 3 (by decide)
  have d4 : (Jo.Fact.eq undef).P (vs 4) w7 := hd 4 (by decide)
  have d5 : (Jo.Fact.eq undef).P (vs 5) w7 := hd 5 (by decide)
  have d6 : (Jo.Fact.eq undef).P (vs 6) w7 := hd 6 (by decide)
  have d7 : (Jo.Fact.eq (.bool false)).P (vs 7) w7 := hd 7 (by decide)
  clear hd
  simp only [Jo.putl, List.foldl_cons, List.foldl_nil, Act.put, List.setIfInBounds_toArray, List.set_cons_zero, List.set_cons_succ]
  generalize vs 0 = u0 at d0 ⊢
  generalize vs 1 = u1 at d1 ⊢
  generalize vs 2 = u2 at d2 ⊢
  generalize vs 3 = u3 at d3 ⊢
  generalize vs 4 = u4 at d4 ⊢
  generalize vs 5 = u5 at d5 ⊢
  generalize vs 6 = u6 at d6 ⊢
  generalize vs 7 = u7 at d7 ⊢
  clear vs
  replace d0 : u0 = _ := d0
  subst d0
  replace d1 : u1 = _ := d1
  subst d1
  replace d2 : u2 = _ := d2
  subst d2
  replace d3 : u3 = _ := d3
  subst d3
  replace d4 : u4 = _ := d4
  subst d4
  replace d5 : u5 = _ := d5
  subst d5
  replace d6 : u6 = _ := d6
  subst d6
  replace d7 : u7 = _ := d7
  subst d7
  replace X0 := X0.below hJ
  replace X1 := X1.below hJ
  replace X2 := X2.below hJ
  replace X12 := X12.below hJ
  replace hT := hT.below hJ
  replace h1 := h1.below hJ
  replace h2 := h2.below hJ
  replace pa := pa.below hJ
  replace HB := Lib.hid (bt HB.out hJ)
  refine Jo.jdone (by kernel_rfl) ?_
  go_upto_region 9 with (fail)
  refine Jo.region_joint (T := [0, 1, 2, 3, 4, 5, 6, 7, 8, 9, 10, 11, 12, 13, 14]) (ds := [some 53, some 54, some 55, some 56, some 57, some 58, some 59, some 60, some 61, some 62, some 63, some 64, some 65, some 66, some 8]) (ls := [[], [], [0, 1], [2], [3], [4], [4], [4, 5, 6], [4], [4], [4, 8, 9], [4, 7, 10], [4, 11], [4, 12], [13]]) (k := 15) (L := [(some 53, 0), (some 54, 1), (some 55, 2), (some 56, 3), (some 57, 4), (some 58, 5), (some 59, 6), (some 60, 7), (some 61, 8), (some 62, 9), (some 63, 10), (some 64, 11), (some 65, 12), (some 66, 13), (some 8, 14)]) (fuel := 0) (J := fun wj => Below (World.heap w7).size w7 wj)
    (F := [Jo.Fact.eq (.agg #[.bool s1, .slice a1 len1 cap1, .int .i64 e1]), Jo.Fact.eq (.agg #[.bool s2, .slice a2 len2 cap2, .int .i64 e2]), Jo.Fact.eq (.int .i64 1), Jo.Fact.eq (.bool true), Jo.Fact.eq (.bool true), Jo.Fact.eq undef, Jo.Fact.eq undef, Jo.Fact.eq undef, Jo.Fact.eq undef, Jo.Fact.eq undef, Jo.Fact.eq undef, Jo.Fact.eq undef, Jo.Fact.eq undef, Jo.Fact.eq (.bool true), Jo.Fact.eq (.bool true)])
    (by kernel_rfl) (by kernel_rfl) (by decide) rfl rfl (fun _ _ h b => bt h b) ((Below.refl _ _).drew) ?_ (fun vs w8 hJ hd => ?_)
  · refine Jo.jcons (i := 0) (o := ⟨some 53, _, _, _, _, _⟩) (di := some 53) (L := []) (f := Jo.Fact.eq (.agg #[.bool s1, .slice a1 len1 cap1, .int .i64 e1])) rfl rfl rfl rfl (fun vs wj hJ hd K hK => ?_) ?_
    · clear hd
      simp only [Jo.putl, List.foldl_nil, Act.put, List.setIfInBounds_toArray, List.set_cons_zero, List.set_cons_succ] at hK ⊢
      have xX10 : World.cell? wj ⟨w.heap.size + 1, 0, none⟩ = some (.bool s1) := (X1.below hJ).cell 0
      have xX11 : World.cell? wj ⟨w.heap.size + 1, 1, none⟩ = some (.slice a1 len1 cap1) := (X1.below hJ).cell 1
      have xX12 : World.cell? wj ⟨w.heap.size + 1, 2, none⟩ = some (.int .i64 e1) := (X1.below hJ).cell 2
      go_simp
      exact hK.out _ _ rfl (Below.refl _ _)
    refine Jo.jcons (i := 1) (o := ⟨some 54, _, _, _, _, _⟩) (di := some 54) (L := []) (f := Jo.Fact.eq (.agg #[.bool s2, .slice a2 len2 cap2, .int .i64 e2])) rfl rfl rfl rfl (fun vs wj hJ hd K hK => ?_) ?_
    · clear hd
      simp only [Jo.putl, List.foldl_nil, Act.put, List.setIfInBounds_toArray, List.set_cons_zero, List.set_cons_succ] at hK ⊢
      have xX20 : World.cell? wj ⟨w.heap.size + 1 + 1, 0, none⟩ = some (.bool s2) := (X2.below hJ).cell 0
      have xX21 : World.cell? wj ⟨w.heap.size + 1 + 1, 1, none⟩ = some (.slice a2 len2 cap2) := (X2.below hJ).cell 1
      have xX22 : World.cell? wj ⟨w.heap.size + 1 + 1, 2, none⟩ = some (.int .i64 e2) := (X2.below hJ).cell 2
      go_simp
      exact hK.out _ _ rfl (Below.refl _ _)
    refine Jo.jcons (i := 2) (o := ⟨some 55, _, _, _, _, _⟩) (di := some 55) (L := [(some 53, 0), (some 54, 1)]) (f := Jo.Fact.eq (.int .i64 1)) rfl rfl rfl rfl (fun vs wj hJ hd K hK => ?_) ?_
    · have d0 : (Jo.Fact.eq (.agg #[.bool s1, .slice a1 len1 cap1, .int .i64 e1])).P (vs 0) wj := hd 0 (by decide)
      have d1 : (Jo.Fact.eq (.agg #[.bool s2, .slice a2 len2 cap2, .int .i64 e2])).P (vs 1) wj := hd 1 (by decide)
      clear hd
      simp only [Jo.putl, List.foldl_cons, List.foldl_nil, Act.put, List.setIfInBounds_toArray, List.set_cons_zero, List.set_cons_succ] at hK ⊢
      generalize vs 0 = u0 at hK d0 ⊢
      generalize vs 1 = u1 at hK d1 ⊢
      replace d0 : u0 = _ := d0
      subst d0
      replace d1 : u1 = _ := d1
      subst d1
      go_simp
      refine (dCmp (hT.below hJ) (h1.below hJ) (h2.below hJ) (by omega) (by omega) HC.out).mono ?_
      rintro ee wk ⟨rfl, B⟩
      exact hK.out _ _ rfl B
    refine Jo.jcons (i := 3) (o := ⟨some 56, _, _, _, _, _⟩) (di := some 56) (L := [(some 55, 2)]) (f := Jo.Fact.eq (.bool true)) rfl rfl rfl rfl (fun vs wj hJ hd K hK => ?_) ?_
    · have d2 : (Jo.Fact.eq (.int .i64 1)).P (vs 2) wj := hd 2 (by decide)
      clear hd
      simp only [Jo.putl, List.foldl_cons, List.foldl_nil, Act.put, List.setIfInBounds_toArray, List.set_cons_zero, List.set_cons_succ] at hK ⊢
      generalize vs 2 = u2 at hK d2 ⊢
      replace d2 : u2 = _ := d2
      subst d2
      go_simp
      exact hK.out _ _ (by first | rfl | (show Value.bool _ = Value.bool _; simp)) (Below.refl _ _)
    refine Jo.jcons (i := 4) (o := ⟨some 57, _, _, _, _, _⟩) (di := some 57) (L := [(some 56, 3)]) (f := Jo.Fact.eq (.bool true)) rfl rfl rfl rfl (fun vs wj hJ hd K hK => ?_) ?_
    · have d3 : (Jo.Fact.eq (.bool true)).P (vs 3) wj := hd 3 (by decide)
      clear hd
      simp only [Jo.putl, List.foldl_cons, List.foldl_nil, Act.put, List.setIfInBounds_toArray, List.set_cons_zero, List.set_cons_succ] at hK ⊢
      generalize vs 3 = u3 at hK d3 ⊢
      replace d3 : u3 = _ := d3
      subst d3
      go_simp
      exact hK.out _ _ rfl (Below.refl _ _)
    refine Jo.jcons (i := 5) (o := ⟨some 58, _, _, _, _, _⟩) (di := some 58) (L := [(some 57, 4)]) (f := Jo.Fact.eq undef) rfl rfl rfl rfl (fun vs wj hJ hd K hK => ?_) ?_
    · have d4 : (Jo.Fact.eq (.bool true)).P (vs 4) wj := hd 4 (by decide)
      clear hd
      simp only [Jo.putl, List.foldl_cons, List.foldl_nil, Act.put, List.setIfInBounds_toArray, List.set_cons_zero, List.set_cons_succ] at hK ⊢
      generalize vs 4 = u4 at hK d4 ⊢
      replace d4 : u4 = _ := d4
      subst d4
      go_simp
      exact hK.out _ _ rfl (Below.refl _ _)
    refine Jo.jcons (i := 6) (o := ⟨some 59, _, _, _, _, _⟩) (di := some 59) (L := [(some 57, 4)]) (f := Jo.Fact.eq undef) rfl rfl rfl rfl (fun vs wj hJ hd K hK => ?_) ?_
    · have d4 : (Jo.Fact.eq (.bool true)).P (vs 4) wj := hd 4 (by decide)
      clear hd
      simp only [Jo.putl, List.foldl_cons, List.foldl_nil, Act.put, List.setIfInBounds_toArray, List.set_cons_zero, List.set_cons_succ] at hK ⊢
      generalize vs 4 = u4 at hK d4 ⊢
      replace d4 : u4 = _ := d4
      subst d4
      go_simp
      exact hK.out _ _ rfl (Below.refl _ _)
    refine Jo.jcons (i := 7) (o := ⟨some 60, _, _, _, _, _⟩) (di := some 60) (L := [(some 57, 4), (some 58, 5), (some 59, 6)]) (f := Jo.Fact.eq undef) rfl rfl rfl rfl (fun vs wj hJ hd K hK => ?_) ?_
    · have d4 : (Jo.Fact.eq (.bool true)).P (vs 4) wj := hd 4 (by decide)
      have d5 : (Jo.Fact.eq undef).P (vs 5) wj := hd 5 (by decide)
      have d6 : (Jo.Fact.eq undef).P (vs 6) wj := hd 6 (by decide)
      clear hd
      simp only [Jo.putl, List.foldl_cons, List.foldl_nil, Act.put, List.setIfInBounds_toArray, List.set_cons_zero, List.set_cons_succ] at hK ⊢
      generalize vs 4 = u4 at hK d4 ⊢
      generalize vs 5 = u5 at hK d5 ⊢
      generalize vs 6 = u6 at hK d6 ⊢
      replace d4 : u4 = _ := d4
      subst d4
      replace d5 : u5 = _ := d5
      subst d5
      replace d6 : u6 = _ := d6
      subst d6
      go_simp
      exact hK.out _ _ rfl (Below.refl _ _)
    refine Jo.jcons (i := 8) (o := ⟨some 61, _, _, _, _, _⟩) (di := some 61) (L := [(some 57, 4)]) (f := Jo.Fact.eq undef) rfl rfl rfl rfl (fun vs wj hJ hd K hK => ?_) ?_
    · have d4 : (Jo.Fact.eq (.bool true)).P (vs 4) wj := hd 4 (by decide)
      clear hd
      simp only [Jo.putl, List.foldl_cons, List.foldl_nil, Act.put, List.setIfInBounds_toArray, List.set_cons_zero, List.set_cons_succ] at hK ⊢
      generalize vs 4 = u4 at hK d4 ⊢
      replace d4 : u4 = _ := d4
      subst d4
      go_simp
      exact hK.out _ _ rfl (Below.refl _ _)
    refine Jo.jcons (i := 9) (o := ⟨some 62, _, _, _, _, _⟩) (di := some 62) (L := [(some 57, 4)]) (f := Jo.Fact.eq undef) rfl rfl rfl rfl (fun vs wj hJ hd K hK => ?_) ?_
    · have d4 : (Jo.Fact.eq (.bool true)).P (vs 4) wj := hd 4 (by decide)
      clear hd
      simp only [Jo.putl, List.foldl_cons, List.foldl_nil, Act.put, List.setIfInBounds_toArray, List.set_cons_zero, List.set_cons_succ] at hK ⊢
      generalize vs 4 = u4 at hK d4 ⊢
      replace d4 : u4 = _ := d4
      subst d4
      go_simp
      exact hK.out _ _ rfl (Below.refl _ _)
    refine Jo.jcons (i := 10) (o := ⟨some 63, _, _, _, _, _⟩) (di := some 63) (L := [(some 57, 4), (some 61, 8), (some 62, 9)]) (f := Jo.Fact.eq undef) rfl rfl rfl rfl (fun vs wj hJ hd K hK => ?_) ?_
    · have d4 : (Jo.Fact.eq (.bool true)).P (vs 4) wj := hd 4 (by decide)
      have d8 : (Jo.Fact.eq undef).P (vs 8) wj := hd 8 (by decide)
      have d9 : (Jo.Fact.eq undef).P (vs 9) wj := hd 9 (by decide)
      clear hd
      simp only [Jo.putl, List.foldl_cons, List.foldl_nil, Act.put, List.setIfInBounds_toArray, List.set_cons_zero, List.set_cons_succ] at hK ⊢
      generalize vs 4 = u4 at hK d4 ⊢
      generalize vs 8 = u8 at hK d8 ⊢
      generalize vs 9 = u9 at hK d9 ⊢
      replace d4 : u4 = _ := d4
      subst d4
      replace d8 : u8 = _ := d8
      subst d8
      replace d9 : u9 = _ := d9
      subst d9
      go_simp
      exact hK.out _ _ rfl (Below.refl _ _)
    refine Jo.jcons (i := 11) (o := ⟨some 64, _, _, _, _, _⟩) (di := some 64) (L := [(some 57, 4), (some 60, 7), (some 63, 10)]) (f := Jo.Fact.eq undef) rfl rfl rfl rfl (fun vs wj hJ hd K hK => ?_) ?_
    · have d4 : (Jo.Fact.eq (.bool true)).P (vs 4) wj := hd 4 (by decide)
      have d7 : (Jo.Fact.eq undef).P (vs 7) wj := hd 7 (by decide)
      have d10 : (Jo.Fact.eq undef).P (vs 10) wj := hd 10 (by decide)
      clear hd
      simp only [Jo.putl, List.foldl_cons, List.foldl_nil, Act.put, List.setIfInBounds_toArray, List.set_cons_zero, List.set_cons_succ] at hK ⊢
      generalize vs 4 = u4 at hK d4 ⊢
      generalize vs 7 = u7 at hK d7 ⊢
      generalize vs 10 = u10 at hK d10 ⊢
      replace d4 : u4 = _ := d4
      subst d4
      replace d7 : u7 = _ := d7
      subst d7
      replace d10 : u10 = _ := d10
      subst d10
      go_simp
      exact hK.out _ _ rfl (Below.refl _ _)
    refine Jo.jcons (i := 12) (o := ⟨some 65, _, _, _, _, _⟩) (di := some 65) (L := [(some 57, 4), (some 64, 11)]) (f := Jo.Fact.eq undef) rfl rfl rfl rfl (fun vs wj hJ hd K hK => ?_) ?_
    · have d4 : (Jo.Fact.eq (.bool true)).P (vs 4) wj := hd 4 (by decide)
      have d11 : (Jo.Fact.eq undef).P (vs 11) wj := hd 11 (by decide)
      clear hd
      simp only [Jo.putl, List.foldl_cons, List.foldl_nil, Act.put, List.setIfInBounds_toArray, List.set_cons_zero, List.set_cons_succ] at hK ⊢
      generalize vs 4 = u4 at hK d4 ⊢
      generalize vs 11 = u11 at hK d11 ⊢
      replace d4 : u4 = _ := d4
      subst d4
      replace d11 : u11 = _ := d11
      subst d11
      go_simp
      exact hK.out _ _ rfl (Below.refl _ _)
    refine Jo.jcons (i := 13) (o := ⟨some 66, _, _, _, _, _⟩) (di := some 66) (L := [(some 57, 4), (some 65, 12)]) (f := Jo.Fact.eq (.bool true)) rfl rfl rfl rfl (fun vs wj hJ hd K hK => ?_) ?_
    · have d4 : (Jo.Fact.eq (.bool true)).P (vs 4) wj := hd 4 (by decide)
      have d12 : (Jo.Fact.eq undef).P (vs 12) wj := hd 12 (by decide)
      clear hd
      simp only [Jo.putl, List.foldl_cons, List.foldl_nil, Act.put, List.setIfInBounds_toArray, List.set_cons_zero, List.set_cons_succ] at hK ⊢
      generalize vs 4 = u4 at hK d4 ⊢
      generalize vs 12 = u12 at hK d12 ⊢
      replace d4 : u4 = _ := d4
      subst d4
      replace d12 : u12 = _ := d12
      subst d12
      go_simp
      exact hK.out _ _ rfl (Below.refl _ _)
    refine Jo.jcons (i := 14) (o := ⟨some 8, _, _, _, _, _⟩) (di := some 8) (L := [(some 66, 13)]) (f := Jo.Fact.eq (.bool true)) rfl rfl rfl rfl (fun vs wj hJ hd K hK => ?_) ?_
    · have d13 : (Jo.Fact.eq (.bool true)).P (vs 13) wj := hd 13 (by decide)
      clear hd
      simp only [Jo.putl, List.foldl_cons, List.foldl_nil, Act.put, List.setIfInBounds_toArray, List.set_cons_zero, List.set_cons_succ] at hK ⊢
      generalize vs 13 = u13 at hK d13 ⊢
      replace d13 : u13 = _ := d13
      subst d13
      go_simp
      exact hK.out _ _ rfl (Below.refl _ _)
    exact Jo.Steps.nil
  have d0 : (Jo.Fact.eq (.agg #[.bool s1, .slice a1 len1 cap1, .int .i64 e1])).P (vs 0) w8 := hd 0 (by decide)
  have d1 : (Jo.Fact.eq (.agg #[.bool s2, .slice a2 len2 cap2, .int .i64 e2])).P (vs 1) w8 := hd 1 (by decide)
  have d2 : (Jo.Fact.eq (.int .i64 1)).P (vs 2) w8 := hd 2 (by decide)
  have d3 : (Jo.Fact.eq (.bool true)).P (vs 3) w8 := hd 3 (by decide)
  have d4 : (Jo.Fact.eq (.bool true)).P (vs 4) w8 := hd 4 (by decide)
  have d5 : (Jo.Fact.eq undef).P (vs 5) w8 := hd 5 (by decide)
  have d6 : (Jo.Fact.eq undef).P (vs 6) w8 := hd 6 (by decide)
  have d7 : (Jo.Fact.eq undef).P (vs 7) w8 := hd 7 (by decide)
  have d8 : (Jo.Fact.eq undef).P (vs 8) w8 := hd 8 (by decide)
  have d9 : (Jo.Fact.eq undef).P (vs 9) w8 := hd 9 (by decide)
  have d10 : (Jo.Fact.eq undef).P (vs 10) w8 := hd 10 (by decide)
  have d11 : (Jo.Fact.eq undef).P (vs 11) w8 := hd 11 (by decide)
  have d12 : (Jo.Fact.eq undef).P (vs 12) w8 := hd 12 (by decide)
  have d13 : (Jo.Fact.eq (.bool true)).P (vs 13) w8 := hd 13 (by decide)
  have d14 : (Jo.Fact.eq (.bool true)).P (vs 14) w8 := hd 14 (by decide)
  clear hd
  simp only [Jo.putl, List.foldl_cons, List.foldl_nil, Act.put, List.setIfInBounds_toArray, List.set_cons_zero, List.set_cons_succ]
  generalize vs 0 = u0 at d0 ⊢
  generalize vs 1 = u1 at d1 ⊢
  generalize vs 2 = u2 at d2 ⊢
  generalize vs 3 = u3 at d3 ⊢
  generalize vs 4 = u4 at d4 ⊢
  generalize vs 5 = u5 at d5 ⊢
  generalize vs 6 = u6 at d6 ⊢
  generalize vs 7 = u7 at d7 ⊢
  generalize vs 8 = u8 at d8 ⊢
  generalize vs 9 = u9 at d9 ⊢
  generalize vs 10 = u10 at d10 ⊢
  generalize vs 11 = u11 at d11 ⊢
  generalize vs 12 = u12 at d12 ⊢
  generalize vs 13 = u13 at d13 ⊢
  generalize vs 14 = u14 at d14 ⊢
  clear vs
  replace d0 : u0 = _ := d0
  subst d0
  replace d1 : u1 = _ := d1
  subst d1
  replace d2 : u2 = _ := d2
  subst d2
  replace d3 : u3 = _ := d3
  subst d3
  replace d4 : u4 = _ := d4
  subst d4
  replace d5 : u5 = _ := d5
  subst d5
  replace d6 : u6 = _ := d6
  subst d6
  replace d7 : u7 = _ := d7
  subst d7
  replace d8 : u8 = _ := d8
  subst d8
  replace d9 : u9 = _ := d9
  subst d9
  replace d10 : u10 = _ := d10
  subst d10
  replace d11 : u11 = _ := d11
  subst d11
  replace d12 : u12 = _ := d12
  subst d12
  replace d13 : u13 = _ := d13
  subst d13
  replace d14 : u14 = _ := d14
  subst d14
  replace X0 := X0.below hJ
  replace X1 := X1.below hJ
  replace X2 := X2.below hJ
  replace X12 := X12.below hJ
  replace hT := hT.below hJ
  replace h1 := h1.below hJ
  replace h2 := h2.below hJ
  replace pa := pa.below hJ
  replace HB := Lib.hid (bt HB.out hJ)
  refine Jo.jdone (by kernel_rfl) ?_
  go_wp2
  go_ret
  exact ⟨rfl, HB.out⟩
set_option maxHeartbeats 8000000 in
theorem numBack_main_nl (D0 : Int) (s0 : Bool) (M0 E0 : Int) (s1 : Bool) (a1 : Option Addr) (len1 cap1 : Nat) (e1 : Int) (s2 : Bool) (a2 : Option Addr) (len2 cap2 : Nat) (e2 : Int) (b3 : Bool) (w : World) (y z c : Int) (hT : Tab w) (hM0 : 0 ≤ M0) (hM : M0 < 18446744073709551616) (h1 : Wr w s1 a1 len1 cap1 y) (h2 : Wr w s2 a2 len2 cap2 z) (hp : fewB len1 e1 = true) (hq : fewB len2 e2 = true) (g1 : -1000 ≤ E0) (g2 : E0 ≤ 1000)
    (hx : exb D0 s0 M0 E0 = false) (hc : cmpI (vl (mk y e1)) (vl (mk z e2)) = c) (hc2 : c ≤ 0) (hle : rnd b3 (mk y e1).1 (mk y e1).2 ≤ rnd b3 (mk z e2).1 (mk z e2).2) :
    Calls Tryd.prog 7 #[.agg #[.int .i64 D0, .bool s0, .int .u64 M0, .int .i64 E0], .agg #[.bool s1, .slice a1 len1 cap1, .int .i64 e1], .agg #[.bool s2, .slice a2 len2 cap2, .int .i64 e2], .bool b3] w (PB w true) := by
  obtain ⟨hn1, _, _⟩ := fewB_true hp
  obtain ⟨hn2, _, _⟩ := fewB_true hq
  have HP := Lib.hid hp
  have HQ := Lib.hid hq
  have HX := Lib.hid hx
  have HC := Lib.hid hc
  have HC2 : Hid (decide (0 < c) = false) := Lib.hid (decide_eq_false (by omega))
  obtain ⟨r1, hr1⟩ : ∃ r, rnd b3 (mk y e1).1 (mk y e1).2 = r := ⟨_, rfl⟩
  obtain ⟨r2, hr2⟩ : ∃ r, rnd b3 (mk z e2).1 (mk z e2).2 = r := ⟨_, rfl⟩
  rw [hr1, hr2] at hle
  obtain ⟨c2, hcc⟩ : ∃ c2, cmpI r1 r2 = c2 := ⟨_, rfl⟩
  have HC3 : Hid (decide (c2 ≤ 0) = true) := Lib.hid (decide_eq_true (by
    rw [← hcc]
    rcases cmpI_tri r1 r2 with ⟨a, b⟩ | ⟨a, b⟩ | ⟨a, b⟩ <;> rw [b] <;> omega))
  have HCC := Lib.hid hcc
  have HR1 := Lib.hid hr1
  have HR2 := Lib.hid hr2
  clear hc2 hle hcc hr1 hr2
  obtain ⟨N1, hN1⟩ : ∃ N, (exq D0 s0 M0 E0).1 = N := ⟨_, rfl⟩
  obtain ⟨F1, hF1⟩ : ∃ N, (exq D0 s0 M0 E0).2 = N := ⟨_, rfl⟩
  have HN1 := Lib.hid hN1
  have HF1 := Lib.hid hF1
  clear hp hq hx hc hN1 hF1
  go_enter Tryd.func7, Tryd.ntmps7
  go_upto_region 1 with (fail)
  have X0 := (Bo.newAt w (g := w.heap.size) (by simp) #[.int .i64 D0, .bool s0, .int .u64 M0, .int .i64 E0] 30).below (bel2 _ (.cells #[.bool s1, .slice a1 len1 cap1, .int .i64 e1] 26) (.cells #[.bool s2, .slice a2 len2 cap2, .int .i64 e2] 26))
  have X1 := (Bo.newAt (w.alloc (.cells #[.int .i64 D0, .bool s0, .int .u64 M0, .int .i64 E0] 30)) (g := w.heap.size + 1) (by simp) #[.bool s1, .slice a1 len1 cap1, .int .i64 e1] 26).below (bel1 _ (.cells #[.bool s2, .slice a2 len2 cap2, .int .i64 e2] 26))
  have X2 := (Bo.newAt ((w.alloc (.cells #[.int .i64 D0, .bool s0, .int .u64 M0, .int .i64 E0] 30)).alloc (.cells #[.bool s1, .slice a1 len1 cap1, .int .i64 e1] 26)) (g := w.heap.size + 1 + 1) (by simp) #[.bool s2, .slice a2 len2 cap2, .int .i64 e2] 26)
  have HB := Lib.hid (bel3 w (.cells #[.int .i64 D0, .bool s0, .int .u64 M0, .int .i64 E0] 30) (.cells #[.bool s1, .slice a1 len1 cap1, .int .i64 e1] 26) (.cells #[.bool s2, .slice a2 len2 cap2, .int .i64 e2] 26))
  replace hT := hT.below HB.out
  replace h1 := h1.below HB.out
  replace h2 := h2.below HB.out
  generalize hW1 : (((w.alloc (.cells #[.int .i64 D0, .bool s0, .int .u64 M0, .int .i64 E0] 30)).alloc (.cells #[.bool s1, .slice a1 len1 cap1, .int .i64 e1] 26)).alloc (.cells #[.bool s2, .slice a2 len2 cap2, .int .i64 e2] 26)) = w1 at *
  clear hW1
  go_wp2_with fail
  refine (awake5 _ hT).mono ?_
  rintro ee w2 ⟨rfl, B⟩
  replace X0 := X0.below B
  replace X1 := X1.below B
  replace X2 := X2.below B
  replace hT := hT.below B
  replace h1 := h1.below B
  replace h2 := h2.below B
  replace HB := Lib.hid (bt HB.out B)
  clear B
  have xX10 := X1.at (i := 0) (v := .bool s1) rfl
  have xX11 := X1.at (i := 1) (v := .slice a1 len1 cap1) rfl
  have xX12 := X1.at (i := 2) (v := .int .i64 e1) rfl
  go_wp2_with fail
  refine (few3E _ HP.out).mono ?_
  rintro ee w3 ⟨rfl, B⟩
  clear xX10 xX11 xX12
  replace X0 := X0.below B
  replace X1 := X1.below B
  replace X2 := X2.below B
  replace hT := hT.below B
  replace h1 := h1.below B
  replace h2 := h2.below B
  replace HB := Lib.hid (bt HB.out B)
  clear B
  have xX20 := X2.at (i := 0) (v := .bool s2) rfl
  have xX21 := X2.at (i := 1) (v := .slice a2 len2 cap2) rfl
  have xX22 := X2.at (i := 2) (v := .int .i64 e2) rfl
  go_wp2_with fail
  refine (few3E _ HQ.out).mono ?_
  rintro ee w4 ⟨rfl, B⟩
  clear xX20 xX21 xX22
  replace X0 := X0.below B
  replace X1 := X1.below B
  replace X2 := X2.below B
  replace hT := hT.below B
  replace h1 := h1.below B
  replace h2 := h2.below B
  replace HB := Lib.hid (bt HB.out B)
  clear B
  have xX00 := X0.at (i := 0) (v := .int .i64 D0) rfl
  have xX01 := X0.at (i := 1) (v := .bool s0) rfl
  have xX02 := X0.at (i := 2) (v := .int .u64 M0) rfl
  have xX03 := X0.at (i := 3) (v := .int .i64 E0) rfl
  go_wp2_with fail
  refine (nExact hT hM0 hM HX.out HN1.out HF1.out).mono ?_
  rintro ee w5 ⟨sa, Aa, na, ca, rfl, pa, ka, B⟩
  clear xX00 xX01 xX02 xX03
  replace X0 := X0.below B
  replace X1 := X1.below B
  replace X2 := X2.below B
  replace hT := hT.below B
  replace h1 := h1.below B
  replace h2 := h2.below B
  replace HB := Lib.hid (bt HB.out B)
  clear B
  go_upto_region 7 with (fail)
  have lX12 := Nat.le_refl (World.heap w5).size
  have nX12X0 := X0.lt
  have nX12X1 := X1.lt
  have nX12X2 := X2.lt
  replace X0 := X0.below (bel1 _ (.cells #[.bool sa, .slice Aa na ca, .int .i64 F1] 26))
  replace X1 := X1.below (bel1 _ (.cells #[.bool sa, .slice Aa na ca, .int .i64 F1] 26))
  replace X2 := X2.below (bel1 _ (.cells #[.bool sa, .slice Aa na ca, .int .i64 F1] 26))
  replace hT := hT.below (bel1 _ (.cells #[.bool sa, .slice Aa na ca, .int .i64 F1] 26))
  replace h1 := h1.below (bel1 _ (.cells #[.bool sa, .slice Aa na ca, .int .i64 F1] 26))
  replace h2 := h2.below (bel1 _ (.cells #[.bool sa, .slice Aa na ca, .int .i64 F1] 26))
  replace pa := pa.below (bel1 _ (.cells #[.bool sa, .slice Aa na ca, .int .i64 F1] 26))
  replace HB := Lib.hid (bt HB.out (bel1 _ (.cells #[.bool sa, .slice Aa na ca, .int .i64 F1] 26)))
  have X12 := Bo.new w5 #[.bool sa, .slice Aa na ca, .int .i64 F1] 26
  generalize hWn : World.alloc w5 (.cells #[.bool sa, .slice Aa na ca, .int .i64 F1] 26) = w6 at *
  clear hWn
  clear lX12
  refine Jo.region_joint (T := [0, 1, 2, 3, 4, 5, 6, 7]) (ds := [some 45, some 46, some 47, some 48, some 49, some 50, some 51, some 52]) (ls := [[], [0], [1], [1], [1, 2, 3], [1], [1, 4, 5], [1, 6]]) (k := 8) (L := [(some 45, 0), (some 46, 1), (some 47, 2), (some 48, 3), (some 49, 4), (some 50, 5), (some 51, 6), (some 52, 7)]) (fuel := 0) (J := fun wj => Below (World.heap w6).size w6 wj)
    (F := [Jo.Fact.eq (.bool false), Jo.Fact.eq (.bool false), Jo.Fact.eq undef, Jo.Fact.eq undef, Jo.Fact.eq undef, Jo.Fact.eq undef, Jo.Fact.eq undef, Jo.Fact.eq (.bool false)])
    (by kernel_rfl) (by kernel_rfl) (by decide) rfl rfl (fun _ _ h b => bt h b) ((Below.refl _ _).drew) ?_ (fun vs w7 hJ hd => ?_)
  · refine Jo.jcons (i := 0) (o := ⟨some 45, _, _, _, _, _⟩) (di := some 45) (L := []) (f := Jo.Fact.eq (.bool false)) rfl rfl rfl rfl (fun vs wj hJ hd K hK => ?_) ?_
    · clear hd
      simp only [Jo.putl, List.foldl_nil, Act.put, List.setIfInBounds_toArray, List.set_cons_zero, List.set_cons_succ] at hK ⊢
      go_simp
      exact hK.out _ _ rfl (Below.refl _ _)
    refine Jo.jcons (i := 1) (o := ⟨some 46, _, _, _, _, _⟩) (di := some 46) (L := [(some 45, 0)]) (f := Jo.Fact.eq (.bool false)) rfl rfl rfl rfl (fun vs wj hJ hd K hK => ?_) ?_
    · have d0 : (Jo.Fact.eq (.bool false)).P (vs 0) wj := hd 0 (by decide)
      clear hd
      simp only [Jo.putl, List.foldl_cons, List.foldl_nil, Act.put, List.setIfInBounds_toArray, List.set_cons_zero, List.set_cons_succ] at hK ⊢
      generalize vs 0 = u0 at hK d0 ⊢
      replace d0 : u0 = _ := d0
      subst d0
      go_simp
      exact hK.out _ _ rfl (Below.refl _ _)
    refine Jo.jcons (i := 2) (o := ⟨some 47, _, _, _, _, _⟩) (di := some 47) (L := [(some 46, 1)]) (f := Jo.Fact.eq undef) rfl rfl rfl rfl (fun vs wj hJ hd K hK => ?_) ?_
    · have d1 : (Jo.Fact.eq (.bool false)).P (vs 1) wj := hd 1 (by decide)
      clear hd
      simp only [Jo.putl, List.foldl_cons, List.foldl_nil, Act.put, List.setIfInBounds_toArray, List.set_cons_zero, List.set_cons_succ] at hK ⊢
      generalize vs 1 = u1 at hK d1 ⊢
      replace d1 : u1 = _ := d1
      subst d1
      go_simp
      exact hK.out _ _ rfl (Below.refl _ _)
    refine Jo.jcons (i := 3) (o := ⟨some 48, _, _, _, _, _⟩) (di := some 48) (L := [(some 46, 1)]) (f := Jo.Fact.eq undef) rfl rfl rfl rfl (fun vs wj hJ hd K hK => ?_) ?_
    · have d1 : (Jo.Fact.eq (.bool false)).P (vs 1) wj := hd 1 (by decide)
      clear hd
      simp only [Jo.putl, List.foldl_cons, List.foldl_nil, Act.put, List.setIfInBounds_toArray, List.set_cons_zero, List.set_cons_succ] at hK ⊢
      generalize vs 1 = u1 at hK d1 ⊢
      replace d1 : u1 = _ := d1
      subst d1
      go_simp
      exact hK.out _ _ rfl (Below.refl _ _)
    refine Jo.jcons (i := 4) (o := ⟨some 49, _, _, _, _, _⟩) (di := some 49) (L := [(some 46, 1), (some 47, 2), (some 48, 3)]) (f := Jo.Fact.eq undef) rfl rfl rfl rfl (fun vs wj hJ hd K hK => ?_) ?_
    · have d1 : (Jo.Fact.eq (.bool false)).P (vs 1) wj := hd 1 (by decide)
      have d2 : (Jo.Fact.eq undef).P (vs 2) wj := hd 2 (by decide)
      have d3 : (Jo.Fact.eq undef).P (vs 3) wj := hd 3 (by decide)
      clear hd
      simp only [Jo.putl, List.foldl_cons, List.foldl_nil, Act.put, List.setIfInBounds_toArray, List.set_cons_zero, List.set_cons_succ] at hK ⊢
      generalize vs 1 = u1 at hK d1 ⊢
      generalize vs 2 = u2 at hK d2 ⊢
      generalize vs 3 = u3 at hK d3 ⊢
      replace d1 : u1 = _ := d1
      subst d1
      replace d2 : u2 = _ := d2
      subst d2
      replace d3 : u3 = _ := d3
      subst d3
      go_simp
      exact hK.out _ _ rfl (Below.refl _ _)
    refine Jo.jcons (i := 5) (o := ⟨some 50, _, _, _, _, _⟩) (di := some 50) (L := [(some 46, 1)]) (f := Jo.Fact.eq undef) rfl rfl rfl rfl (fun vs wj hJ hd K hK => ?_) ?_
    · have d1 : (Jo.Fact.eq (.bool false)).P (vs 1) wj := hd 1 (by decide)
      clear hd
      simp only [Jo.putl, List.foldl_cons, List.foldl_nil, Act.put, List.setIfInBounds_toArray, List.set_cons_zero, List.set_cons_succ] at hK ⊢
      generalize vs 1 = u1 at hK d1 ⊢
      replace d1 : u1 = _ := d1
      subst d1
      go_simp
      exact hK.out _ _ rfl (Below.refl _ _)
    refine Jo.jcons (i := 6) (o := ⟨some 51, _, _, _, _, _⟩) (di := some 51) (L := [(some 46, 1), (some 49, 4), (some 50, 5)]) (f := Jo.Fact.eq undef) rfl rfl rfl rfl (fun vs wj hJ hd K hK => ?_) ?_
    · have d1 : (Jo.Fact.eq (.bool false)).P (vs 1) wj := hd 1 (by decide)
      have d4 : (Jo.Fact.eq undef).P (vs 4) wj := hd 4 (by decide)
      have d5 : (Jo.Fact.eq undef).P (vs 5) wj := hd 5 (by decide)
      clear hd
      simp only [Jo.putl, List.foldl_cons, List.foldl_nil, Act.put, List.setIfInBounds_toArray, List.set_cons_zero, List.set_cons_succ] at hK ⊢
      generalize vs 1 = u1 at hK d1 ⊢
      generalize vs 4 = u4 at hK d4 ⊢
      generalize vs 5 = u5 at hK d5 ⊢
      replace d1 : u1 = _ := d1
      subst d1
      replace d4 : u4 = _ := d4
      subst d4
      replace d5 : u5 = _ := d5
      subst d5
      go_simp
      exact hK.out _ _ rfl (Below.refl _ _)
    refine Jo.jcons (i := 7) (o := ⟨some 52, _, _, _, _, _⟩) (di := some 52) (L := [(some 46, 1), (some 51, 6)]) (f := Jo.Fact.eq (.bool false)) rfl rfl rfl rfl (fun vs wj hJ hd K hK => ?_) ?_
    · have d1 : (Jo.Fact.eq (.bool false)).P (vs 1) wj := hd 1 (by decide)
      have d6 : (Jo.Fact.eq undef).P (vs 6) wj := hd 6 (by decide)
      clear hd
      simp only [Jo.putl, List.foldl_cons, List.foldl_nil, Act.put, List.setIfInBounds_toArray, List.set_cons_zero, List.set_cons_succ] at hK ⊢
      generalize vs 1 = u1 at hK d1 ⊢
      generalize vs 6 = u6 at hK d6 ⊢
      replace d1 : u1 = _ := d1
      subst d1
      replace d6 : u6 = _ := d6
      subst d6
      go_simp
      exact hK.out _ _ rfl (Below.refl _ _)
    exact Jo.Steps.nil
  have d0 : (Jo.Fact.eq (.bool false)).P (vs 0) w7 := hd 0 (by decide)
  have d1 : (Jo.Fact.eq (.bool false)).P (vs 1) w7 := hd 1 (by decide)
  have d2 : (Jo.Fact.eq undef).P (vs 2) w7 := hd 2 (by decide)
  have d3 : (Jo.Fact.eq undef).P (vs 3) w7 := hd 3 (by decide)
  have d4 : (Jo.Fact.eq undef).P (vs 4) w7 := hd 4 (by decide)
  have d5 : (Jo.Fact.eq undef).P (vs 5) w7 := hd 5 (by decide)
  have d6 : (Jo.Fact.eq undef).P (vs 6) w7 := hd 6 (by decide)
  have d7 : (Jo.Fact.eq (.bool false)).P (vs 7) w7 := hd 7 (by decide)
  clear hd
  simp only [Jo.putl, List.foldl_cons, List.foldl_nil, Act.put, List.setIfInBounds_toArray, List.set_cons_zero, List.set_cons_succ]
  generalize vs 0 = u0 at d0 ⊢
  generalize vs 1 = u1 at d1 ⊢
  generalize vs 2 = u2 at d2 ⊢
  generalize vs 3 = u3 at d3 ⊢
  generalize vs 4 = u4 at d4 ⊢
  generalize vs 5 = u5 at d5 ⊢
  generalize vs 6 = u6 at d6 ⊢
  generalize vs 7 = u7 at d7 ⊢
  clear vs
  replace d0 : u0 = _ := d0
  subst d0
  replace d1 : u1 = _ := d1
  subst d1
  replace d2 : u2 = _ := d2
  subst d2
  replace d3 : u3 = _ := d3
  subst d3
  replace d4 : u4 = _ := d4
  subst d4
  replace d5 : u5 = _ := d5
  subst d5
  replace d6 : u6 = _ := d6
  subst d6
  replace d7 : u7 = _ := d7
  subst d7
  replace X0 := X0.below hJ
  replace X1 := X1.below hJ
  replace X2 := X2.below hJ
  replace X12 := X12.below hJ
  replace hT := hT.below hJ
  replace h1 := h1.below hJ
  replace h2 := h2.below hJ
  replace pa := pa.below hJ
  replace HB := Lib.hid (bt HB.out hJ)
  refine Jo.jdone (by kernel_rfl) ?_
  go_upto_region 9 with (fail)
  refine Jo.region_joint (T := [0, 1, 2, 3, 4, 5, 6, 7, 8, 9, 10, 11, 12, 13, 14]) (ds := [some 53, some 54, some 55, some 56, some 57, some 58, some 59, some 60, some 61, some 62, some 63, some 64, some 65, some 66, some 8]) (ls := [[], [], [0, 1], [2], [3], [4], [4], [4, 5, 6], [4], [4], [4, 8, 9], [4, 7, 10], [4, 11], [4, 12], [13]]) (k := 15) (L := [(some 53, 0), (some 54, 1), (some 55, 2), (some 56, 3), (some 57, 4), (some 58, 5), (some 59, 6), (some 60, 7), (some 61, 8), (some 62, 9), (some 63, 10), (some 64, 11), (some 65, 12), (some 66, 13), (some 8, 14)]) (fuel := 0) (J := fun wj => Below (World.heap w7).size w7 wj)
    (F := [Jo.Fact.eq (.agg #[.bool s1, .slice a1 len1 cap1, .int .i64 e1]), Jo.Fact.eq (.agg #[.bool s2, .slice a2 len2 cap2, .int .i64 e2]), Jo.Fact.eq (.int .i64 c), Jo.Fact.eq (.bool false), Jo.Fact.eq (.bool false), Jo.Fact.eq (.agg #[.bool s1, .slice a1 len1 cap1, .int .i64 e1]), Jo.Fact.eq (.bool b3), Jo.Fact.num r1, Jo.Fact.eq (.agg #[.bool s2, .slice a2 len2 cap2, .int .i64 e2]), Jo.Fact.eq (.bool b3), Jo.Fact.num r2, Jo.Fact.eq (.int .i64 c2), Jo.Fact.eq (.bool true), Jo.Fact.eq (.bool true), Jo.Fact.eq (.bool true)])
    (by kernel_rfl) (by kernel_rfl) (by decide) rfl rfl (fun _ _ h b => bt h b) ((Below.refl _ _).drew) ?_ (fun vs w8 hJ hd => ?_)
  · refine Jo.jcons (i := 0) (o := ⟨some 53, _, _, _, _, _⟩) (di := some 53) (L := []) (f := Jo.Fact.eq (.agg #[.bool s1, .slice a1 len1 cap1, .int .i64 e1])) rfl rfl rfl rfl (fun vs wj hJ hd K hK => ?_) ?_
    · clear hd
      simp only [Jo.putl, List.foldl_nil, Act.put, List.setIfInBounds_toArray, List.set_cons_zero, List.set_cons_succ] at hK ⊢
      have xX10 : World.cell? wj ⟨w.heap.size + 1, 0, none⟩ = some (.bool s1) := (X1.below hJ).cell 0
      have xX11 : World.cell? wj ⟨w.heap.size + 1, 1, none⟩ = some (.slice a1 len1 cap1) := (X1.below hJ).cell 1
      have xX12 : World.cell? wj ⟨w.heap.size + 1, 2, none⟩ = some (.int .i64 e1) := (X1.below hJ).cell 2
      go_simp
      exact hK.out _ _ rfl (Below.refl _ _)
    refine Jo.jcons (i := 1) (o := ⟨some 54, _, _, _, _, _⟩) (di := some 54) (L := []) (f := Jo.Fact.eq (.agg #[.bool s2, .slice a2 len2 cap2, .int .i64 e2])) rfl rfl rfl rfl (fun vs wj hJ hd K hK => ?_) ?_
    · clear hd
      simp only [Jo.putl, List.foldl_nil, Act.put, List.setIfInBounds_toArray, List.set_cons_zero, List.set_cons_succ] at hK ⊢
      have xX20 : World.cell? wj ⟨w.heap.size + 1 + 1, 0, none⟩ = some (.bool s2) := (X2.below hJ).cell 0
      have xX21 : World.cell? wj ⟨w.heap.size + 1 + 1, 1, none⟩ = some (.slice a2 len2 cap2) := (X2.below hJ).cell 1
      have xX22 : World.cell? wj ⟨w.heap.size + 1 + 1, 2, none⟩ = some (.int .i64 e2) := (X2.below hJ).cell 2
      go_simp
      exact hK.out _ _ rfl (Below.refl _ _)
    refine Jo.jcons (i := 2) (o := ⟨some 55, _, _, _, _, _⟩) (di := some 55) (L := [(some 53, 0), (some 54, 1)]) (f := Jo.Fact.eq (.int .i64 c)) rfl rfl rfl rfl (fun vs wj hJ hd K hK => ?_) ?_
    · have d0 : (Jo.Fact.eq (.agg #[.bool s1, .slice a1 len1 cap1, .int .i64 e1])).P (vs 0) wj := hd 0 (by decide)
      have d1 : (Jo.Fact.eq (.agg #[.bool s2, .slice a2 len2 cap2, .int .i64 e2])).P (vs 1) wj := hd 1 (by decide)
      clear hd
      simp only [Jo.putl, List.foldl_cons, List.foldl_nil, Act.put, List.setIfInBounds_toArray, List.set_cons_zero, List.set_cons_succ] at hK ⊢
      generalize vs 0 = u0 at hK d0 ⊢
      generalize vs 1 = u1 at hK d1 ⊢
      replace d0 : u0 = _ := d0
      subst d0
      replace d1 : u1 = _ := d1
      subst d1
      go_simp
      refine (dCmp (hT.below hJ) (h1.below hJ) (h2.below hJ) (by omega) (by omega) HC.out).mono ?_
      rintro ee wk ⟨rfl, B⟩
      exact hK.out _ _ rfl B
    refine Jo.jcons (i := 3) (o := ⟨some 56, _, _, _, _, _⟩) (di := some 56) (L := [(some 55, 2)]) (f := Jo.Fact.eq (.bool false)) rfl rfl rfl rfl (fun vs wj hJ hd K hK => ?_) ?_
    · have d2 : (Jo.Fact.eq (.int .i64 c)).P (vs 2) wj := hd 2 (by decide)
      clear hd
      simp only [Jo.putl, List.foldl_cons, List.foldl_nil, Act.put, List.setIfInBounds_toArray, List.set_cons_zero, List.set_cons_succ] at hK ⊢
      generalize vs 2 = u2 at hK d2 ⊢
      replace d2 : u2 = _ := d2
      subst d2
      have ht := HC2.out
      go_simp
      exact hK.out _ _ (by first | rfl | (show Value.bool _ = Value.bool _; simp only [ht])) (Below.refl _ _)
    refine Jo.jcons (i := 4) (o := ⟨some 57, _, _, _, _, _⟩) (di := some 57) (L := [(some 56, 3)]) (f := Jo.Fact.eq (.bool false)) rfl rfl rfl rfl (fun vs wj hJ hd K hK => ?_) ?_
    · have d3 : (Jo.Fact.eq (.bool false)).P (vs 3) wj := hd 3 (by decide)
      clear hd
      simp only [Jo.putl, List.foldl_cons, List.foldl_nil, Act.put, List.setIfInBounds_toArray, List.set_cons_zero, List.set_cons_succ] at hK ⊢
      generalize vs 3 = u3 at hK d3 ⊢
      replace d3 : u3 = _ := d3
      subst d3
      go_simp
      exact hK.out _ _ rfl (Below.refl _ _)
    refine Jo.jcons (i := 5) (o := ⟨some 58, _, _, _, _, _⟩) (di := some 58) (L := [(some 57, 4)]) (f := Jo.Fact.eq (.agg #[.bool s1, .slice a1 len1 cap1, .int .i64 e1])) rfl rfl rfl rfl (fun vs wj hJ hd K hK => ?_) ?_
    · have d4 : (Jo.Fact.eq (.bool false)).P (vs 4) wj := hd 4 (by decide)
      clear hd
      simp only [Jo.putl, List.foldl_cons, List.foldl_nil, Act.put, List.setIfInBounds_toArray, List.set_cons_zero, List.set_cons_succ] at hK ⊢
      generalize vs 4 = u4 at hK d4 ⊢
      replace d4 : u4 = _ := d4
      subst d4
      have xX10 : World.cell? wj ⟨w.heap.size + 1, 0, none⟩ = some (.bool s1) := (X1.below hJ).cell 0
      have xX11 : World.cell? wj ⟨w.heap.size + 1, 1, none⟩ = some (.slice a1 len1 cap1) := (X1.below hJ).cell 1
      have xX12 : World.cell? wj ⟨w.heap.size + 1, 2, none⟩ = some (.int .i64 e1) := (X1.below hJ).cell 2
      go_simp
      exact hK.out _ _ rfl (Below.refl _ _)
    refine Jo.jcons (i := 6) (o := ⟨some 59, _, _, _, _, _⟩) (di := some 59) (L := [(some 57, 4)]) (f := Jo.Fact.eq (.bool b3)) rfl rfl rfl rfl (fun vs wj hJ hd K hK => ?_) ?_
    · have d4 : (Jo.Fact.eq (.bool false)).P (vs 4) wj := hd 4 (by decide)
      clear hd
      simp only [Jo.putl, List.foldl_cons, List.foldl_nil, Act.put, List.setIfInBounds_toArray, List.set_cons_zero, List.set_cons_succ] at hK ⊢
      generalize vs 4 = u4 at hK d4 ⊢
      replace d4 : u4 = _ := d4
      subst d4
      go_simp
      exact hK.out _ _ rfl (Below.refl _ _)
    refine Jo.jcons (i := 7) (o := ⟨some 60, _, _, _, _, _⟩) (di := some 60) (L := [(some 57, 4), (some 58, 5), (some 59, 6)]) (f := Jo.Fact.num r1) rfl rfl rfl rfl (fun vs wj hJ hd K hK => ?_) ?_
    · have d4 : (Jo.Fact.eq (.bool false)).P (vs 4) wj := hd 4 (by decide)
      have d5 : (Jo.Fact.eq (.agg #[.bool s1, .slice a1 len1 cap1, .int .i64 e1])).P (vs 5) wj := hd 5 (by decide)
      have d6 : (Jo.Fact.eq (.bool b3)).P (vs 6) wj := hd 6 (by decide)
      clear hd
      simp only [Jo.putl, List.foldl_cons, List.foldl_nil, Act.put, List.setIfInBounds_toArray, List.set_cons_zero, List.set_cons_succ] at hK ⊢
      generalize vs 4 = u4 at hK d4 ⊢
      generalize vs 5 = u5 at hK d5 ⊢
      generalize vs 6 = u6 at hK d6 ⊢
      replace d4 : u4 = _ := d4
      subst d4
      replace d5 : u5 = _ := d5
      subst d5
      replace d6 : u6 = _ := d6
      subst d6
      go_simp
      refine (nRound (hT.below hJ) (h1.below hJ) (by omega) rfl rfl HR1.out).mono ?_
      rintro ee wk ⟨K5, s5, M5, E5, rfl, q5, B⟩
      exact hK.out _ _ ⟨K5, s5, M5, E5, rfl, q5⟩ B
    refine Jo.jcons (i := 8) (o := ⟨some 61, _, _, _, _, _⟩) (di := some 61) (L := [(some 57, 4)]) (f := Jo.Fact.eq (.agg #[.bool s2, .slice a2 len2 cap2, .int .i64 e2])) rfl rfl rfl rfl (fun vs wj hJ hd K hK => ?_) ?_
    · have d4 : (Jo.Fact.eq (.bool false)).P (vs 4) wj := hd 4 (by decide)
      clear hd
      simp only [Jo.putl, List.foldl_cons, List.foldl_nil, Act.put, List.setIfInBounds_toArray, List.set_cons_zero, List.set_cons_succ] at hK ⊢
      generalize vs 4 = u4 at hK d4 ⊢
      replace d4 : u4 = _ := d4
      subst d4
      have xX20 : World.cell? wj ⟨w.heap.size + 1 + 1, 0, none⟩ = some (.bool s2) := (X2.below hJ).cell 0
      have xX21 : World.cell? wj ⟨w.heap.size + 1 + 1, 1, none⟩ = some (.slice a2 len2 cap2) := (X2.below hJ).cell 1
      have xX22 : World.cell? wj ⟨w.heap.size + 1 + 1, 2, none⟩ = some (.int .i64 e2) := (X2.below hJ).cell 2
      go_simp
      exact hK.out _ _ rfl (Below.refl _ _)
    refine Jo.jcons (i := 9) (o := ⟨some 62, _, _, _, _, _⟩) (di := some 62) (L := [(some 57, 4)]) (f := Jo.Fact.eq (.bool b3)) rfl rfl rfl rfl (fun vs wj hJ hd K hK => ?_) ?_
    · have d4 : (Jo.Fact.eq (.bool false)).P (vs 4) wj := hd 4 (by decide)
      clear hd
      simp only [Jo.putl, List.foldl_cons, List.foldl_nil, Act.put, List.setIfInBounds_toArray, List.set_cons_zero, List.set_cons_succ] at hK ⊢
      generalize vs 4 = u4 at hK d4 ⊢
      replace d4 : u4 = _ := d4
      subst d4
      go_simp
      exact hK.out _ _ rfl (Below.refl _ _)
    refine Jo.jcons (i := 10) (o := ⟨some 63, _, _, _, _, _⟩) (di := some 63) (L := [(some 57, 4), (some 61, 8), (some 62, 9)]) (f := Jo.Fact.num r2) rfl rfl rfl rfl (fun vs wj hJ hd K hK => ?_) ?_
    · have d4 : (Jo.Fact.eq (.bool false)).P (vs 4) wj := hd 4 (by decide)
      have d8 : (Jo.Fact.eq (.agg #[.bool s2, .slice a2 len2 cap2, .int .i64 e2])).P (vs 8) wj := hd 8 (by decide)
      have d9 : (Jo.Fact.eq (.bool b3)).P (vs 9) wj := hd 9 (by decide)
      clear hd
      simp only [Jo.putl, List.foldl_cons, List.foldl_nil, Act.put, List.setIfInBounds_toArray, List.set_cons_zero, List.set_cons_succ] at hK ⊢
      generalize vs 4 = u4 at hK d4 ⊢
      generalize vs 8 = u8 at hK d8 ⊢
      generalize vs 9 = u9 at hK d9 ⊢
      replace d4 : u4 = _ := d4
      subst d4
      replace d8 : u8 = _ := d8
      subst d8
      replace d9 : u9 = _ := d9
      subst d9
      go_simp
      refine (nRound (hT.below hJ) (h2.below hJ) (by omega) rfl rfl HR2.out).mono ?_
      rintro ee wk ⟨K6, s6, M6, E6, rfl, q6, B⟩
      exact hK.out _ _ ⟨K6, s6, M6, E6, rfl, q6⟩ B
    refine Jo.jcons (i := 11) (o := ⟨some 64, _, _, _, _, _⟩) (di := some 64) (L := [(some 57, 4), (some 60, 7), (some 63, 10)]) (f := Jo.Fact.eq (.int .i64 c2)) rfl rfl rfl rfl (fun vs wj hJ hd K hK => ?_) ?_
    · have d4 : (Jo.Fact.eq (.bool false)).P (vs 4) wj := hd 4 (by decide)
      have d7 : (Jo.Fact.num r1).P (vs 7) wj := hd 7 (by decide)
      have d10 : (Jo.Fact.num r2).P (vs 10) wj := hd 10 (by decide)
      clear hd
      simp only [Jo.putl, List.foldl_cons, List.foldl_nil, Act.put, List.setIfInBounds_toArray, List.set_cons_zero, List.set_cons_succ] at hK ⊢
      generalize vs 4 = u4 at hK d4 ⊢
      generalize vs 7 = u7 at hK d7 ⊢
      generalize vs 10 = u10 at hK d10 ⊢
      replace d4 : u4 = _ := d4
      subst d4
      obtain ⟨K5, s5, M5, E5, rfl, q5⟩ := d7
      obtain ⟨K6, s6, M6, E6, rfl, q6⟩ := d10
      go_simp
      refine (nCmp (z := c2) q5.top q6.top (by rw [q5.rk, q6.rk]; exact HCC.out)).mono ?_
      rintro ee wk ⟨rfl, B⟩
      exact hK.out _ _ rfl B
    refine Jo.jcons (i := 12) (o := ⟨some 65, _, _, _, _, _⟩) (di := some 65) (L := [(some 57, 4), (some 64, 11)]) (f := Jo.Fact.eq (.bool true)) rfl rfl rfl rfl (fun vs wj hJ hd K hK => ?_) ?_
    · have d4 : (Jo.Fact.eq (.bool false)).P (vs 4) wj := hd 4 (by decide)
      have d11 : (Jo.Fact.eq (.int .i64 c2)).P (vs 11) wj := hd 11 (by decide)
      clear hd
      simp only [Jo.putl, List.foldl_cons, List.foldl_nil, Act.put, List.setIfInBounds_toArray, List.set_cons_zero, List.set_cons_succ] at hK ⊢
      generalize vs 4 = u4 at hK d4 ⊢
      generalize vs 11 = u11 at hK d11 ⊢
      replace d4 : u4 = _ := d4
      subst d4
      replace d11 : u11 = _ := d11
      subst d11
      have ht := HC3.out
      go_simp
      exact hK.out _ _ (by first | rfl | (show Value.bool _ = Value.bool _; simp only [ht])) (Below.refl _ _)
    refine Jo.jcons (i := 13) (o := ⟨some 66, _, _, _, _, _⟩) (di := some 66) (L := [(some 57, 4), (some 65, 12)]) (f := Jo.Fact.eq (.bool true)) rfl rfl rfl rfl (fun vs wj hJ hd K hK => ?_) ?_
    · have d4 : (Jo.Fact.eq (.bool false)).P (vs 4) wj := hd 4 (by decide)
      have d12 : (Jo.Fact.eq (.bool true)).P (vs 12) wj := hd 12 (by decide)
      clear hd
      simp only [Jo.putl, List.foldl_cons, List.foldl_nil, Act.put, List.setIfInBounds_toArray, List.set_cons_zero, List.set_cons_succ] at hK ⊢
      generalize vs 4 = u4 at hK d4 ⊢
      generalize vs 12 = u12 at hK d12 ⊢
      replace d4 : u4 = _ := d4
      subst d4
      replace d12 : u12 = _ := d12
      subst d12
      go_simp
      exact hK.out _ _ rfl (Below.refl _ _)
    refine Jo.jcons (i := 14) (o := ⟨some 8, _, _, _, _, _⟩) (di := some 8) (L := [(some 66, 13)]) (f := Jo.Fact.eq (.bool true)) rfl rfl rfl rfl (fun vs wj hJ hd K hK => ?_) ?_
    · have d13 : (Jo.Fact.eq (.bool true)).P (vs 13) wj := hd 13 (by decide)
      clear hd
      simp only [Jo.putl, List.foldl_cons, List.foldl_nil, Act.put, List.setIfInBounds_toArray, List.set_cons_zero, List.set_cons_succ] at hK ⊢
      generalize vs 13 = u13 at hK d13 ⊢
      replace d13 : u13 = _ := d13
      subst d13
      go_simp
      exact hK.out _ _ rfl (Below.refl _ _)
    exact Jo.Steps.nil
  have d0 : (Jo.Fact.eq (.agg #[.bool s1, .slice a1 len1 cap1, .int .i64 e1])).P (vs 0) w8 := hd 0 (by decide)
  have d1 : (Jo.Fact.eq (.agg #[.bool s2, .slice a2 len2 cap2, .int .i64 e2])).P (vs 1) w8 := hd 1 (by decide)
  have d2 : (Jo.Fact.eq (.int .i64 c)).P (vs 2) w8 := hd 2 (by decide)
  have d3 : (Jo.Fact.eq (.bool false)).P (vs 3) w8 := hd 3 (by decide)
  have d4 : (Jo.Fact.eq (.bool false)).P (vs 4) w8 := hd 4 (by decide)
  have d5 : (Jo.Fact.eq (.agg #[.bool s1, .slice a1 len1 cap1, .int .i64 e1])).P (vs 5) w8 := hd 5 (by decide)
  have d6 : (Jo.Fact.eq (.bool b3)).P (vs 6) w8 := hd 6 (by decide)
  have d7 : (Jo.Fact.num r1).P (vs 7) w8 := hd 7 (by decide)
  have d8 : (Jo.Fact.eq (.agg #[.bool s2, .slice a2 len2 cap2, .int .i64 e2])).P (vs 8) w8 := hd 8 (by decide)
  have d9 : (Jo.Fact.eq (.bool b3)).P (vs 9) w8 := hd 9 (by decide)
  have d10 : (Jo.Fact.num r2).P (vs 10) w8 := hd 10 (by decide)
  have d11 : (Jo.Fact.eq (.int .i64 c2)).P (vs 11) w8 := hd 11 (by decide)
  have d12 : (Jo.Fact.eq (.bool true)).P (vs 12) w8 := hd 12 (by decide)
  have d13 : (Jo.Fact.eq (.bool true)).P (vs 13) w8 := hd 13 (by decide)
  have d14 : (Jo.Fact.eq (.bool true)).P (vs 14) w8 := hd 14 (by decide)
  clear hd
  simp only [Jo.putl, List.foldl_cons, List.foldl_nil, Act.put, List.setIfInBounds_toArray, List.set_cons_zero, List.set_cons_succ]
  generalize vs 0 = u0 at d0 ⊢
  generalize vs 1 = u1 at d1 ⊢
  generalize vs 2 = u2 at d2 ⊢
  generalize vs 3 = u3 at d3 ⊢
  generalize vs 4 = u4 at d4 ⊢
  generalize vs 5 = u5 at d5 ⊢
  generalize vs 6 = u6 at d6 ⊢
  generalize vs 7 = u7 at d7 ⊢
  generalize vs 8 = u8 at d8 ⊢
  generalize vs 9 = u9 at d9 ⊢
  generalize vs 10 = u10 at d10 ⊢
  generalize vs 11 = u11 at d11 ⊢
  generalize vs 12 = u12 at d12 ⊢
  generalize vs 13 = u13 at d13 ⊢
  generalize vs 14 = u14 at d14 ⊢
  clear vs
  replace d0 : u0 = _ := d0
  subst d0
  replace d1 : u1 = _ := d1
  subst d1
  replace d2 : u2 = _ := d2
  subst d2
  replace d3 : u3 = _ := d3
  subst d3
  replace d4 : u4 = _ := d4
  subst d4
  replace d5 : u5 = _ := d5
  subst d5
  replace d6 : u6 = _ := d6
  subst d6
  obtain ⟨K5, s5, M5, E5, rfl, _⟩ := d7
  replace d8 : u8 = _ := d8
  subst d8
  replace d9 : u9 = _ := d9
  subst d9
  obtain ⟨K6, s6, M6, E6, rfl, _⟩ := d10
  replace d11 : u11 = _ := d11
  subst d11
  replace d12 : u12 = _ := d12
  subst d12
  replace d13 : u13 = _ := d13
  subst d13
  replace d14 : u14 = _ := d14
  subst d14
  replace X0 := X0.below hJ
  replace X1 := X1.below hJ
  replace X2 := X2.below hJ
  replace X12 := X12.below hJ
  replace hT := hT.below hJ
  replace h1 := h1.below hJ
  replace h2 := h2.below hJ
  replace pa := pa.below hJ
  replace HB := Lib.hid (bt HB.out hJ)
  refine Jo.jdone (by kernel_rfl) ?_
  go_wp2
  go_ret
  exact ⟨rfl, HB.out⟩

theorem numBack_walk (D0 : Int) (s0 : Bool) (M0 E0 : Int) (s1 : Bool) (a1 : Option Addr) (len1 cap1 : Nat) (y1 : List Int) (e1 : Int) (s2 : Bool) (a2 : Option Addr) (len2 cap2 : Nat) (y2 : List Int) (e2 : Int) (b3 : Bool) (w : World) (hT : Tab w) (w0 : 0 ≤ M0) (u0 : M0 < 18446744073709551616) (w1 : RowIn w a1 len1 cap1 y1) (w2 : RowIn w a2 len2 cap2 y2)  :
    Calls Tryd.prog 7 #[.agg #[.int .i64 D0, .bool s0, .int .u64 M0, .int .i64 E0], .agg #[.bool s1, .slice a1 len1 cap1, .int .i64 e1], .agg #[.bool s2, .slice a2 len2 cap2, .int .i64 e2], .bool b3] w fun e w' => e = .returned (.bool true) ∧ Below w.heap.size w w' := by
  by_cases hp : fewB len1 e1 = true
  · by_cases hq : fewB len2 e2 = true
    · by_cases c1 : 1000 < E0
      · exact numBack_far3 D0 s0 M0 E0 s1 a1 len1 cap1 e1 s2 a2 len2 cap2 e2 b3 w _ _ hT rfl rfl hp hq c1
      · by_cases c2 : E0 < -1000
        · exact numBack_far4 D0 s0 M0 E0 s1 a1 len1 cap1 e1 s2 a2 len2 cap2 e2 b3 w _ _ hT rfl rfl hp hq c2
        · obtain ⟨y, r1⟩ := w1.rd (by have := (fewB_true hp).1; omega)
          obtain ⟨z, r2⟩ := w2.rd (by have := (fewB_true hq).1; omega)
          obtain ⟨η, hη, fP⟩ := raw_fit' (r1.wr s1) hp
          obtain ⟨ζ, hζ, fQ⟩ := raw_fit' (r2.wr s2) hq
          subst hη
          subst hζ
          cases hx : exb D0 s0 M0 E0
          · rcases cmpI_tri (vl (mk (sg s1 y) e1)) (vl (mk (sg s2 z) e2)) with ⟨a, b⟩ | ⟨a, b⟩ | ⟨a, b⟩
            · exact numBack_main_nl D0 s0 M0 E0 s1 a1 len1 cap1 e1 s2 a2 len2 cap2 e2 b3 w _ _ _ hT w0 u0 (r1.wr s1) (r2.wr s2) hp hq (by omega) (by omega) hx b (by decide) (rnd_mono fP fQ (Int.le_of_lt a) b3)
            · exact numBack_main_nl D0 s0 M0 E0 s1 a1 len1 cap1 e1 s2 a2 len2 cap2 e2 b3 w _ _ _ hT w0 u0 (r1.wr s1) (r2.wr s2) hp hq (by omega) (by omega) hx b (by decide) (rnd_mono fP fQ (Int.le_of_eq a) b3)
            · exact numBack_main_ng D0 s0 M0 E0 s1 a1 len1 cap1 e1 s2 a2 len2 cap2 e2 b3 w _ _ _ hT w0 u0 (r1.wr s1) (r2.wr s2) hp hq (by omega) (by omega) hx b rfl
          · rcases cmpI_tri (vl (mk (sg s1 y) e1)) (vl (mk (sg s2 z) e2)) with ⟨a, b⟩ | ⟨a, b⟩ | ⟨a, b⟩
            · exact numBack_main_yl D0 s0 M0 E0 s1 a1 len1 cap1 e1 s2 a2 len2 cap2 e2 b3 w _ _ _ hT w0 u0 (r1.wr s1) (r2.wr s2) hp hq (by omega) (by omega) hx b (by decide) (rnd_mono fP fQ (Int.le_of_lt a) b3)
            · exact numBack_main_yl D0 s0 M0 E0 s1 a1 len1 cap1 e1 s2 a2 len2 cap2 e2 b3 w _ _ _ hT w0 u0 (r1.wr s1) (r2.wr s2) hp hq (by omega) (by omega) hx b (by decide) (rnd_mono fP fQ (Int.le_of_eq a) b3)
            · exact numBack_main_yg D0 s0 M0 E0 s1 a1 len1 cap1 e1 s2 a2 len2 cap2 e2 b3 w _ _ _ hT w0 u0 (r1.wr s1) (r2.wr s2) hp hq (by omega) (by omega) hx b rfl
    · exact numBack_far2 D0 s0 M0 E0 s1 a1 len1 cap1 e1 s2 a2 len2 cap2 e2 b3 w _ _ hT rfl rfl hp (by simpa using hq)
  · exact numBack_far1 D0 s0 M0 E0 s1 a1 len1 cap1 e1 s2 a2 len2 cap2 e2 b3 w _ _ hT rfl rfl (by simpa using hp)
end Go.Proofs.YthibemmhgdbiiaaDoor
