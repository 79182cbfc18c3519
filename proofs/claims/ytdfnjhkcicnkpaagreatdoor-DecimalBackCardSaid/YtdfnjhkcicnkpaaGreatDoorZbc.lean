/-
  Contracts and words that the statements' proofs rest on, several texts in one: Ti.
-/
import Derived.Test.YtdfnjhkcicnkpaaGreatDoorZaw
import Derived.Test.YtdfnjhkcicnkpaaGreatDoorZbb
/-
  What decimal.Show answers.
-/
namespace Go.Proofs.YtdfnjhkcicnkpaaGreatDoor
open Go.RowKit
set_option linter.unusedVariables false
set_option linter.unusedSimpArgs false
set_option maxRecDepth 100000

theorem bWriteByteZ {B b : Nat} {l : List UInt8} {w : World} {z : Int} (c : UInt8) (hz : z = (c.toNat : Int)) (h : Bu w B b l) (hl : l.length ≤ 1000000) (hB : B ≤ w.heap.size) :
    Calls Tryz.prog 51 #[.pointer (some ⟨b, 0, none⟩), .int .u8 z] w (PW w B b (l ++ [c]) .nilIface) := hz ▸ bWriteByte c h hl hB
/-- The text that Show answers. -/
def shD (s : Bool) (n a : Nat) (t : Int) : List UInt8 := if mayC s n a t = true then shw (sg s a) t else []
theorem vMayE {w : World} {A : Option Addr} {n c a : Nat} {s : Bool} {t : Int} {r : Bool} (h : Rd w A n c a) (hn : n ≤ 1000) (hr : mayC s n a t = r) : Calls Tryz.prog 16 #[.agg #[.bool s, .slice A n c, .int .i64 t]] w (PB w r) := vMayD h (by omega) hr

theorem Bo.under {w w' : World} {g B : Nat} {cs : Array Value} {T : TypeId} (h : Bo w g cs T) (hg : g < B) (hb : Below B w w') : Bo w' g cs T := h.keep (hb.block g hg)
set_option maxHeartbeats 2000000 in
theorem vShow_no {w : World} {A : Option Addr} {n c a : Nat} {s : Bool} {t : Int} (h : Rd w A n c a) (hn : n ≤ 20) (hm : mayC s n a t = false) : Calls Tryz.prog 18 #[.agg #[.bool s, .slice A n c, .int .i64 t]] w (PS w []) := by
  have X := Bo.new w #[.bool s, .slice A n c, .int .i64 t] 27
  have HM := Lib.hid hm
  clear hm
  go_enter Tryz.func18, Tryz.ntmps18
  have x0 := X.at (i := 0) (v := .bool s) rfl
  have x1 := X.at (i := 1) (v := .slice A n c) rfl
  have x2 := X.at (i := 2) (v := .int .i64 t) rfl
  go_wp2_with (first
    | (go_at_call 16; ((with_reducible refine (vMayE (h.below (bel1 _ _)) (by omega) HM.out).mono ?_); rintro e w1 ⟨rfl, B1⟩)))
  go_ret
  exact ⟨rfl, bt (bel1 _ _) B1⟩

set_option maxHeartbeats 4000000 in
theorem vShow_tz {w : World} {A : Option Addr} {n c a : Nat} (h : Rd w A n c a) (hn : n ≤ 20) (hP : Pt w) (hd : Lib.nDigits a ≤ 100) (hm : mayC true n a 0 = true) : Calls Tryz.prog 18 #[.agg #[.bool true, .slice A n c, .int .i64 0]] w (PS w ([45] ++ Lib.decDigits a)) := by
  have X := Bo.new w #[.bool true, .slice A n c, .int .i64 0] 27
  have HM := Lib.hid hm
  have HD := Lib.hid (show (Lib.decDigits a).length ≤ 100 by rw [Lib.decDigits_length]; exact hd)
  have HN := Lib.hid (dec_ne a)
  clear hm hd
  go_enter Tryz.func18, Tryz.ntmps18
  have x0 := X.at (i := 0) (v := .bool true) rfl
  have x1 := X.at (i := 1) (v := .slice A n c) rfl
  have x2 := X.at (i := 2) (v := .int .i64 0) rfl
  go_wp2_with fail
  refine (vMayE (h.below (bel1 _ _)) (by omega) HM.out).mono ?_
  rintro e w1 ⟨rfl, B1⟩
  have HB := Lib.hid (bt (bel1 _ _) B1)
  replace X := X.below B1
  have hlt := X.lt
  replace X := X.below (bel1 w1 (.cells #[.pointer none, .slice none 0 0] 64))
  have hb := Bu.new w1 rfl
  have hle : w.heap.size ≤ w1.heap.size := HB.out.size
  replace HB := Lib.hid (bt HB.out (bel1 w1 (.cells #[.pointer none, .slice none 0 0] 64)))
  have hsz : w1.heap.size ≤ (w1.alloc (.cells #[.pointer none, .slice none 0 0] 64)).heap.size := by simp
  clear x0 x1 x2 B1
  have x0 := X.at (i := 0) (v := .bool true) rfl
  have x1 := X.at (i := 1) (v := .slice A n c) rfl
  have x2 := X.at (i := 2) (v := .int .i64 0) rfl
  go_wp2_with fail
  refine (bWriteByteZ 45 (by decide) hb (by simp) hsz).mono ?_
  rintro e w2 ⟨rfl, hb2, B2, k2⟩
  replace X := X.under hlt B2
  replace HB := Lib.hid (HB.out.trans (B2.mono hle))
  replace hb := hb2
  replace hsz := Nat.le_trans hsz B2.size
  clear x0 x1 x2 B2 hb2 k2
  have x0 := X.at (i := 0) (v := .bool true) rfl
  have x1 := X.at (i := 1) (v := .slice A n c) rfl
  have x2 := X.at (i := 2) (v := .int .i64 0) rfl
  go_wp2_with fail
  refine (vDigits (h.below HB.out) hn (hP.below HB.out)).mono ?_
  rintro e w3 ⟨rfl, B3⟩
  replace X := X.below B3
  replace HB := Lib.hid (bt HB.out B3)
  replace hb := hb.below B3
  replace hsz := Nat.le_trans hsz B3.size
  clear x0 x1 x2 B3
  have x0 := X.at (i := 0) (v := .bool true) rfl
  have x1 := X.at (i := 1) (v := .slice A n c) rfl
  have x2 := X.at (i := 2) (v := .int .i64 0) rfl
  go_wp2_with fail
  refine (bWriteString (Lib.decDigits a) hb (by have := HD.out; simp; omega) hsz).mono ?_
  rintro e w4 ⟨rfl, hb4, B4, k4⟩
  replace X := X.under hlt B4
  replace HB := Lib.hid (HB.out.trans (B4.mono hle))
  replace hb := hb4
  replace hsz := Nat.le_trans hsz B4.size
  clear x0 x1 x2 B4 hb4 k4
  have x0 := X.at (i := 0) (v := .bool true) rfl
  have x1 := X.at (i := 1) (v := .slice A n c) rfl
  have x2 := X.at (i := 2) (v := .int .i64 0) rfl
  go_wp2_with fail
  refine (bString hb (by have := HN.out; simp [this])).mono ?_
  rintro e w9 ⟨rfl, B9⟩
  go_wp2
  go_ret
  refine ⟨?_, HB.out.trans (B9.mono hle)⟩
  simp

set_option maxHeartbeats 4000000 in
theorem vShow_tn {w : World} {A : Option Addr} {n c a : Nat} {t : Int} (h : Rd w A n c a) (hn : n ≤ 20) (hP : Pt w) (hd : Lib.nDigits a ≤ 100) (hm : mayC true n a t = true) (ht : (t != 0) = true) (h1 : -400 ≤ t) (h2 : t ≤ 400) : Calls Tryz.prog 18 #[.agg #[.bool true, .slice A n c, .int .i64 t]] w (PS w ([45] ++ Lib.decDigits a ++ 101 :: Lib.itoa t)) := by
  have X := Bo.new w #[.bool true, .slice A n c, .int .i64 t] 27
  have HM := Lib.hid hm
  have HD := Lib.hid (show (Lib.decDigits a).length ≤ 100 by rw [Lib.decDigits_length]; exact hd)
  have HN := Lib.hid (dec_ne a)
  clear hm hd
  have HI := Lib.hid (show (Lib.itoa t).length ≤ 100 by have := Lib.decDigits_length t.natAbs; have := nDig_le (k := 2) (u := t.natAbs) (by omega); unfold Lib.itoa; split <;> simp <;> (try rw [show t.toNat = t.natAbs by omega]) <;> omega)
  go_enter Tryz.func18, Tryz.ntmps18
  have x0 := X.at (i := 0) (v := .bool true) rfl
  have x1 := X.at (i := 1) (v := .slice A n c) rfl
  have x2 := X.at (i := 2) (v := .int .i64 t) rfl
  go_wp2_with fail
  refine (vMayE (h.below (bel1 _ _)) (by omega) HM.out).mono ?_
  rintro e w1 ⟨rfl, B1⟩
  have HB := Lib.hid (bt (bel1 _ _) B1)
  replace X := X.below B1
  have hlt := X.lt
  replace X := X.below (bel1 w1 (.cells #[.pointer none, .slice none 0 0] 64))
  have hb := Bu.new w1 rfl
  have hle : w.heap.size ≤ w1.heap.size := HB.out.size
  replace HB := Lib.hid (bt HB.out (bel1 w1 (.cells #[.pointer none, .slice none 0 0] 64)))
  have hsz : w1.heap.size ≤ (w1.alloc (.cells #[.pointer none, .slice none 0 0] 64)).heap.size := by simp
  clear x0 x1 x2 B1
  have x0 := X.at (i := 0) (v := .bool true) rfl
  have x1 := X.at (i := 1) (v := .slice A n c) rfl
  have x2 := X.at (i := 2) (v := .int .i64 t) rfl
  go_wp2_with fail
  refine (bWriteByteZ 45 (by decide) hb (by simp) hsz).mono ?_
  rintro e w2 ⟨rfl, hb2, B2, k2⟩
  replace X := X.under hlt B2
  replace HB := Lib.hid (HB.out.trans (B2.mono hle))
  replace hb := hb2
  replace hsz := Nat.le_trans hsz B2.size
  clear x0 x1 x2 B2 hb2 k2
  have x0 := X.at (i := 0) (v := .bool true) rfl
  have x1 := X.at (i := 1) (v := .slice A n c) rfl
  have x2 := X.at (i := 2) (v := .int .i64 t) rfl
  go_wp2_with fail
  refine (vDigits (h.below HB.out) hn (hP.below HB.out)).mono ?_
  rintro e w3 ⟨rfl, B3⟩
  replace X := X.below B3
  replace HB := Lib.hid (bt HB.out B3)
  replace hb := hb.below B3
  replace hsz := Nat.le_trans hsz B3.size
  clear x0 x1 x2 B3
  have x0 := X.at (i := 0) (v := .bool true) rfl
  have x1 := X.at (i := 1) (v := .slice A n c) rfl
  have x2 := X.at (i := 2) (v := .int .i64 t) rfl
  go_wp2_with fail
  refine (bWriteString (Lib.decDigits a) hb (by have := HD.out; simp; omega) hsz).mono ?_
  rintro e w4 ⟨rfl, hb4, B4, k4⟩
  replace X := X.under hlt B4
  replace HB := Lib.hid (HB.out.trans (B4.mono hle))
  replace hb := hb4
  replace hsz := Nat.le_trans hsz B4.size
  clear x0 x1 x2 B4 hb4 k4
  have x0 := X.at (i := 0) (v := .bool true) rfl
  have x1 := X.at (i := 1) (v := .slice A n c) rfl
  have x2 := X.at (i := 2) (v := .int .i64 t) rfl
  go_wp2_with fail
  refine (bWriteByteZ 101 (by decide) hb (by have := HD.out; simp; omega) hsz).mono ?_
  rintro e w5 ⟨rfl, hb5, B5, k5⟩
  replace X := X.under hlt B5
  replace HB := Lib.hid (HB.out.trans (B5.mono hle))
  replace hb := hb5
  replace hsz := Nat.le_trans hsz B5.size
  clear x0 x1 x2 B5 hb5 k5
  have x0 := X.at (i := 0) (v := .bool true) rfl
  have x1 := X.at (i := 1) (v := .slice A n c) rfl
  have x2 := X.at (i := 2) (v := .int .i64 t) rfl
  go_wp2_with fail
  refine (sItoa t _ (by omega) (by omega) (hP.below HB.out)).mono ?_
  rintro e w6 ⟨rfl, B6⟩
  replace X := X.below B6
  replace HB := Lib.hid (bt HB.out B6)
  replace hb := hb.below B6
  replace hsz := Nat.le_trans hsz B6.size
  clear x0 x1 x2 B6
  have x0 := X.at (i := 0) (v := .bool true) rfl
  have x1 := X.at (i := 1) (v := .slice A n c) rfl
  have x2 := X.at (i := 2) (v := .int .i64 t) rfl
  go_wp2_with fail
  refine (bWriteString (Lib.itoa t) hb (by have := HD.out; have := HI.out; simp; omega) hsz).mono ?_
  rintro e w7 ⟨rfl, hb7, B7, k7⟩
  replace X := X.under hlt B7
  replace HB := Lib.hid (HB.out.trans (B7.mono hle))
  replace hb := hb7
  replace hsz := Nat.le_trans hsz B7.size
  clear x0 x1 x2 B7 hb7 k7
  have x0 := X.at (i := 0) (v := .bool true) rfl
  have x1 := X.at (i := 1) (v := .slice A n c) rfl
  have x2 := X.at (i := 2) (v := .int .i64 t) rfl
  go_wp2_with fail
  refine (bString hb (by have := HN.out; simp [this])).mono ?_
  rintro e w9 ⟨rfl, B9⟩
  go_wp2
  go_ret
  refine ⟨?_, HB.out.trans (B9.mono hle)⟩
  simp

set_option maxHeartbeats 4000000 in
theorem vShow_fz {w : World} {A : Option Addr} {n c a : Nat} (h : Rd w A n c a) (hn : n ≤ 20) (hP : Pt w) (hd : Lib.nDigits a ≤ 100) (hm : mayC false n a 0 = true) : Calls Tryz.prog 18 #[.agg #[.bool false, .slice A n c, .int .i64 0]] w (PS w ([] ++ Lib.decDigits a)) := by
  have X := Bo.new w #[.bool false, .slice A n c, .int .i64 0] 27
  have HM := Lib.hid hm
  have HD := Lib.hid (show (Lib.decDigits a).length ≤ 100 by rw [Lib.decDigits_length]; exact hd)
  have HN := Lib.hid (dec_ne a)
  clear hm hd
  go_enter Tryz.func18, Tryz.ntmps18
  have x0 := X.at (i := 0) (v := .bool false) rfl
  have x1 := X.at (i := 1) (v := .slice A n c) rfl
  have x2 := X.at (i := 2) (v := .int .i64 0) rfl
  go_wp2_with fail
  refine (vMayE (h.below (bel1 _ _)) (by omega) HM.out).mono ?_
  rintro e w1 ⟨rfl, B1⟩
  have HB := Lib.hid (bt (bel1 _ _) B1)
  replace X := X.below B1
  have hlt := X.lt
  replace X := X.below (bel1 w1 (.cells #[.pointer none, .slice none 0 0] 64))
  have hb := Bu.new w1 rfl
  have hle : w.heap.size ≤ w1.heap.size := HB.out.size
  replace HB := Lib.hid (bt HB.out (bel1 w1 (.cells #[.pointer none, .slice none 0 0] 64)))
  have hsz : w1.heap.size ≤ (w1.alloc (.cells #[.pointer none, .slice none 0 0] 64)).heap.size := by simp
  clear x0 x1 x2 B1
  have x0 := X.at (i := 0) (v := .bool false) rfl
  have x1 := X.at (i := 1) (v := .slice A n c) rfl
  have x2 := X.at (i := 2) (v := .int .i64 0) rfl
  go_wp2_with fail
  refine (vDigits (h.below HB.out) hn (hP.below HB.out)).mono ?_
  rintro e w2 ⟨rfl, B2⟩
  replace X := X.below B2
  replace HB := Lib.hid (bt HB.out B2)
  replace hb := hb.below B2
  replace hsz := Nat.le_trans hsz B2.size
  clear x0 x1 x2 B2
  have x0 := X.at (i := 0) (v := .bool false) rfl
  have x1 := X.at (i := 1) (v := .slice A n c) rfl
  have x2 := X.at (i := 2) (v := .int .i64 0) rfl
  go_wp2_with fail
  refine (bWriteString (Lib.decDigits a) hb (by have := HD.out; simp; omega) hsz).mono ?_
  rintro e w3 ⟨rfl, hb3, B3, k3⟩
  replace X := X.under hlt B3
  replace HB := Lib.hid (HB.out.trans (B3.mono hle))
  replace hb := hb3
  replace hsz := Nat.le_trans hsz B3.size
  clear x0 x1 x2 B3 hb3 k3
  have x0 := X.at (i := 0) (v := .bool false) rfl
  have x1 := X.at (i := 1) (v := .slice A n c) rfl
  have x2 := X.at (i := 2) (v := .int .i64 0) rfl
  go_wp2_with fail
  refine (bString hb (by have := HN.out; simp [this])).mono ?_
  rintro e w9 ⟨rfl, B9⟩
  go_wp2
  go_ret
  refine ⟨?_, HB.out.trans (B9.mono hle)⟩
  simp

set_option maxHeartbeats 4000000 in
theorem vShow_fn {w : World} {A : Option Addr} {n c a : Nat} {t : Int} (h : Rd w A n c a) (hn : n ≤ 20) (hP : Pt w) (hd : Lib.nDigits a ≤ 100) (hm : mayC false n a t = true) (ht : (t != 0) = true) (h1 : -400 ≤ t) (h2 : t ≤ 400) : Calls Tryz.prog 18 #[.agg #[.bool false, .slice A n c, .int .i64 t]] w (PS w ([] ++ Lib.decDigits a ++ 101 :: Lib.itoa t)) := by
  have X := Bo.new w #[.bool false, .slice A n c, .int .i64 t] 27
  have HM := Lib.hid hm
  have HD := Lib.hid (show (Lib.decDigits a).length ≤ 100 by rw [Lib.decDigits_length]; exact hd)
  have HN := Lib.hid (dec_ne a)
  clear hm hd
  have HI := Lib.hid (show (Lib.itoa t).length ≤ 100 by have := Lib.decDigits_length t.natAbs; have := nDig_le (k := 2) (u := t.natAbs) (by omega); unfold Lib.itoa; split <;> simp <;> (try rw [show t.toNat = t.natAbs by omega]) <;> omega)
  go_enter Tryz.func18, Tryz.ntmps18
  have x0 := X.at (i := 0) (v := .bool false) rfl
  have x1 := X.at (i := 1) (v := .slice A n c) rfl
  have x2 := X.at (i := 2) (v := .int .i64 t) rfl
  go_wp2_with fail
  refine (vMayE (h.below (bel1 _ _)) (by omega) HM.out).mono ?_
  rintro e w1 ⟨rfl, B1⟩
  have HB := Lib.hid (bt (bel1 _ _) B1)
  replace X := X.below B1
  have hlt := X.lt
  replace X := X.below (bel1 w1 (.cells #[.pointer none, .slice none 0 0] 64))
  have hb := Bu.new w1 rfl
  have hle : w.heap.size ≤ w1.heap.size := HB.out.size
  replace HB := Lib.hid (bt HB.out (bel1 w1 (.cells #[.pointer none, .slice none 0 0] 64)))
  have hsz : w1.heap.size ≤ (w1.alloc (.cells #[.pointer none, .slice none 0 0] 64)).heap.size := by simp
  clear x0 x1 x2 B1
  have x0 := X.at (i := 0) (v := .bool false) rfl
  have x1 := X.at (i := 1) (v := .slice A n c) rfl
  have x2 := X.at (i := 2) (v := .int .i64 t) rfl
  go_wp2_with fail
  refine (vDigits (h.below HB.out) hn (hP.below HB.out)).mono ?_
  rintro e w2 ⟨rfl, B2⟩
  replace X := X.below B2
  replace HB := Lib.hid (bt HB.out B2)
  replace hb := hb.below B2
  replace hsz := Nat.le_trans hsz B2.size
  clear x0 x1 x2 B2
  have x0 := X.at (i := 0) (v := .bool false) rfl
  have x1 := X.at (i := 1) (v := .slice A n c) rfl
  have x2 := X.at (i := 2) (v := .int .i64 t) rfl
  go_wp2_with fail
  refine (bWriteString (Lib.decDigits a) hb (by have := HD.out; simp; omega) hsz).mono ?_
  rintro e w3 ⟨rfl, hb3, B3, k3⟩
  replace X := X.under hlt B3
  replace HB := Lib.hid (HB.out.trans (B3.mono hle))
  replace hb := hb3
  replace hsz := Nat.le_trans hsz B3.size
  clear x0 x1 x2 B3 hb3 k3
  have x0 := X.at (i := 0) (v := .bool false) rfl
  have x1 := X.at (i := 1) (v := .slice A n c) rfl
  have x2 := X.at (i := 2) (v := .int .i64 t) rfl
  go_wp2_with fail
  refine (bWriteByteZ 101 (by decide) hb (by have := HD.out; simp; omega) hsz).mono ?_
  rintro e w4 ⟨rfl, hb4, B4, k4⟩
  replace X := X.under hlt B4
  replace HB := Lib.hid (HB.out.trans (B4.mono hle))
  replace hb := hb4
  replace hsz := Nat.le_trans hsz B4.size
  clear x0 x1 x2 B4 hb4 k4
  have x0 := X.at (i := 0) (v := .bool false) rfl
  have x1 := X.at (i := 1) (v := .slice A n c) rfl
  have x2 := X.at (i := 2) (v := .int .i64 t) rfl
  go_wp2_with fail
  refine (sItoa t _ (by omega) (by omega) (hP.below HB.out)).mono ?_
  rintro e w5 ⟨rfl, B5⟩
  replace X := X.below B5
  replace HB := Lib.hid (bt HB.out B5)
  replace hb := hb.below B5
  replace hsz := Nat.le_trans hsz B5.size
  clear x0 x1 x2 B5
  have x0 := X.at (i := 0) (v := .bool false) rfl
  have x1 := X.at (i := 1) (v := .slice A n c) rfl
  have x2 := X.at (i := 2) (v := .int .i64 t) rfl
  go_wp2_with fail
  refine (bWriteString (Lib.itoa t) hb (by have := HD.out; have := HI.out; simp; omega) hsz).mono ?_
  rintro e w6 ⟨rfl, hb6, B6, k6⟩
  replace X := X.under hlt B6
  replace HB := Lib.hid (HB.out.trans (B6.mono hle))
  replace hb := hb6
  replace hsz := Nat.le_trans hsz B6.size
  clear x0 x1 x2 B6 hb6 k6
  have x0 := X.at (i := 0) (v := .bool false) rfl
  have x1 := X.at (i := 1) (v := .slice A n c) rfl
  have x2 := X.at (i := 2) (v := .int .i64 t) rfl
  go_wp2_with fail
  refine (bString hb (by have := HN.out; simp [this])).mono ?_
  rintro e w9 ⟨rfl, B9⟩
  go_wp2
  go_ret
  refine ⟨?_, HB.out.trans (B9.mono hle)⟩
  simp

theorem nDig_may {s : Bool} {n a : Nat} {t : Int} (hm : mayC s n a t = true) (ha : a < 4294967296 ^ n) : Lib.nDigits a ≤ 100 := by
  by_cases h0 : n = 0
  · subst h0
    have : a = 0 := by simpa using ha
    subst this
    exact nDig_le (k := 99) (by decide)
  · have := nDig_le (k := 39) (may_few hm h0)
    omega
theorem vShow {w : World} {A : Option Addr} {n c a : Nat} {s : Bool} {t : Int} {l : List UInt8} (h : Rd w A n c a) (hn : n ≤ 20) (hP : Pt w) (hl : shD s n a t = l) : Calls Tryz.prog 18 #[.agg #[.bool s, .slice A n c, .int .i64 t]] w (PS w l) := by
  subst hl
  unfold shD
  have hbd := h.bound
  cases hm : mayC s n a t
  · exact vShow_no h hn hm
  · rw [if_pos rfl]
    have hd := nDig_may hm hbd
    have hsgn : s = true → a ≠ 0 := by
      rintro rfl e
      subst e
      simp [mayC, mayB] at hm
      obtain ⟨⟨h1, h2⟩, _⟩ := hm
      rw [limbs_zero] at h1
      simp at h1
      omega
    have ht : t ≠ 0 → -400 ≤ t ∧ t ≤ 400 := by
      intro h0
      unfold mayC at hm
      by_cases hn0 : n = 0
      · simp [hn0, h0] at hm
      · rw [if_neg hn0] at hm
        simp only [Bool.and_eq_true, decide_eq_true_eq] at hm
        exact hm.2.1
    by_cases h0 : t = 0
    · subst h0
      cases s
      · have := vShow_fz h hn hP hd hm
        have e : ¬ sg false a < 0 := by simp [sg]
        unfold shw
        rw [if_neg e, if_pos rfl, sg_natAbs]
        simpa using this
      · have := vShow_tz h hn hP hd hm
        have ha := hsgn rfl
        have e : sg true a < 0 := by simp [sg]; omega
        unfold shw
        rw [if_pos e, if_pos rfl, sg_natAbs]
        simpa using this
    · obtain ⟨h1, h2⟩ := ht h0
      have hb : (t != 0) = true := by simpa using h0
      cases s
      · have := vShow_fn h hn hP hd hm hb h1 h2
        have e : ¬ sg false a < 0 := by simp [sg]
        unfold shw
        rw [if_neg e, if_neg h0, sg_natAbs]
        simpa using this
      · have := vShow_tn h hn hP hd hm hb h1 h2
        have ha := hsgn rfl
        have e : sg true a < 0 := by simp [sg]; omega
        unfold shw
        rw [if_pos e, if_neg h0, sg_natAbs]
        simpa using this
end Go.Proofs.YtdfnjhkcicnkpaaGreatDoor
