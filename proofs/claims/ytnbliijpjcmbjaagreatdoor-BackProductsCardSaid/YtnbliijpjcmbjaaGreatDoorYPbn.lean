/-
 Contracts that the proof rests on.
-/
import Derived.Test.YtnbliijpjcmbjaaGreatDoorYPay
import Derived.Test.YtnbliijpjcmbjaaGreatDoorYPbm
namespace Go.Proofs.YtnbliijpjcmbjaaGreatDoor
set_option maxHeartbeats 8000000
open Go.RowKit
set_option linter.unusedVariables false
theorem In.fin {x : Int} (h1 : -19342822337206103650074625 < x) (h2 : x < 19342822337206103650074625) : In x := ⟨by omega, by omega⟩
def Zi (a b : Int) : Sp := some (opl a, opl b)
theorem opl_le {a b : Int} (h1 : -9223372036854775808 ≤ a) (h : a ≤ b) (h2 : b ≤ 9223372036854775807) : opl a ≤ opl b := by
 have c := opl_cmp (a := a) (b := b) h1 (by omega) (by omega) h2
 rcases cmpI_tri (opl a) (opl b) with ⟨p, e⟩ | ⟨p, e⟩ | ⟨p, e⟩
 · omega
 · omega
 · rw [e] at c
   rcases cmpI_tri a b with ⟨s, f⟩ | ⟨s, f⟩ | ⟨s, f⟩ <;> omega
theorem opl_fin {a : Int} (h1 : -9223372036854775807 ≤ a) (h2 : a ≤ 9223372036854775807) : -19342822337206103650074625 < opl a ∧ opl a < 19342822337206103650074625 := by
 rcases Int.lt_or_le 0 a with c | c
 · have := opl_pos c h2
   omega
 · by_cases d : a = 0
   · subst d
     decide
   · have := opl_pos (n := -a) (by omega) (by omega)
     rw [opl_neg] at this
     omega
theorem opl_min {a b : Int} (h1 : -9223372036854775808 ≤ a) (h2 : a ≤ 9223372036854775807) (h3 : -9223372036854775808 ≤ b) (h4 : b ≤ 9223372036854775807) : min (opl a) (opl b) = opl (min a b) ∧ max (opl a) (opl b) = opl (max a b) := by
 rcases Int.lt_or_le b a with c | c
 · have := opl_le h3 (show b ≤ a by omega) h2
   rw [show min a b = b by omega, show max a b = a by omega]
   omega
 · have := opl_le h1 c h4
   rw [show min a b = a by omega, show max a b = b by omega]
   omega
theorem Zi.mk {a b : Int} (h1 : -9223372036854775807 ≤ a) (h : a ≤ b) (h2 : b ≤ 9223372036854775807) : mkI (opl a) (opl b) = Zi a b ∧ SpOk (Zi a b) := by
 have A := opl_fin h1 (show a ≤ 9223372036854775807 by omega)
 have B := opl_fin (show -9223372036854775807 ≤ b by omega) h2
 have C := opl_le (by omega) h h2; exact ⟨mkI_some C A.2 B.1, ⟨by omega, C, by omega, A.2, B.1⟩⟩
theorem opl_add {a b : Int} (up : Bool) (h1 : -1000000000000000000 ≤ a) (h2 : a ≤ 1000000000000000000) (h3 : -1000000000000000000 ≤ b) (h4 : b ≤ 1000000000000000000) : addp up (opl a) (opl b) = opl (a + b) := by
 obtain ⟨a1, a2⟩ := opl_fin (a := a) (by omega) (by omega); obtain ⟨b1, b2⟩ := opl_fin (a := b) (by omega) (by omega); obtain ⟨c1, c2⟩ := opl_fin (a := a + b) (by omega) (by omega); rw [addp_ff up (infp_fin a1 a2) (infp_fin b1 b2)]; obtain ⟨nf, v⟩ := sum_spec a1 a2 b1 b2; refine rnd_exact nf up c1 c2 ?_; rw [v, opl_vr (by omega) (by omega), opl_vr (by omega) (by omega), opl_vr (by omega) (by omega), Int.add_mul]
theorem opl_nz {a : Int} (h : a ≠ 0) (h1 : -9223372036854775807 ≤ a) (h2 : a ≤ 9223372036854775807) : opl a ≠ 0 := by
 rcases Int.lt_or_le 0 a with c | c
 · have := opl_pos c h2
   omega
 · have := opl_pos (n := -a) (by omega) (by omega)
   rw [opl_neg] at this
   omega
theorem Zi.add {a b c d : Int} (h1 : -100000000000000000 ≤ a) (h : a ≤ b) (h2 : b ≤ 100000000000000000) (k1 : -100000000000000000 ≤ c) (k : c ≤ d) (k2 : d ≤ 100000000000000000) : addI (Zi a b) (Zi c d) = Zi (a + c) (b + d) := by
 show mkI _ _ = _
 rw [opl_add false (by omega) (by omega) (by omega) (by omega), opl_add true (by omega) (by omega) (by omega) (by omega)]; exact (Zi.mk (by omega) (by omega) (by omega)).1
theorem Zi.neg {a b : Int} (h1 : -100000000000000000 ≤ a) (h : a ≤ b) (h2 : b ≤ 100000000000000000) : negI (Zi a b) = Zi (-b) (-a) := by
 show mkI _ _ = _
 rw [← opl_neg, ← opl_neg]; exact (Zi.mk (by omega) (by omega) (by omega)).1
def partB (q : Bool → Int → Int → Int) (x z y : Sp) : Sp := if (hasI z 0 && hasI y 0) = true then x else meetI x (divI q z y)
def timesB (q : Bool → Int → Int → Int) (z x y : Sp) : Sp × Sp := match z with
 | none => (none, none)
 | some p => (partB q x (some p) y, partB q y (some p) (partB q x (some p) y))
def zout (y : Sp) : Sp := if y = some (0, 0) then none else y
def overB (q : Bool → Int → Int → Int) (z x y : Sp) : Sp × Sp := match z with
 | none => (none, none)
 | some p => (meetI x (mulI (some p) (zout y)), partB q (zout y) (meetI x (mulI (some p) (zout y))) (some p))
def sqrB (r : Bool → Int → Int) (z x : Sp) : Sp := hullI (meetI x (rootI r z)) (meetI x (negI (rootI r z)))
section
variable {q : Bool → Int → Int → Int} {r : Bool → Int → Int} {x y z : Sp}
theorem div_nn : divI q none y = none := rfl
end
section
variable {q : Bool → Int → Int → Int} {r : Bool → Int → Int} {x y z : Sp} {m n : Int}
end
theorem opl_inj {a b : Int} (h1 : -9223372036854775807 ≤ a) (h2 : a ≤ 9223372036854775807) (k1 : -9223372036854775807 ≤ b) (k2 : b ≤ 9223372036854775807) (h : opl a = opl b) : a = b := by
 have c := opl_cmp (a := a) (b := b) (by omega) (by omega) (by omega) (by omega); rw [h] at c
 rcases cmpI_tri a b with ⟨p, e⟩ | ⟨p, e⟩ | ⟨p, e⟩
 · rw [e] at c
   rcases cmpI_tri (opl b) (opl b) with ⟨p, e⟩ | ⟨p, e⟩ | ⟨p, e⟩ <;> omega
 · exact p
 · rw [e] at c
   rcases cmpI_tri (opl b) (opl b) with ⟨p, e⟩ | ⟨p, e⟩ | ⟨p, e⟩ <;> omega
set_option linter.unusedSimpArgs false
set_option maxRecDepth 100000
theorem StN.mk10 {w : World} {g : Nat} {T : TypeId} {a0 a1 a2 a3 a4 a5 a6 a7 a8 a9 : Value} (X : Bo w g #[a0, a1, a2, a3, a4, a5, a6, a7, a8, a9] T) (v0 v1 v2 v3 v4 v5 v6 v7 v8 v9 : Value) :
   StN w ((((((((((w.setCell ⟨g, 0, none⟩ v0).setCell ⟨g, 1, none⟩ v1).setCell ⟨g, 2, none⟩ v2).setCell ⟨g, 3, none⟩ v3).setCell ⟨g, 4, none⟩ v4).setCell ⟨g, 5, none⟩ v5).setCell ⟨g, 6, none⟩ v6).setCell ⟨g, 7, none⟩ v7).setCell ⟨g, 8, none⟩ v8).setCell ⟨g, 9, none⟩ v9) g #[a0, a1, a2, a3, a4, a5, a6, a7, a8, a9] #[v0, v1, v2, v3, v4, v5, v6, v7, v8, v9] T := by
 have t0 : StN w (w.setCell ⟨g, 0, none⟩ v0) g #[a0, a1, a2, a3, a4, a5, a6, a7, a8, a9] #[v0, a1, a2, a3, a4, a5, a6, a7, a8, a9] T := StN.at4 X 0 v0
 have s0 := t0
 have t1 : StN (w.setCell ⟨g, 0, none⟩ v0) ((w.setCell ⟨g, 0, none⟩ v0).setCell ⟨g, 1, none⟩ v1) g #[v0, a1, a2, a3, a4, a5, a6, a7, a8, a9] #[v0, v1, a2, a3, a4, a5, a6, a7, a8, a9] T := StN.at4 s0.box 1 v1
 have s1 := s0.trans t1
 have t2 : StN ((w.setCell ⟨g, 0, none⟩ v0).setCell ⟨g, 1, none⟩ v1) (((w.setCell ⟨g, 0, none⟩ v0).setCell ⟨g, 1, none⟩ v1).setCell ⟨g, 2, none⟩ v2) g #[v0, v1, a2, a3, a4, a5, a6, a7, a8, a9] #[v0, v1, v2, a3, a4, a5, a6, a7, a8, a9] T := StN.at4 s1.box 2 v2
 have s2 := s1.trans t2
 have t3 : StN (((w.setCell ⟨g, 0, none⟩ v0).setCell ⟨g, 1, none⟩ v1).setCell ⟨g, 2, none⟩ v2) ((((w.setCell ⟨g, 0, none⟩ v0).setCell ⟨g, 1, none⟩ v1).setCell ⟨g, 2, none⟩ v2).setCell ⟨g, 3, none⟩ v3) g #[v0, v1, v2, a3, a4, a5, a6, a7, a8, a9] #[v0, v1, v2, v3, a4, a5, a6, a7, a8, a9] T := StN.at4 s2.box 3 v3
 have s3 := s2.trans t3
 have t4 : StN ((((w.setCell ⟨g, 0, none⟩ v0).setCell ⟨g, 1, none⟩ v1).setCell ⟨g, 2, none⟩ v2).setCell ⟨g, 3, none⟩ v3) (((((w.setCell ⟨g, 0, none⟩ v0).setCell ⟨g, 1, none⟩ v1).setCell ⟨g, 2, none⟩ v2).setCell ⟨g, 3, none⟩ v3).setCell ⟨g, 4, none⟩ v4) g #[v0, v1, v2, v3, a4, a5, a6, a7, a8, a9] #[v0, v1, v2, v3, v4, a5, a6, a7, a8, a9] T := StN.at4 s3.box 4 v4
 have s4 := s3.trans t4
 have t5 : StN (((((w.setCell ⟨g, 0, none⟩ v0).setCell ⟨g, 1, none⟩ v1).setCell ⟨g, 2, none⟩ v2).setCell ⟨g, 3, none⟩ v3).setCell ⟨g, 4, none⟩ v4) ((((((w.setCell ⟨g, 0, none⟩ v0).setCell ⟨g, 1, none⟩ v1).setCell ⟨g, 2, none⟩ v2).setCell ⟨g, 3, none⟩ v3).setCell ⟨g, 4, none⟩ v4).setCell ⟨g, 5, none⟩ v5) g #[v0, v1, v2, v3, v4, a5, a6, a7, a8, a9] #[v0, v1, v2, v3, v4, v5, a6, a7, a8, a9] T := StN.at4 s4.box 5 v5
 have s5 := s4.trans t5
 have t6 : StN ((((((w.setCell ⟨g, 0, none⟩ v0).setCell ⟨g, 1, none⟩ v1).setCell ⟨g, 2, none⟩ v2).setCell ⟨g, 3, none⟩ v3).setCell ⟨g, 4, none⟩ v4).setCell ⟨g, 5, none⟩ v5) (((((((w.setCell ⟨g, 0, none⟩ v0).setCell ⟨g, 1, none⟩ v1).setCell ⟨g, 2, none⟩ v2).setCell ⟨g, 3, none⟩ v3).setCell ⟨g, 4, none⟩ v4).setCell ⟨g, 5, none⟩ v5).setCell ⟨g, 6, none⟩ v6) g #[v0, v1, v2, v3, v4, v5, a6, a7, a8, a9] #[v0, v1, v2, v3, v4, v5, v6, a7, a8, a9] T := StN.at4 s5.box 6 v6
 have s6 := s5.trans t6
 have t7 : StN (((((((w.setCell ⟨g, 0, none⟩ v0).setCell ⟨g, 1, none⟩ v1).setCell ⟨g, 2, none⟩ v2).setCell ⟨g, 3, none⟩ v3).setCell ⟨g, 4, none⟩ v4).setCell ⟨g, 5, none⟩ v5).setCell ⟨g, 6, none⟩ v6) ((((((((w.setCell ⟨g, 0, none⟩ v0).setCell ⟨g, 1, none⟩ v1).setCell ⟨g, 2, none⟩ v2).setCell ⟨g, 3, none⟩ v3).setCell ⟨g, 4, none⟩ v4).setCell ⟨g, 5, none⟩ v5).setCell ⟨g, 6, none⟩ v6).setCell ⟨g, 7, none⟩ v7) g #[v0, v1, v2, v3, v4, v5, v6, a7, a8, a9] #[v0, v1, v2, v3, v4, v5, v6, v7, a8, a9] T := StN.at4 s6.box 7 v7
 have s7 := s6.trans t7
 have t8 : StN ((((((((w.setCell ⟨g, 0, none⟩ v0).setCell ⟨g, 1, none⟩ v1).setCell ⟨g, 2, none⟩ v2).setCell ⟨g, 3, none⟩ v3).setCell ⟨g, 4, none⟩ v4).setCell ⟨g, 5, none⟩ v5).setCell ⟨g, 6, none⟩ v6).setCell ⟨g, 7, none⟩ v7) (((((((((w.setCell ⟨g, 0, none⟩ v0).setCell ⟨g, 1, none⟩ v1).setCell ⟨g, 2, none⟩ v2).setCell ⟨g, 3, none⟩ v3).setCell ⟨g, 4, none⟩ v4).setCell ⟨g, 5, none⟩ v5).setCell ⟨g, 6, none⟩ v6).setCell ⟨g, 7, none⟩ v7).setCell ⟨g, 8, none⟩ v8) g #[v0, v1, v2, v3, v4, v5, v6, v7, a8, a9] #[v0, v1, v2, v3, v4, v5, v6, v7, v8, a9] T := StN.at4 s7.box 8 v8
 have s8 := s7.trans t8
 have t9 : StN (((((((((w.setCell ⟨g, 0, none⟩ v0).setCell ⟨g, 1, none⟩ v1).setCell ⟨g, 2, none⟩ v2).setCell ⟨g, 3, none⟩ v3).setCell ⟨g, 4, none⟩ v4).setCell ⟨g, 5, none⟩ v5).setCell ⟨g, 6, none⟩ v6).setCell ⟨g, 7, none⟩ v7).setCell ⟨g, 8, none⟩ v8) ((((((((((w.setCell ⟨g, 0, none⟩ v0).setCell ⟨g, 1, none⟩ v1).setCell ⟨g, 2, none⟩ v2).setCell ⟨g, 3, none⟩ v3).setCell ⟨g, 4, none⟩ v4).setCell ⟨g, 5, none⟩ v5).setCell ⟨g, 6, none⟩ v6).setCell ⟨g, 7, none⟩ v7).setCell ⟨g, 8, none⟩ v8).setCell ⟨g, 9, none⟩ v9) g #[v0, v1, v2, v3, v4, v5, v6, v7, v8, a9] #[v0, v1, v2, v3, v4, v5, v6, v7, v8, v9] T := StN.at4 s8.box 9 v9
 have s9 := s8.trans t9; exact s9
theorem Tab.off {w w' : World} {g : Nat} {old new : Array Value} {R : TypeId} (h : Tab w) (X : Bo w g old R) (hn : old.all no8 = true) (O : Jo.Off g new R w w') : Tab w' := h.keep (O.block _ h.lt (fun e => by
 have h0 := h 0 (by decide); subst e; rw [X.cell] at h0; rw [Array.all_eq_true] at hn; obtain ⟨hlt, he⟩ := Array.getElem?_eq_some_iff.1 h0
 have := hn 0 hlt
 rw [he] at this
 cases this))
theorem meet1 {x : Sp} (hx : SpOk x) : meetL [x] = x := meet_all hx
theorem meetTwo {x y a : Sp} (hx : SpOk x) (h : meetI x y = a) : meetL [x, y] = a := by
 show meetI (meetI allI x) y = a
 rw [meet_all hx]; exact h
theorem part_nn {q : Bool → Int → Int → Int} {x y : Sp} : partB q x none y = none := by
 unfold partB
 rw [if_neg (by show ¬ ((false && hasI y 0) = true); rw [Bool.false_and]; exact Bool.false_ne_true), div_nn, meetI_none]
theorem times_eq {q : Bool → Int → Int → Int} {z x y : Sp} : timesB q z x y = (partB q x z y, partB q y z (partB q x z y)) := by
 rcases z with _ | p
 · rw [part_nn, part_nn]
   rfl
 · rfl
theorem over_eq {q : Bool → Int → Int → Int} {z x y : Sp} : overB q z x y = (meetI x (mulI z (zout y)), partB q (zout y) (meetI x (mulI z (zout y))) z) := by
 rcases z with _ | p
 · have e : mulI none (zout y) = none := rfl
   rw [e, meetI_none, part_nn]
   rfl
 · rfl
def PO (w : World) (x : Sp) (b : Bool) (e : Ending) (w' : World) : Prop := ∃ e0 K s M E K' s' M' E', e = .returned (.agg #[.bool e0, .int .i64 K, .bool s, .int .u64 M, .int .i64 E, .int .i64 K', .bool s', .int .u64 M', .int .i64 E', .bool b]) ∧ Ci e0 K s M E K' s' M' E' x ∧ Below w.heap.size w w'
def Jo.Fact.op (x : Sp) (b : Bool) : Jo.Fact := ⟨fun v w => ∃ e0 K s M E K' s' M' E', v = .agg #[.bool e0, .int .i64 K, .bool s, .int .u64 M, .int .i64 E, .int .i64 K', .bool s', .int .u64 M', .int .i64 E', .bool b] ∧ Ci e0 K s M E K' s' M' E' x, fun v w w' h b => h⟩
def Jo.LFact.op {g : Nat} {new : Array Value} {R : TypeId} (x : Sp) (b : Bool) : Jo.LFact g new R := ⟨fun v w => ∃ e0 K s M E K' s' M' E', v = .agg #[.bool e0, .int .i64 K, .bool s, .int .u64 M, .int .i64 E, .int .i64 K', .bool s', .int .u64 M', .int .i64 E', .bool b] ∧ Ci e0 K s M E K' s' M' E' x, fun v w w' h b => h⟩
def Jo.LFact.iv {g : Nat} {new : Array Value} {R : TypeId} (x : Sp) : Jo.LFact g new R := ⟨fun v w => ∃ e0 K s M E K' s' M' E', v = .agg #[.bool e0, .int .i64 K, .bool s, .int .u64 M, .int .i64 E, .int .i64 K', .bool s', .int .u64 M', .int .i64 E'] ∧ Ci e0 K s M E K' s' M' E' x, fun v w w' h b => h⟩
theorem nOf0E {w : World} : Calls Tryz.prog 34 #[.int .i64 0] w (fun e w' => e = .returned (.agg #[.int .i64 0, .bool false, .int .u64 0, .int .i64 0]) ∧ Below w.heap.size w w') := by
 refine (nOf (r := 0) _ (by decide) (by decide) rfl).mono ?_; rintro ee w2 ⟨K1, s1, M1, E1, rfl, q1, B⟩; obtain ⟨rfl, rfl, rfl, rfl⟩ := q1.uniq Fq.nought; exact ⟨rfl, B⟩
theorem kOp {w : World} {e : Bool} {D M E D' M' E' : Int} {s s' : Bool} {x : Sp} {b : Bool} (hM : LQ M) (hM' : LQ M') (hx : rkI e D s M E D' s' M' E' = x) (hb : hasI x 0 = b) : Calls Tryz.prog 41 #[VI e D s M E D' s' M' E'] w (PO w x b) := by
 delta VI
 have hml : meetL [x] = x := meet1 (by rw [← hx]; exact rkI_ok hM hM')
 have HX := Lib.hid hx; have HBB := Lib.hid hb; have HML := Lib.hid hml; clear hx hb hml
 go_enter Tryz.func41, Tryz.ntmps41
 go_upto_region 1 with (fail)
 generalize hW1 : (w.alloc _).alloc _ = w1 at *; obtain ⟨X1, XR, HB⟩ := Bo.en2 hW1; clear hW1; have xX1 := X1.cell
 go_wp2_with fail
 refine (kvMeet (Il8.lit1 rfl ⟨hM, hM', HX.out⟩) HML.out).mono ?_; rintro ee w2 ⟨e1, K1, s1, M1, E1, K1b, s1b, M1b, E1b, rfl, v1, B⟩; replace B := bt (bel1 _ (.cells #[.bool e, .int .i64 D, .bool s, .int .u64 M, .int .i64 E, .int .i64 D', .bool s', .int .u64 M', .int .i64 E'] 26)) B; clear xX1; replace X1 := X1.below B; replace XR := XR.below B; replace HB := Hqb HB B
 clear B; have xX1 := X1.cell; have zX10 := X1.frozen
 go_upto_region 2 with (fail)
 clear xX1 zX10; generalize hS : ((((((((w2.setCell _ _).setCell _ _).setCell _ _).setCell _ _).setCell _ _).setCell _ _).setCell _ _).setCell _ _).setCell _ _ = w3 at *; have SX := StN.of9 X1 hS; replace XR := XR.stn SX (by omega); replace HB := Hqs HB SX (by omega); replace X1 := SX.box; clear SX hS; refine Jo.rk [0, 1, 2, 3, 4] [some 6, some 7, some 8, some 9, some 10, none] [[], [], [], [1, 2], [0, 3], []] 6 1 [Jo.q9 e1 K1 s1 M1 E1 K1b s1b M1b E1b, Jo.q9 e1 K1 s1 M1 E1 K1b s1b M1b E1b, Jo.q4 0 false 0 0, Jo.qb b, Jo.Fact.eq (.agg #[.bool e1, .int .i64 K1, .bool s1, .int .u64 M1, .int .i64 E1, .int .i64 K1b, .bool s1b, .int .u64 M1b, .int .i64 E1b, .bool b]), Jo.Fact.any] (by kernel_rfl) (by kernel_rfl) (by decide) rfl ?_ ?_
 · iterate 2 (refine Jo.jm rfl ?_ ?_; rotate_left)
   refine Jo.jm rfl ?_ ?_
   · rintro wj hJ K hK; simp only [Jo.z] at hK ⊢; go_simp; refine (nOf0E).mono ?_; rintro ee wk ⟨rfl, B⟩; exact hK.out _ _ rfl B
   refine Jo.jm rfl ?_ ?_
   · rintro wj hJ _ rfl _ rfl K hK; simp only [Jo.z] at hK ⊢; go_simp; refine (kvHas v1.top.1 v1.top.2 (by decide) v1.rk Fq.nought.rk HBB.out).mono ?_; rintro ee wk ⟨rfl, B⟩; exact hK.out _ _ rfl B
   refine Jo.jm rfl ?_ ?_; rotate_left
   exact Jo.Steps.nil
   all_goals (rintro wj hJ; (repeat rintro _ rfl); intro K hK; simp only [Jo.z] at hK ⊢; have xX1 := (X1.below hJ).cell; go_simp; exact hK.out _ _ rfl (br _ _))
 rintro w4 hJ _ rfl _ rfl _ rfl _ rfl _ rfl -; simp only [Jo.z]; replace X1 := X1.below hJ; replace XR := XR.below hJ; replace HB := Hqb HB hJ; have xXR := XR.cell; have zXR0 := XR.frozen
 refine Jo.jnext (i := 5) (o := ⟨none, _, _, _, _, _⟩) (by kernel_rfl) rfl (fun K hK => ?_)
 go_simp; refine hK.out _ _ ?_; clear hK K xXR zXR0; have SX := StN.mk10 XR (.bool e1) (.int .i64 K1) (.bool s1) (.int .u64 M1) (.int .i64 E1) (.int .i64 K1b) (.bool s1b) (.int .u64 M1b) (.int .i64 E1b) (.bool b); refine Jo.jdone (by kernel_rfl) ?_; go_wp2; exact bodyPost_ret (by simp [results, Tryz.results41, go_sem, SX.box.cell]) rfl ⟨_, _, _, _, _, _, _, _, _, rfl, v1, (SX.below HB.out (by omega))⟩
theorem kPart {w : World} {e1 e2 e3 b1 b2 b3 b : Bool} {K1 M1 E1 K1b M1b E1b K2 M2 E2 K2b M2b E2b K3 M3 E3 K3b M3b E3b : Int} {s1 s1b s2 s2b s3 s3b : Bool} {x z y a : Sp} {q : Bool → Int → Int → Int} (hT : Tab w) (hq : QF q) (v1 : Ci e1 K1 s1 M1 E1 K1b s1b M1b E1b x) (v2 : Ci e2 K2 s2 M2 E2 K2b s2b M2b E2b z) (v3 : Ci e3 K3 s3 M3 E3 K3b s3b M3b E3b y) (h1 : hasI x 0 = b1) (h2 : hasI z 0 = b2) (h3 : hasI y 0 = b3) (ha : partB q x z y = a) (hb : hasI a 0 = b) :
   Calls Tryz.prog 42 #[.agg #[.bool e1, .int .i64 K1, .bool s1, .int .u64 M1, .int .i64 E1, .int .i64 K1b, .bool s1b, .int .u64 M1b, .int .i64 E1b, .bool b1], .agg #[.bool e2, .int .i64 K2, .bool s2, .int .u64 M2, .int .i64 E2, .int .i64 K2b, .bool s2b, .int .u64 M2b, .int .i64 E2b, .bool b2], .agg #[.bool e3, .int .i64 K3, .bool s3, .int .u64 M3, .int .i64 E3, .int .i64 K3b, .bool s3b, .int .u64 M3b, .int .i64 E3b, .bool b3]] w (PO w a b) := by
 unfold partB at ha
 rw [h2, h3] at ha; have HBB := Lib.hid hb; have HQ := Lib.hid hq; have H1 := Lib.hid h1; clear hb hq h1; clear h2 h3
 go_enter Tryz.func42, Tryz.ntmps42
 go_upto_region 1 with (fail)
 generalize hW1 : (((w.alloc _).alloc _).alloc _).alloc _ = w1 at *; obtain ⟨X3, X4, X5, XR, HB⟩ := Bo.en4 hW1; replace hT := hT.below HB.out; clear hW1
 cases b2
 · obtain ⟨d, hd0⟩ : ∃ d, divI q z y = d := ⟨_, rfl⟩
   have ha2 : meetL [x, d] = a := meetTwo v1.ok (by rw [← hd0]; exact ha)
   have HD := Lib.hid hd0; have HA := Lib.hid ha2; clear ha hd0 ha2; have xX4 := X4.cell; have xX5 := X5.cell
   go_upto_region 3 with (fail)
   clear xX4 xX5; refine Jo.rk [0, 1, 2, 3, 4, 5, 6, 7, 8, 9] [some 14, some 15, some 16, some 17, some 18, some 19, some 20, some 21, some 22, some 23, none] [[], [0], [], [2], [], [4], [3, 5], [1, 6], [7], [8], []] 11 1 [Jo.qp w.heap.size 0, Jo.q9 e1 K1 s1 M1 E1 K1b s1b M1b E1b, Jo.qp (w.heap.size + 1) 0, Jo.q9 e2 K2 s2 M2 E2 K2b s2b M2b E2b, Jo.qp (w.heap.size + 1 + 1) 0, Jo.q9 e3 K3 s3 M3 E3 K3b s3b M3b E3b, Jo.Fact.iv d, Jo.Fact.il8 2 [x, d], Jo.Fact.iv a, Jo.Fact.op a b, Jo.Fact.any] (by kernel_rfl) (by kernel_rfl) (by decide) rfl ?_ ?_
   · iterate 6 (refine Jo.jm rfl ?_ ?_; rotate_left)
     refine Jo.jm rfl ?_ ?_
     · rintro wj hJ _ rfl _ rfl K hK; simp only [Jo.z] at hK ⊢; go_simp; refine (fkDiv (hT.below hJ) HQ.out v2.top.1 v2.top.2 v3.top.1 v3.top.2 v2.rk v3.rk HD.out).mono ?_; rintro ee wk ⟨e21, K21, s21, M21, E21, K21b, s21b, M21b, E21b, rfl, v21, B⟩; exact hK.out _ _ ⟨e21, K21, s21, M21, E21, K21b, s21b, M21b, E21b, rfl, v21⟩ B
     refine Jo.jm rfl ?_ ?_
     · rintro wj hJ _ rfl _ ⟨e21, K21, s21, M21, E21, K21b, s21b, M21b, E21b, rfl, v21⟩ K hK; simp only [Jo.z] at hK ⊢; go_simp; exact hK.out _ _ ⟨_, 2, rfl, Il8.lit2 rfl v1.rw v21.rw⟩ (bel1 _ _)
     refine Jo.jm rfl ?_ ?_
     · rintro wj hJ _ ⟨A7, c7, rfl, h7⟩ K hK; simp only [Jo.z] at hK ⊢; go_simp; refine (kvMeet h7 HA.out).mono ?_; rintro ee wk ⟨e22, K22, s22, M22, E22, K22b, s22b, M22b, E22b, rfl, v22, B⟩; exact hK.out _ _ ⟨e22, K22, s22, M22, E22, K22b, s22b, M22b, E22b, rfl, v22⟩ B
     refine Jo.jm rfl ?_ ?_
     · rintro wj hJ _ ⟨e22, K22, s22, M22, E22, K22b, s22b, M22b, E22b, rfl, v22⟩ K hK; simp only [Jo.z] at hK ⊢; go_simp; refine (kOp v22.top.1 v22.top.2 v22.rk HBB.out).mono ?_; rintro ee wk ⟨e23, K23, s23, M23, E23, K23b, s23b, M23b, E23b, rfl, v23, B⟩; exact hK.out _ _ ⟨e23, K23, s23, M23, E23, K23b, s23b, M23b, E23b, rfl, v23⟩ B
     exact Jo.Steps.nil
     all_goals (rintro wj hJ; (repeat rintro _ rfl); intro K hK; simp only [Jo.z] at hK ⊢; have xX3 := (X3.below hJ).cell; have xX4 := (X4.below hJ).cell; have xX5 := (X5.below hJ).cell; go_simp; exact hK.out _ _ rfl (br _ _))
   rintro w2 hJ _ _ _ rfl _ _ _ rfl _ _ _ rfl _ ⟨e21, K21, s21, M21, E21, K21b, s21b, M21b, E21b, rfl, v21⟩ _ ⟨_, _, rfl, _⟩ _ ⟨e22, K22, s22, M22, E22, K22b, s22b, M22b, E22b, rfl, v22⟩ _ ⟨e23, K23, s23, M23, E23, K23b, s23b, M23b, E23b, rfl, v23⟩ -; simp only [Jo.z]; replace X3 := X3.below hJ; replace X4 := X4.below hJ; replace X5 := X5.below hJ; replace XR := XR.below hJ; replace hT := hT.below hJ
   replace HB := Hqb HB hJ; clear hT; have xXR := XR.cell; have zXR0 := XR.frozen
   refine Jo.jnext (i := 10) (o := ⟨none, _, _, _, _, _⟩) (by kernel_rfl) rfl (fun K hK => ?_)
   go_simp; refine hK.out _ _ ?_; clear hK K xXR zXR0; have SX := StN.mk10 XR (.bool e23) (.int .i64 K23) (.bool s23) (.int .u64 M23) (.int .i64 E23) (.int .i64 K23b) (.bool s23b) (.int .u64 M23b) (.int .i64 E23b) (.bool b); refine Jo.jdone (by kernel_rfl) ?_; go_wp2; exact bodyPost_ret (by simp [results, Tryz.results42, go_sem, SX.box.cell]) rfl ⟨_, _, _, _, _, _, _, _, _, rfl, v23, (SX.below HB.out (by omega))⟩
 · cases b3
   · obtain ⟨d, hd0⟩ : ∃ d, divI q z y = d := ⟨_, rfl⟩
     have ha2 : meetL [x, d] = a := meetTwo v1.ok (by rw [← hd0]; exact ha)
     have HD := Lib.hid hd0; have HA := Lib.hid ha2; clear ha hd0 ha2; have xX4 := X4.cell; have xX5 := X5.cell
     go_upto_region 3 with (fail)
     clear xX4 xX5; refine Jo.rk [0, 1, 2, 3, 4, 5, 6, 7, 8, 9] [some 14, some 15, some 16, some 17, some 18, some 19, some 20, some 21, some 22, some 23, none] [[], [0], [], [2], [], [4], [3, 5], [1, 6], [7], [8], []] 11 1 [Jo.qp w.heap.size 0, Jo.q9 e1 K1 s1 M1 E1 K1b s1b M1b E1b, Jo.qp (w.heap.size + 1) 0, Jo.q9 e2 K2 s2 M2 E2 K2b s2b M2b E2b, Jo.qp (w.heap.size + 1 + 1) 0, Jo.q9 e3 K3 s3 M3 E3 K3b s3b M3b E3b, Jo.Fact.iv d, Jo.Fact.il8 2 [x, d], Jo.Fact.iv a, Jo.Fact.op a b, Jo.Fact.any] (by kernel_rfl) (by kernel_rfl) (by decide) rfl ?_ ?_
     · iterate 6 (refine Jo.jm rfl ?_ ?_; rotate_left)
       refine Jo.jm rfl ?_ ?_
       · rintro wj hJ _ rfl _ rfl K hK; simp only [Jo.z] at hK ⊢; go_simp; refine (fkDiv (hT.below hJ) HQ.out v2.top.1 v2.top.2 v3.top.1 v3.top.2 v2.rk v3.rk HD.out).mono ?_; rintro ee wk ⟨e21, K21, s21, M21, E21, K21b, s21b, M21b, E21b, rfl, v21, B⟩; exact hK.out _ _ ⟨e21, K21, s21, M21, E21, K21b, s21b, M21b, E21b, rfl, v21⟩ B
       refine Jo.jm rfl ?_ ?_
       · rintro wj hJ _ rfl _ ⟨e21, K21, s21, M21, E21, K21b, s21b, M21b, E21b, rfl, v21⟩ K hK; simp only [Jo.z] at hK ⊢; go_simp; exact hK.out _ _ ⟨_, 2, rfl, Il8.lit2 rfl v1.rw v21.rw⟩ (bel1 _ _)
       refine Jo.jm rfl ?_ ?_
       · rintro wj hJ _ ⟨A7, c7, rfl, h7⟩ K hK; simp only [Jo.z] at hK ⊢; go_simp; refine (kvMeet h7 HA.out).mono ?_; rintro ee wk ⟨e22, K22, s22, M22, E22, K22b, s22b, M22b, E22b, rfl, v22, B⟩; exact hK.out _ _ ⟨e22, K22, s22, M22, E22, K22b, s22b, M22b, E22b, rfl, v22⟩ B
       refine Jo.jm rfl ?_ ?_
       · rintro wj hJ _ ⟨e22, K22, s22, M22, E22, K22b, s22b, M22b, E22b, rfl, v22⟩ K hK; simp only [Jo.z] at hK ⊢; go_simp; refine (kOp v22.top.1 v22.top.2 v22.rk HBB.out).mono ?_; rintro ee wk ⟨e23, K23, s23, M23, E23, K23b, s23b, M23b, E23b, rfl, v23, B⟩; exact hK.out _ _ ⟨e23, K23, s23, M23, E23, K23b, s23b, M23b, E23b, rfl, v23⟩ B
       exact Jo.Steps.nil
       all_goals (rintro wj hJ; (repeat rintro _ rfl); intro K hK; simp only [Jo.z] at hK ⊢; have xX3 := (X3.below hJ).cell; have xX4 := (X4.below hJ).cell; have xX5 := (X5.below hJ).cell; go_simp; exact hK.out _ _ rfl (br _ _))
     rintro w2 hJ _ _ _ rfl _ _ _ rfl _ _ _ rfl _ ⟨e21, K21, s21, M21, E21, K21b, s21b, M21b, E21b, rfl, v21⟩ _ ⟨_, _, rfl, _⟩ _ ⟨e22, K22, s22, M22, E22, K22b, s22b, M22b, E22b, rfl, v22⟩ _ ⟨e23, K23, s23, M23, E23, K23b, s23b, M23b, E23b, rfl, v23⟩ -; simp only [Jo.z]; replace X3 := X3.below hJ; replace X4 := X4.below hJ; replace X5 := X5.below hJ; replace XR := XR.below hJ; replace hT := hT.below hJ
     replace HB := Hqb HB hJ; clear hT; have xXR := XR.cell; have zXR0 := XR.frozen
     refine Jo.jnext (i := 10) (o := ⟨none, _, _, _, _, _⟩) (by kernel_rfl) rfl (fun K hK => ?_)
     go_simp; refine hK.out _ _ ?_; clear hK K xXR zXR0; have SX := StN.mk10 XR (.bool e23) (.int .i64 K23) (.bool s23) (.int .u64 M23) (.int .i64 E23) (.int .i64 K23b) (.bool s23b) (.int .u64 M23b) (.int .i64 E23b) (.bool b); refine Jo.jdone (by kernel_rfl) ?_; go_wp2; exact bodyPost_ret (by simp [results, Tryz.results42, go_sem, SX.box.cell]) rfl ⟨_, _, _, _, _, _, _, _, _, rfl, v23, (SX.below HB.out (by omega))⟩
   · obtain rfl : x = a := ha
     obtain rfl : b1 = b := H1.out.symm.trans HBB.out
     clear hT; have xXR := XR.cell; have zXR0 := XR.frozen; have xX3 := X3.cell; have xX4 := X4.cell; have xX5 := X5.cell; go_wp2; clear xXR zXR0 xX3 xX4 xX5
     have SX := StN.mk10 XR (.bool e1) (.int .i64 K1) (.bool s1) (.int .u64 M1) (.int .i64 E1) (.int .i64 K1b) (.bool s1b) (.int .u64 M1b) (.int .i64 E1b) (.bool b1); exact bodyPost_ret (by simp [results, Tryz.results42, go_sem, SX.box.cell]) rfl ⟨_, _, _, _, _, _, _, _, _, rfl, v1, (SX.below HB.out (by omega))⟩
theorem StN.of10 {w w1 : World} {g : Nat} {T : TypeId} {a0 a1 a2 a3 a4 a5 a6 a7 a8 a9 v0 v1 v2 v3 v4 v5 v6 v7 v8 v9 : Value} (X : Bo w g #[a0, a1, a2, a3, a4, a5, a6, a7, a8, a9] T) (h : ((((((((((w.setCell ⟨g, 0, none⟩ v0).setCell ⟨g, 1, none⟩ v1).setCell ⟨g, 2, none⟩ v2).setCell ⟨g, 3, none⟩ v3).setCell ⟨g, 4, none⟩ v4).setCell ⟨g, 5, none⟩ v5).setCell ⟨g, 6, none⟩ v6).setCell ⟨g, 7, none⟩ v7).setCell ⟨g, 8, none⟩ v8).setCell ⟨g, 9, none⟩ v9) = w1) : StN w w1 g #[a0, a1, a2, a3, a4, a5, a6, a7, a8, a9] #[v0, v1, v2, v3, v4, v5, v6, v7, v8, v9] T := h ▸ StN.mk10 X v0 v1 v2 v3 v4 v5 v6 v7 v8 v9
theorem fkAdd {w : World} {A : Option Addr} {n c : Nat} {l : List Sp} {z : Sp} (hT : Tb w) (h : Il8 w A n c l) (hr : addL l = z) : Calls Tryz.prog 29 #[.slice A n c] w (PV w z) := by
 obtain ⟨p, hp⟩ : ∃ p, gone l = p := ⟨_, rfl⟩; have HP := Lib.hid hp; have HLn := Lib.hid h.1; have hcap := h.2.1; have hbig := h.2.2.1; clear hp
 go_enter Tryz.func29, Tryz.ntmps29
 go_upto_region 1 with (fail)
 generalize hW1 : w.alloc _ = w1 at *; obtain ⟨XR, HB⟩ := Bo.en1 hW1; replace hT := hT.below HB.out; replace h := h.below HB.out; clear hW1
 go_wp2_with fail
 refine (fkEmpty h HP.out).mono ?_; rintro ee w2 ⟨rfl, B⟩; replace XR := XR.below B; replace hT := hT.below B; replace h := h.below B; replace HB := Hqb HB B; clear B
 cases p
 · have hok := h.ok; have hae := (add_ends HP.out hok).trans hr; obtain ⟨u, hu⟩ : ∃ u, smA false (lowL l) = u := ⟨_, rfl⟩; obtain ⟨v, hv⟩ : ∃ v, smA true (highL l) = v := ⟨_, rfl⟩
   have hz : mkI u v = z := by rw [← hu, ← hv]; exact hae
   have HU := Lib.hid hu; have HV := Lib.hid hv; have HZ := Lib.hid hz; clear hok hae hu hv hz hr; go_wp2
   go_loopw [3, 4, 12] (fun va vb i wr => ∃ k A1 B1 c1 d1, k ≤ n ∧ va = .slice A1 k c1 ∧ vb = .slice B1 k d1 ∧ i = .int .i64 ((k : Nat) : Int) ∧ EInv w2 A1 B1 k c1 d1 (lowL (l.take k)) (highL (l.take k)) wr) (fun _ _ i _ => n - (intOf i).toNat)
   case atStart => exact ⟨0, _, _, _, _, Nat.zero_le _, rfl, rfl, rfl, Na.nil _ _, Na.nil _ _, (fun k h => by cases h), Below.refl _ _⟩
   case round =>
     obtain ⟨k, A1, B1, c1, d1, hk, rfl, rfl, rfl, N1, N2, hne, hB⟩ := hrel; have HB0 := HB; replace HB := Lib.hid hB; clear hB
     by_cases hlt : k < n
     · have tlt : decide ((k : Int) < (n : Int)) = true := by simp; omega
       have h' := h.below HB.out
       obtain ⟨a0, b0, hg⟩ := gone_get HP.out (k := k) (by rw [HLn.out]; exact hlt); have hsl := lowL_take (l := l) (k := k) (by rw [HLn.out]; exact hlt); have hsh := highL_take (l := l) (k := k) (by rw [HLn.out]; exact hlt); rw [hg] at hsl hsh; obtain ⟨b, o, rfl, hcell⟩ := h'.2.2.2 (by omega); obtain ⟨e, D, s, M, E, D', s', M', E', x0, x1, x2, x3, x4, x5, x6, x7, x8, hM, hM', hx⟩ := hcell k hlt; rw [hg] at hx
       obtain ⟨rfl, a1, b1, _, _, _⟩ := ci_some hM hM' hx; clear hcell h' h hx hM hM'
       have i1 : (k : Int) < n := by omega
       have i2 : (0 : Int) ≤ k := by omega
       generalize lowL (l.take k) = la at *; generalize highL (l.take k) = lb at *
       have HSL : Hid (lowL (l.take (k + 1)) = la ++ [a0]) := Lib.hid hsl
       have HSH : Hid (highL (l.take (k + 1)) = lb ++ [b0]) := Lib.hid hsh
       have HNE := Lib.hid hne; clear hsl hsh hne hg HU HV HZ HP XR hT HB0
       go_upto_region 7 with (fail)
       clear x0 x1 x2 x3 x4 x5 x6 x7 x8; have lX6 := Nat.le_refl (World.heap wr).size; generalize hWn : wr.alloc _ = w6 at *; obtain ⟨X6, BW⟩ := Bo.nw hWn; clear hWn; replace N1 := N1.below BW; replace N2 := N2.below BW; replace HB := Hqb HB BW; clear BW; clear lX6; have xX6 := X6.cell
       go_wp2_with (at_builtin; refine wpList_na rfl _ _ rfl rfl rfl (N1.below (bel1 _ _)) a1 (Bo.new _ _ _) (by omega) (Nat.le_trans HB.out.size (bel1 _ _).size) ?_)
       intro A2 d2 w7 N1' G1 at1
       clear xX6; have hB2 := bt HB.out (bel1 _ (.cells #[.int .i64 D, .bool s, .int .u64 M, .int .i64 E] 24)); have N1b := N1.below (bel1 _ (.cells #[.int .i64 D, .bool s, .int .u64 M, .int .i64 E] 24)); have N2b := N2.below (bel1 _ (.cells #[.int .i64 D, .bool s, .int .u64 M, .int .i64 E] 24)); replace X6 := (X6.below (bel1 _ (.cells #[.int .i64 D, .bool s, .int .u64 M, .int .i64 E] 24))).grownN N1b (by decide) G1
       replace HB := Lib.hid (hB2.grown G1 hB2.size (fun k hk => (N1b.own_lt k hk).1))
       have l1 : ∀ k, ownA B1 = some k → k < w6.heap.size + 1 := fun k hk => by
         have := (N2b.own_lt k hk).2
         simpa using this
       replace N2 := N2b.kept G1 (own_ne HNE.out); clear N1 N1b N2b G1 hB2; have xX6 := X6.cell
       go_wp2_with (at_builtin; refine wpList_na rfl _ _ rfl rfl rfl (N2.below (bel1 _ _)) b1 (Bo.new _ _ _) (by omega) (Nat.le_trans HB.out.size (bel1 _ _).size) ?_)
       intro B2 d3 w8 N2' G2 at2
       clear xX6; have hB2 := bt HB.out (bel1 _ (.cells #[.int .i64 D', .bool s', .int .u64 M', .int .i64 E'] 24)); have N2b := N2.below (bel1 _ (.cells #[.int .i64 D', .bool s', .int .u64 M', .int .i64 E'] 24)); have N1b := N1'.below (bel1 _ (.cells #[.int .i64 D', .bool s', .int .u64 M', .int .i64 E'] 24))
       have lA : ∀ k, ownA A2 = some k → k < w7.heap.size + 1 := fun k hk => by
         have := (N1b.own_lt k hk).2
         simpa using this
       have hne2 : ∀ k, ownA A2 = some k → ownA B2 ≠ some k := ne_row HNE.out at1 at2 l1 lA
       have hne1 : ∀ k, ownA A2 = some k → ownA B1 ≠ some k := ne_row HNE.out at1 (.inl rfl) l1 lA
       replace HB := Lib.hid (hB2.grown G2 hB2.size (fun k hk => (N2b.own_lt k hk).1))
       replace N1' := N1b.kept G2 (own_ne' hne1)
       have t1 := HSL.out; have t2 := HSH.out; clear N1b N2b G2 hB2 hne1 X6 N2 l1 lA at1 at2 HSL HSH HNE; go_wp2
       go_roundw
       case rel => exact ⟨k + 1, _, _, _, _, by omega, rfl, rfl, by go_num, by rw [t1]; exact N1', by rw [t2]; exact N2', hne2, HB.out⟩
       case measure => simp [intOf]; omega
     · obtain rfl : k = n := by omega
       have tlt : decide ((k : Int) < (k : Int)) = false := by simp
       have e1 : l.take k = l := List.take_of_length_le (by rw [HLn.out]; omega)
       rw [e1] at N1 N2; have L1 := N1.nl (by omega); have L2 := N2.nl (by omega); replace XR := XR.below HB.out; replace hT := hT.below HB.out; replace HB := Lib.hid (bt HB0.out HB.out); clear N1 N2 e1 hne HB0 h HP
       go_wp2_with fail
       refine (aSum hT L1 HU.out).mono ?_; rintro ee w9 ⟨K21, s21, M21, E21, rfl, q21, B⟩; replace XR := XR.below B; replace hT := hT.below B; replace L1 := L1.below B; replace L2 := L2.below B; replace HB := Hqb HB B; clear B
       go_wp2_with fail
       refine (aSum hT L2 HV.out).mono ?_; rintro ee wA ⟨K22, s22, M22, E22, rfl, q22, B⟩; replace XR := XR.below B; replace hT := hT.below B; replace L1 := L1.below B; replace L2 := L2.below B; replace HB := Hqb HB B; clear B
       go_wp2_with fail
       refine (kvMake q21.top q22.top q21.rk q22.rk HZ.out).mono ?_; rintro ee wB ⟨e23, K23, s23, M23, E23, K23b, s23b, M23b, E23b, rfl, v23, B⟩; replace XR := XR.below B; replace hT := hT.below B; replace L1 := L1.below B; replace L2 := L2.below B; replace HB := Hqb HB B; clear B; clear L1 L2 hT; have xXR := XR.cell; have zXR0 := XR.frozen
       go_wp2; clear xXR zXR0; have SX := StN.mk9 XR (.bool e23) (.int .i64 K23) (.bool s23) (.int .u64 M23) (.int .i64 E23) (.int .i64 K23b) (.bool s23b) (.int .u64 M23b) (.int .i64 E23b); exact bodyPost_ret (by simp [results, Tryz.results29, go_sem, SX.box.cell]) rfl ⟨_, _, _, _, _, _, _, _, _, rfl, v23, (SX.below HB.out (by omega))⟩
 · obtain rfl : none = z := (add_gone HP.out).symm.trans hr
   clear HP hT h hr
   go_wp2_with fail
   refine (kvNoneE).mono ?_; rintro ee w3 ⟨rfl, B⟩; replace XR := XR.below B; replace HB := Hqb HB B; clear B; have xXR := XR.cell; have zXR0 := XR.frozen; go_wp2; clear xXR zXR0; have SX := StN.mk9 XR (.bool true) (.int .i64 0) (.bool false) (.int .u64 0) (.int .i64 0) (.int .i64 0) (.bool false) (.int .u64 0) (.int .i64 0)
   exact bodyPost_ret (by simp [results, Tryz.results29, go_sem, SX.box.cell]) rfl ⟨_, _, _, _, _, _, _, _, _, rfl, Ci.none, (SX.below HB.out (by omega))⟩
theorem fkSub {w : World} {e : Bool} {D M E D' M' E' : Int} {s s' : Bool} {e2 : Bool} {G P Q G' P' Q' : Int} {g g' : Bool} {x y z : Sp} (hT : Tb w) (hM : LQ M) (hM' : LQ M') (hP : LQ P) (hP' : LQ P') (hx : rkI e D s M E D' s' M' E' = x) (hy : rkI e2 G g P Q G' g' P' Q' = y) (hr : subI x y = z) : Calls Tryz.prog 30 #[VI e D s M E D' s' M' E', VI e2 G g P Q G' g' P' Q'] w (PV w z) := by
 delta VI
 obtain ⟨m, hm⟩ : ∃ m, negI y = m := ⟨_, rfl⟩
 have hr2 : addL [x, m] = z := by rw [← hm]; exact hr
 have HX := Lib.hid hx; have HY := Lib.hid hy; have HM := Lib.hid hm; have HR := Lib.hid hr2; clear hx hy hm hr hr2
 go_enter Tryz.func30, Tryz.ntmps30
 go_upto_region 1 with (fail)
 generalize hW1 : ((w.alloc _).alloc _).alloc _ = w1 at *; obtain ⟨X2, X3, XR, HB⟩ := Bo.en3 hW1; replace hT := hT.below HB.out; clear hW1; refine Jo.rk [0, 1, 2, 3, 4] [some 5, some 6, some 7, some 8, some 9, none] [[], [], [1], [0, 2], [3], []] 6 1 [Jo.q9 e D s M E D' s' M' E', Jo.q9 e2 G g P Q G' g' P' Q', Jo.Fact.iv m, Jo.Fact.il8 2 [x, m], Jo.Fact.iv z, Jo.Fact.any] (by kernel_rfl) (by kernel_rfl) (by decide) rfl ?_ ?_
 · iterate 2 (refine Jo.jm rfl ?_ ?_; rotate_left)
   refine Jo.jm rfl ?_ ?_
   · rintro wj hJ _ rfl K hK; simp only [Jo.z] at hK ⊢; go_simp; refine (fkNeg hP hP' HY.out HM.out).mono ?_; rintro ee wk ⟨e1, K1, s1, M1, E1, K1b, s1b, M1b, E1b, rfl, v1, B⟩; exact hK.out _ _ ⟨e1, K1, s1, M1, E1, K1b, s1b, M1b, E1b, rfl, v1⟩ B
   refine Jo.jm rfl ?_ ?_
   · rintro wj hJ _ rfl _ ⟨e1, K1, s1, M1, E1, K1b, s1b, M1b, E1b, rfl, v1⟩ K hK; simp only [Jo.z] at hK ⊢; go_simp; exact hK.out _ _ ⟨_, 2, rfl, Il8.lit2 rfl ⟨hM, hM', HX.out⟩ v1.rw⟩ (bel1 _ _)
   refine Jo.jm rfl ?_ ?_
   · rintro wj hJ _ ⟨A3, c3, rfl, h3⟩ K hK; simp only [Jo.z] at hK ⊢; go_simp; refine (fkAdd (hT.below hJ) h3 HR.out).mono ?_; rintro ee wk ⟨e2, K2, s2, M2, E2, K2b, s2b, M2b, E2b, rfl, v2, B⟩; exact hK.out _ _ ⟨e2, K2, s2, M2, E2, K2b, s2b, M2b, E2b, rfl, v2⟩ B
   exact Jo.Steps.nil
   all_goals (rintro wj hJ; (repeat rintro _ rfl); intro K hK; simp only [Jo.z] at hK ⊢; have xX2 := (X2.below hJ).cell; have xX3 := (X3.below hJ).cell; go_simp; exact hK.out _ _ rfl (br _ _))
 rintro w8 hJ _ rfl _ rfl _ ⟨e1, K1, s1, M1, E1, K1b, s1b, M1b, E1b, rfl, v1⟩ _ ⟨_, _, rfl, _⟩ _ ⟨e2, K2, s2, M2, E2, K2b, s2b, M2b, E2b, rfl, v2⟩ -; simp only [Jo.z]; replace X2 := X2.below hJ; replace X3 := X3.below hJ; replace XR := XR.below hJ; replace hT := hT.below hJ; replace HB := Hqb HB hJ; have xXR := XR.cell; have zXR0 := XR.frozen
 refine Jo.jnext (i := 5) (o := ⟨none, _, _, _, _, _⟩) (by kernel_rfl) rfl (fun K hK => ?_)
 go_simp; refine hK.out _ _ ?_; clear hK K xXR zXR0; have SX := StN.mk9 XR (.bool e2) (.int .i64 K2) (.bool s2) (.int .u64 M2) (.int .i64 E2) (.int .i64 K2b) (.bool s2b) (.int .u64 M2b) (.int .i64 E2b); refine Jo.jdone (by kernel_rfl) ?_; go_wp2; exact bodyPost_ret (by simp [results, Tryz.results30, go_sem, SX.box.cell]) rfl ⟨_, _, _, _, _, _, _, _, _, rfl, v2, (SX.below HB.out (by omega))⟩
def rootM (r : Bool → Int → Int) (x : Sp) : Sp := match x with
 | none => none
 | some (a, b) => mkI (r false a) (r true b)
theorem root_meet (r : Bool → Int → Int) (x : Sp) : rootI r x = rootM r (meetI x (some (0, 19342822337206103650074625))) := by
 unfold rootI rootM
 rfl
theorem meet_nn {x : Sp} {a b : Int} (h : meetI x (some (0, 19342822337206103650074625)) = some (a, b)) : 0 ≤ a ∧ a ≤ b := by
 rcases x with _ | ⟨c, d⟩
 · cases h
 · have h2 : mkI (max c 0) (min d 19342822337206103650074625) = some (a, b) := h
   unfold mkI at h2
   split at h2
   · cases h2
     omega
   · cases h2
theorem fkRoot {w : World} {e : Bool} {D M E D' M' E' : Int} {s s' : Bool} {x z : Sp} {r : Bool → Int → Int} (hT : Tab w) (hq : RF r) (hM : LQ M) (hM' : LQ M') (hx : rkI e D s M E D' s' M' E' = x) (hr : rootI r x = z) : Calls Tryz.prog 48 #[VI e D s M E D' s' M' E'] w (PV w z) := by
 delta VI
 rw [root_meet] at hr; obtain ⟨m, hm⟩ : ∃ m, meetI x (some (0, 19342822337206103650074625)) = m := ⟨_, rfl⟩
 have h0 : ∀ a b, m = some (a, b) → 0 ≤ a ∧ a ≤ b := fun a b e => meet_nn (hm.trans e)
 have hml : meetL [x, some (0, 19342822337206103650074625)] = m := by
   show meetI (meetI allI x) _ = m
   rw [meet_all (by rw [← hx]; exact rkI_ok hM hM')]; exact hm
 rw [hm] at hr; have HX := Lib.hid hx; have HMM := Lib.hid hml; have H0 := Lib.hid h0
 have HZ : Hid (sgi (decide ((0 : Int) < 0)) (lo (0 : Int).natAbs 0) = 0) := Lib.hid rfl
 have HI : Hid (mkI 0 19342822337206103650074625 = some (0, 19342822337206103650074625)) := Lib.hid (mkI_some (by decide) (by decide) (by decide))
 clear hx hm hml h0
 go_enter Tryz.func48, Tryz.ntmps48
 go_upto_region 1 with (fail)
 generalize hW1 : (w.alloc _).alloc _ = w1 at *; obtain ⟨X1, XR, HB⟩ := Bo.en2 hW1; replace hT := hT.below HB.out; clear hW1; have lt1 := X1.lt; have ltR := XR.lt; refine Jo.rk [0, 1, 2, 3, 4, 5, 6] [some 8, some 9, some 10, some 11, some 12, some 13, some 3, none] [[], [], [], [1, 2], [0, 3], [4], [], []] 8 1 [Jo.q9 e D s M E D' s' M' E', Jo.Fact.num 0, Jo.q4 2 false 0 0, Jo.Fact.iv (some (0, 19342822337206103650074625)), Jo.Fact.il8 2 [x, (some (0, 19342822337206103650074625))], Jo.Fact.iv m, Jo.Fact.bo w1.heap.size #[.bool false, .int .i64 0, .bool false, .int .u64 0, .int .i64 0, .int .i64 0, .bool false, .int .u64 0, .int .i64 0] 26, Jo.Fact.any] (by kernel_rfl) (by kernel_rfl) (by decide) rfl ?_ ?_
 · refine Jo.jm rfl ?_ ?_
   · rintro wj hJ K hK; simp only [Jo.z] at hK ⊢; have xX1 := (X1.below hJ).cell; go_simp; exact hK.out _ _ rfl (br _ _)
   refine Jo.jm rfl ?_ ?_
   · rintro wj hJ K hK; simp only [Jo.z] at hK ⊢; go_simp; refine (nOf _ (by decide) (by decide) HZ.out).mono ?_; rintro ee wk ⟨K5, s5, M5, E5, rfl, q5, B⟩; exact hK.out _ _ ⟨K5, s5, M5, E5, rfl, q5⟩ B
   refine Jo.jm rfl ?_ ?_
   · rintro wj hJ K hK; simp only [Jo.z] at hK ⊢; go_simp; refine (nInfE false).mono ?_; rintro ee wk ⟨rfl, B⟩; exact hK.out _ _ rfl B
   refine Jo.jm rfl ?_ ?_
   · rintro wj hJ _ ⟨K5, s5, M5, E5, rfl, q5⟩ _ rfl K hK; simp only [Jo.z] at hK ⊢; go_simp; refine (kvMake (b := 19342822337206103650074625) q5.top (by decide) q5.rk (fq_inf2 false).rk HI.out).mono ?_; rintro ee wk ⟨e6, K6, s6, M6, E6, K6b, s6b, M6b, E6b, rfl, v6, B⟩; exact hK.out _ _ ⟨e6, K6, s6, M6, E6, K6b, s6b, M6b, E6b, rfl, v6⟩ B
   refine Jo.jm rfl ?_ ?_
   · rintro wj hJ _ rfl _ ⟨e6, K6, s6, M6, E6, K6b, s6b, M6b, E6b, rfl, v6⟩ K hK; simp only [Jo.z] at hK ⊢; go_simp; exact hK.out _ _ ⟨_, 2, rfl, Il8.lit2 rfl ⟨hM, hM', HX.out⟩ v6.rw⟩ (bel1 _ _)
   refine Jo.jm rfl ?_ ?_
   · rintro wj hJ _ ⟨A4, c4, rfl, h4⟩ K hK; simp only [Jo.z] at hK ⊢; go_simp; refine (kvMeet h4 HMM.out).mono ?_; rintro ee wk ⟨e1, K1, s1, M1, E1, K1b, s1b, M1b, E1b, rfl, v1, B⟩; exact hK.out _ _ ⟨e1, K1, s1, M1, E1, K1b, s1b, M1b, E1b, rfl, v1⟩ B
   refine Jo.jm rfl ?_ ?_
   · rintro wj hJ K hK; simp only [Jo.z] at hK ⊢; go_simp; exact hK.out _ _ ⟨_, rfl, hJ.size, Bo.new _ _ _⟩ (bel1 _ _)
   exact Jo.Steps.nil
 rintro w2 hJ _ rfl _ ⟨K5, s5, M5, E5, rfl, q5⟩ _ rfl _ ⟨e6, K6, s6, M6, E6, K6b, s6b, M6b, E6b, rfl, v6⟩ _ ⟨_, _, rfl, _⟩ _ ⟨e1, K1, s1, M1, E1, K1b, s1b, M1b, E1b, rfl, v1⟩ _ ⟨g3, rfl, hg3, X3⟩ -; simp only [Jo.z]; replace X1 := X1.below hJ; replace XR := XR.below hJ; replace hT := hT.below hJ; replace HB := Hqb HB hJ; have xX3 := X3.cell
 have zX30 := X3.frozen
 refine Jo.jnext (i := 7) (o := ⟨none, _, _, _, _, _⟩) (by kernel_rfl) rfl (fun K hK => ?_)
 go_simp; refine hK.out _ _ ?_; clear hK K xX3 zX30; generalize hS : ((((((((w2.setCell _ _).setCell _ _).setCell _ _).setCell _ _).setCell _ _).setCell _ _).setCell _ _).setCell _ _).setCell _ _ = w3 at *; have SX := StN.of9 X3 hS; replace X1 := X1.stn SX (by omega); replace XR := XR.stn SX (by omega); replace hT := hT.stn SX (by simp [no8]); replace HB := Hqs HB SX (by omega)
 replace X3 := SX.box; clear SX hS; refine Jo.jdone (by kernel_rfl) ?_; clear HX HMM hM hM'; clear lt1
 rcases m with _ | ⟨ma, mb⟩
 · obtain ⟨rfl, y1, y1b⟩ := v1; go_wp2
   obtain rfl : none = z := hr
   obtain ⟨_, rfl, rfl, rfl, rfl, rfl, rfl, rfl, rfl⟩ := (show Ci true K1 s1 M1 E1 K1b s1b M1b E1b none from ⟨rfl, y1, y1b⟩).uniq Ci.none
   clear y1 y1b; refine Jo.rk [0, 1, 2] [some 14, some 15, some 16] [[], [], [0, 1]] 3 0 [Jo.q9 true 0 false 0 0 0 false 0 0, Jo.q9 true 0 false 0 0 0 false 0 0, Jo.qb true] (by kernel_rfl) (by kernel_rfl) (by decide) rfl ?_ ?_
   · refine Jo.jm rfl ?_ ?_
     · rintro wj hJ K hK; simp only [Jo.z] at hK ⊢; have xX3 := (X3.below hJ).cell; go_simp; exact hK.out _ _ rfl (br _ _)
     refine Jo.jm rfl ?_ ?_
     · rintro wj hJ K hK; simp only [Jo.z] at hK ⊢; go_simp; refine (kvNoneE).mono ?_; rintro ee wk ⟨rfl, B⟩; exact hK.out _ _ rfl B
     refine Jo.jm rfl ?_ ?_
     · rintro wj hJ _ rfl _ rfl K hK; simp only [Jo.z] at hK ⊢; go_simp
       repeat' split
       all_goals exact hK.out _ _ (congrArg Value.bool (by first | rfl | (exfalso; simp_all) | simp_all)) (br _ _)
     exact Jo.Steps.nil
   rintro w4 hJ _ rfl _ rfl _ rfl -; simp only [Jo.z]; replace XR := XR.below hJ; replace X3 := X3.below hJ; replace hT := hT.below hJ; replace HB := Hqb HB hJ; refine Jo.jdone (by kernel_rfl) ?_; have xXR := XR.cell; have zXR0 := XR.frozen; have xX3 := X3.cell; go_wp2; clear xXR zXR0 xX3
   have SX := StN.mk9 XR (.bool true) (.int .i64 0) (.bool false) (.int .u64 0) (.int .i64 0) (.int .i64 0) (.bool false) (.int .u64 0) (.int .i64 0); exact bodyPost_ret (by simp [results, Tryz.results48, go_sem, SX.box.cell]) rfl ⟨_, _, _, _, _, _, _, _, _, rfl, Ci.none, (SX.below HB.out (by omega))⟩
 · obtain ⟨rfl, a1, b1, o1, o1l, o1h⟩ := v1; obtain ⟨i1, i2⟩ := H0.out _ _ rfl; have e1 := hq false ma i1; have e2 := hq true mb (Int.le_trans i1 i2); obtain ⟨u, hu⟩ : ∃ u, r false ma = u := ⟨_, rfl⟩; obtain ⟨l, hl⟩ : ∃ l, r true mb = l := ⟨_, rfl⟩
   have hr2 : mkI u l = z := by rw [← hu, ← hl]; exact hr
   rw [hu] at e1; rw [hl] at e2; have HU := Lib.hid e1; have HL := Lib.hid e2; have HR := Lib.hid hr2; clear hu hl hr hr2 e1 e2 i1 i2 o1 o1l o1h; go_wp2; refine Jo.rk [0, 1, 2] [some 14, some 15, some 16] [[], [], [0, 1]] 3 0 [Jo.q9 false K1 s1 M1 E1 K1b s1b M1b E1b, Jo.q9 true 0 false 0 0 0 false 0 0, Jo.qb false] (by kernel_rfl) (by kernel_rfl) (by decide) rfl ?_ ?_
   · refine Jo.jm rfl ?_ ?_
     · rintro wj hJ K hK; simp only [Jo.z] at hK ⊢; have xX3 := (X3.below hJ).cell; go_simp; exact hK.out _ _ rfl (br _ _)
     refine Jo.jm rfl ?_ ?_
     · rintro wj hJ K hK; simp only [Jo.z] at hK ⊢; go_simp; refine (kvNoneE).mono ?_; rintro ee wk ⟨rfl, B⟩; exact hK.out _ _ rfl B
     refine Jo.jm rfl ?_ ?_
     · rintro wj hJ _ rfl _ rfl K hK; simp only [Jo.z] at hK ⊢; go_simp
       repeat' split
       all_goals exact hK.out _ _ (congrArg Value.bool (by first | rfl | (exfalso; simp_all))) (br _ _)
     exact Jo.Steps.nil
   rintro w4 hJ _ rfl _ rfl _ rfl -; simp only [Jo.z]; replace XR := XR.below hJ; replace X3 := X3.below hJ; replace hT := hT.below hJ; replace HB := Hqb HB hJ; refine Jo.jdone (by kernel_rfl) ?_; have xX3 := X3.cell
   go_wp2_with fail
   refine (kRoot hT a1.top a1.rk HU.out).mono ?_; rintro ee w5 ⟨K2, s2, M2, E2, rfl, q2, B⟩; clear xX3; replace XR := XR.below B; replace X3 := X3.below B; replace hT := hT.below B; replace HB := Hqb HB B; clear B
   go_upto_region 5 with (fail)
   have lX4 := Nat.le_refl (World.heap w5).size; have nX4XR := XR.lt; have nX4X3 := X3.lt; generalize hWn : w5.alloc _ = w6 at *; obtain ⟨X4, BW⟩ := Bo.nw hWn; clear hWn; replace XR := XR.below BW; replace X3 := X3.below BW; replace hT := hT.below BW; replace HB := Hqb HB BW; clear BW; clear lX4; have xX3 := X3.cell
   go_wp2_with fail
   refine (kRoot hT b1.top b1.rk HL.out).mono ?_; rintro ee w7 ⟨K3, s3, M3, E3, rfl, q3, B⟩; clear xX3; replace XR := XR.below B; replace X3 := X3.below B; replace X4 := X4.below B; replace hT := hT.below B; replace HB := Hqb HB B; clear B
   go_upto_region 6 with (fail)
   have lX6 := Nat.le_refl (World.heap w7).size; have nX6XR := XR.lt; have nX6X3 := X3.lt; have nX6X4 := X4.lt; generalize hWn : w7.alloc _ = w8 at *; obtain ⟨X6, BW⟩ := Bo.nw hWn; clear hWn; replace XR := XR.below BW; replace X3 := X3.below BW; replace X4 := X4.below BW; replace hT := hT.below BW; replace HB := Hqb HB BW; clear BW; clear lX6; have xX4 := X4.cell
   have xX6 := X6.cell
   go_wp2_with fail
   refine (kvMake q2.top q3.top q2.rk q3.rk HR.out).mono ?_; rintro ee w9 ⟨e4, K4, s4, M4, E4, K4b, s4b, M4b, E4b, rfl, v4, B⟩; clear xX4 xX6; replace XR := XR.below B; replace X3 := X3.below B; replace X4 := X4.below B; replace X6 := X6.below B; replace hT := hT.below B; replace HB := Hqb HB B; clear B; clear hT; have xXR := XR.cell
   have zXR0 := XR.frozen; go_wp2; clear xXR zXR0; have SX := StN.mk9 XR (.bool e4) (.int .i64 K4) (.bool s4) (.int .u64 M4) (.int .i64 E4) (.int .i64 K4b) (.bool s4b) (.int .u64 M4b) (.int .i64 E4b); exact bodyPost_ret (by simp [results, Tryz.results48, go_sem, SX.box.cell]) rfl ⟨_, _, _, _, _, _, _, _, _, rfl, v4, (SX.below HB.out (by omega))⟩
def PV2 (w : World) (x y : Sp) (e : Ending) (w' : World) : Prop := ∃ e0 K s M E K' s' M' E' e1 G g P Q G' g' P' Q', e = .returned (.tuple #[.agg #[.bool e0, .int .i64 K, .bool s, .int .u64 M, .int .i64 E, .int .i64 K', .bool s', .int .u64 M', .int .i64 E'], .agg #[.bool e1, .int .i64 G, .bool g, .int .u64 P, .int .i64 Q, .int .i64 G', .bool g', .int .u64 P', .int .i64 Q']]) ∧ Ci e0 K s M E K' s' M' E' x ∧ Ci e1 G g P Q G' g' P' Q' y ∧ Below w.heap.size w w'
end Go.Proofs.YtnbliijpjcmbjaaGreatDoor
