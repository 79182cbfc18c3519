/-
 Contracts that the proof rests on.
-/
import Derived.Test.YtnbliijpjcmbjaaGreatDoorYPbd
namespace Go.Proofs.YtnbliijpjcmbjaaGreatDoor
open Go.RowKit
set_option linter.unusedVariables false
set_option linter.unusedSimpArgs false
set_option maxRecDepth 100000
theorem Nl.lit2 {W : World} {g : Nat} {D1 D2 M1 M2 E1 E2 r1 r2 : Int} {s1 s2 : Bool} (hg : W.heap.size = g) (h1 : LQ M1) (h2 : LQ M2) (k1 : rk D1 s1 M1 E1 = r1) (k2 : rk D2 s2 M2 E2 = r2) :
   Nl (W.alloc (.cells #[.int .i64 D1, .bool s1, .int .u64 M1, .int .i64 E1, .int .i64 D2, .bool s2, .int .u64 M2, .int .i64 E2] 24)) (some ⟨g, 0, none⟩) 2 2 [r1, r2] := by
 subst hg; have hh := heap_alloc_new W (.cells #[.int .i64 D1, .bool s1, .int .u64 M1, .int .i64 E1, .int .i64 D2, .bool s2, .int .u64 M2, .int .i64 E2] 24)
 refine ⟨rfl, Nat.le_refl _, by decide, fun _ => ⟨_, 0, rfl, fun k hk => ?_⟩⟩
 rcases (by omega : k = 0 ∨ k = 1) with rfl | rfl
 · exact ⟨D1, s1, M1, E1, by rw [cell_of_row _ _ _ _ _ _ hh]; rfl, by rw [cell_of_row _ _ _ _ _ _ hh]; rfl, by rw [cell_of_row _ _ _ _ _ _ hh]; rfl, by rw [cell_of_row _ _ _ _ _ _ hh]; rfl, h1, k1⟩
 · exact ⟨D2, s2, M2, E2, by rw [cell_of_row _ _ _ _ _ _ hh]; rfl, by rw [cell_of_row _ _ _ _ _ _ hh]; rfl, by rw [cell_of_row _ _ _ _ _ _ hh]; rfl, by rw [cell_of_row _ _ _ _ _ _ hh]; rfl, h2, k2⟩
theorem mnp_two {a b : Int} (ha : a ≤ 19342822337206103650074625) : mnp [a, b] = min a b := by
 have := TP_eq
 show min (min TP a) b = _
 omega
theorem mxp_two {a b : Int} (ha : -19342822337206103650074625 ≤ a) : mxp [a, b] = max a b := by
 have := TP_eq
 show max (max (-TP) a) b = _
 omega
set_option maxHeartbeats 2000000 in
theorem jvTwo {w : World} {e : Bool} {D M E D' M' E' : Int} {s s' : Bool} {e2 : Bool} {G P Q G' P' Q' : Int} {g g' : Bool} {x y z : Sp} (hM : LQ M) (hM' : LQ M') (hP : LQ P) (hP' : LQ P') (hx : rkI e D s M E D' s' M' E' = x) (hy : rkI e2 G g P Q G' g' P' Q' = y) (hr : meetI x y = z) : Calls Tryz.prog 38 #[VI e D s M E D' s' M' E', VI e2 G g P Q G' g' P' Q'] w (PV w z) := by
 delta VI
 have HX := Lib.hid hx; have HY := Lib.hid hy; clear hx hy
 go_enter Tryz.func38, Tryz.ntmps38
 go_upto_region 1 with (fail)
 generalize hW1 : ((w.alloc _).alloc _).alloc _ = w1 at *; obtain ⟨X2, X3, XR, HB⟩ := Bo.en3 hW1; clear hW1; have xX2 := X2.cell
 go_wp2_with fail
 refine (jvFair hM hM' HX.out).mono ?_; rintro ee w2 ⟨e1, K1, s1, M1, E1, K1b, s1b, M1b, E1b, rfl, v1, B⟩; clear xX2; replace X2 := X2.below B; replace X3 := X3.below B; replace XR := XR.below B; replace HB := Hqb HB B; clear B
 go_upto_region 2 with (fail)
 have lX5 := Nat.le_refl (World.heap w2).size; have nX5X2 := X2.lt; have nX5X3 := X3.lt; have nX5XR := XR.lt; generalize hWn : w2.alloc _ = w3 at *; obtain ⟨X5, BW⟩ := Bo.nw hWn; clear hWn; replace X2 := X2.below BW; replace X3 := X3.below BW; replace XR := XR.below BW; replace HB := Hqb HB BW; clear BW; clear lX5; have xX3 := X3.cell
 go_wp2_with fail
 refine (jvFair hP hP' HY.out).mono ?_; rintro ee w4 ⟨e2, K2, s2, M2, E2, K2b, s2b, M2b, E2b, rfl, v2, B⟩; clear xX3; replace X2 := X2.below B; replace X3 := X3.below B; replace XR := XR.below B; replace X5 := X5.below B; replace HB := Hqb HB B; clear B
 go_upto_region 3 with (fail)
 have lX6 := Nat.le_refl (World.heap w4).size; have nX6X2 := X2.lt; have nX6X3 := X3.lt; have nX6XR := XR.lt; have nX6X5 := X5.lt; generalize hWn : w4.alloc _ = w5 at *; obtain ⟨X6, BW⟩ := Bo.nw hWn; clear hWn; replace X2 := X2.below BW; replace X3 := X3.below BW; replace XR := XR.below BW; replace X5 := X5.below BW; replace HB := Hqb HB BW; clear BW; clear lX6; clear HX HY hM hM' hP hP'
 rcases x with _ | ⟨xa, xb⟩
 · obtain ⟨rfl, y1, y1b⟩ := v1
   obtain rfl : none = z := hr
   have xX5 := X5.cell; have xX6 := X6.cell
   go_wp2_with fail
   refine (jvNoneE).mono ?_; rintro ee w7 ⟨rfl, B⟩; clear xX5 xX6; replace XR := XR.below B; replace X5 := X5.below B; replace X6 := X6.below B; replace HB := Hqb HB B; clear B; have xXR := XR.cell; have zXR0 := XR.frozen; go_wp2; clear xXR zXR0
   have SX := StN.mk9 XR (.bool true) (.int .i64 0) (.bool false) (.int .u64 0) (.int .i64 0) (.int .i64 0) (.bool false) (.int .u64 0) (.int .i64 0); exact bodyPost_ret (by simp [results, Tryz.results38, go_sem, SX.box.cell]) rfl ⟨_, _, _, _, _, _, _, _, _, rfl, Ci.none, (SX.below HB.out (by omega))⟩
 · obtain ⟨rfl, a1, b1, o1, o1l, o1h⟩ := v1
   rcases y with _ | ⟨ya, yb⟩
   · obtain ⟨rfl, y2, y2b⟩ := v2; clear o1 o1l o1h
     obtain rfl : none = z := hr
     have xX5 := X5.cell; have xX6 := X6.cell
     go_wp2_with fail
     refine (jvNoneE).mono ?_; rintro ee w7 ⟨rfl, B⟩; clear xX5 xX6; replace XR := XR.below B; replace X5 := X5.below B; replace X6 := X6.below B; replace HB := Hqb HB B; clear B; have xXR := XR.cell; have zXR0 := XR.frozen; go_wp2; clear xXR zXR0
     have SX := StN.mk9 XR (.bool true) (.int .i64 0) (.bool false) (.int .u64 0) (.int .i64 0) (.int .i64 0) (.bool false) (.int .u64 0) (.int .i64 0); exact bodyPost_ret (by simp [results, Tryz.results38, go_sem, SX.box.cell]) rfl ⟨_, _, _, _, _, _, _, _, _, rfl, Ci.none, (SX.below HB.out (by omega))⟩
   · obtain ⟨rfl, a2, b2, o2, o2l, o2h⟩ := v2
     have hu : mxp [xa, ya] = max xa ya := mxp_two a1.bd.1
     have hl : mnp [xb, yb] = min xb yb := mnp_two b1.bd.2
     obtain ⟨u, hu2⟩ : ∃ u, max xa ya = u := ⟨_, rfl⟩; obtain ⟨l, hl2⟩ : ∃ l, min xb yb = l := ⟨_, rfl⟩
     have hr2 : mkI u l = z := by rw [← hu2, ← hl2]; exact hr
     rw [hu2] at hu; rw [hl2] at hl; have HU := Lib.hid hu; have HL := Lib.hid hl; have HR := Lib.hid hr2; clear hu hl hu2 hl2 hr hr2 o1 o1l o1h o2 o2l o2h; have xX5 := X5.cell; have xX6 := X6.cell
     go_upto_region 5 with (fail)
     clear xX5 xX6; refine Jo.rk [0, 1, 2, 3, 4, 5, 6, 7, 8, 9, 10, 11, 12] [some 18, some 19, some 20, some 21, some 22, some 23, some 24, some 25, some 26, some 27, some 28, some 29, some 30, none] [[], [0], [], [2], [1, 3], [4], [], [6], [], [8], [7, 9], [10], [5, 11], []] 14 1 [Jo.qp w2.heap.size 1, Jo.q4 K1 s1 M1 E1, Jo.qp w4.heap.size 1, Jo.q4 K2 s2 M2 E2, Jo.Fact.nl 2 [xa, ya], Jo.Fact.num u, Jo.qp w2.heap.size 5, Jo.q4 K1b s1b M1b E1b, Jo.qp w4.heap.size 5, Jo.q4 K2b s2b M2b E2b, Jo.Fact.nl 2 [xb, yb], Jo.Fact.num l, Jo.Fact.iv z, Jo.Fact.any] (by kernel_rfl) (by kernel_rfl) (by decide) rfl ?_ ?_
     · iterate 4 (refine Jo.jm rfl ?_ ?_; rotate_left)
       refine Jo.jm rfl ?_ ?_
       · rintro wj hJ _ rfl _ rfl K hK; simp only [Jo.z] at hK ⊢; go_simp; exact hK.out _ _ ⟨_, 2, rfl, Nl.lit2 rfl a1.top a2.top a1.rk a2.rk⟩ (bel1 _ _)
       refine Jo.jm rfl ?_ ?_
       · rintro wj hJ _ ⟨A4, c4, rfl, h4⟩ K hK; simp only [Jo.z] at hK ⊢; go_simp; refine (yMost h4 HU.out).mono ?_; rintro ee wk ⟨K3, s3, M3, E3, rfl, q3, B⟩; exact hK.out _ _ ⟨K3, s3, M3, E3, rfl, q3⟩ B
       iterate 4 (refine Jo.jm rfl ?_ ?_; rotate_left)
       refine Jo.jm rfl ?_ ?_
       · rintro wj hJ _ rfl _ rfl K hK; simp only [Jo.z] at hK ⊢; go_simp; exact hK.out _ _ ⟨_, 2, rfl, Nl.lit2 rfl b1.top b2.top b1.rk b2.rk⟩ (bel1 _ _)
       refine Jo.jm rfl ?_ ?_
       · rintro wj hJ _ ⟨A5, c5, rfl, h5⟩ K hK; simp only [Jo.z] at hK ⊢; go_simp; refine (yLeast h5 HL.out).mono ?_; rintro ee wk ⟨K4, s4, M4, E4, rfl, q4, B⟩; exact hK.out _ _ ⟨K4, s4, M4, E4, rfl, q4⟩ B
       refine Jo.jm rfl ?_ ?_
       · rintro wj hJ _ ⟨K3, s3, M3, E3, rfl, q3⟩ _ ⟨K4, s4, M4, E4, rfl, q4⟩ K hK; simp only [Jo.z] at hK ⊢; go_simp; refine (jvMake q3.top q4.top q3.rk q4.rk HR.out).mono ?_; rintro ee wk ⟨e5, K5, s5, M5, E5, K5b, s5b, M5b, E5b, rfl, v5, B⟩; exact hK.out _ _ ⟨e5, K5, s5, M5, E5, K5b, s5b, M5b, E5b, rfl, v5⟩ B
       exact Jo.Steps.nil
       all_goals (rintro wj hJ; (repeat rintro _ rfl); intro K hK; simp only [Jo.z] at hK ⊢; have xX5 := (X5.below hJ).cell; have xX6 := (X6.below hJ).cell; go_simp; exact hK.out _ _ rfl (br _ _))
     rintro w8 hJ _ _ _ rfl _ _ _ rfl _ ⟨A4, c4, rfl, _⟩ _ ⟨K3, s3, M3, E3, rfl, q3⟩ _ _ _ rfl _ _ _ rfl _ ⟨A5, c5, rfl, _⟩ _ ⟨K4, s4, M4, E4, rfl, q4⟩ _ ⟨e5, K5, s5, M5, E5, K5b, s5b, M5b, E5b, rfl, v5⟩ -; simp only [Jo.z]; replace XR := XR.below hJ; replace X5 := X5.below hJ; replace X6 := X6.below hJ; replace HB := Hqb HB hJ; have xXR := XR.cell
     have zXR0 := XR.frozen
     refine Jo.jnext (i := 13) (o := ⟨none, _, _, _, _, _⟩) (by kernel_rfl) rfl (fun K hK => ?_)
     go_simp; refine hK.out _ _ ?_; clear hK K xXR zXR0; have SX := StN.mk9 XR (.bool e5) (.int .i64 K5) (.bool s5) (.int .u64 M5) (.int .i64 E5) (.int .i64 K5b) (.bool s5b) (.int .u64 M5b) (.int .i64 E5b); refine Jo.jdone (by kernel_rfl) ?_; go_wp2; exact bodyPost_ret (by simp [results, Tryz.results38, go_sem, SX.box.cell]) rfl ⟨_, _, _, _, _, _, _, _, _, rfl, v5, (SX.below HB.out (by omega))⟩
theorem infoNum : (Tryz.prog.info? 24).map (fun i => (i.zero, i.size, i.bytes)) = some (some (.agg #[.int .i64 0, .bool false, .int .u64 0, .int .i64 0]), 4, 32) := by kernel_rfl
section
variable {w w' : World} {base n c : Nat} {A : Option Addr} {l : List Int}
def ownA (A : Option Addr) : Option Nat := A.map (·.block)
theorem own_eq (A : Option Addr) (n c : Nat) : (Value.slice A n c).ownBlock = ownA A := by cases A <;> rfl
theorem Na.kept {row : Option Nat} (h : Na w base A n c l) (hg : w.grownBy w' row) (hne : ownA A = none ∨ ownA A ≠ row) : Na w' base A n c l := by
 obtain ⟨r, h1, h2⟩ := h; exact ⟨r, h1.kept hg (by rw [own_eq]; exact hne), h2⟩
theorem Na.own_lt (h : Na w base A n c l) : ∀ k, ownA A = some k → base ≤ k ∧ k < w.heap.size := by
 obtain ⟨r, h1, h2⟩ := h
 intro k hk
 exact h1.lt k (by rw [own_eq]; exact hk)
theorem run_na {ty : TypeId} {g : Nat} {K M E a : Int} {s : Bool} (h : Na w base A n c l) (q : Fq K s M E a) (X : Bo w g #[.int .i64 K, .bool s, .int .u64 M, .int .i64 E] 24) (hn : n + 1 ≤ 1099511627776) (hb : base ≤ w.heap.size) :
   ∃ A2 c2 w', (Builtin.append_ #[54, 54] ty #[.slice A n c, .slice (some ⟨g, 0, none⟩) 1 1]).run Tryz.prog w = .ok (.slice A2 (n + 1) c2) w' ∧ Na w' base A2 (n + 1) c2 (l ++ [a]) ∧ w.grownBy w' (ownA A) ∧ (ownA A2 = ownA A ∨ ownA A2 = some w.heap.size) := by
 obtain ⟨i, hi, hz, hsi, hby⟩ := info_parts infoNum; obtain ⟨r, h1, h2, h3, h4⟩ := h
 obtain ⟨v', w', hr, ho, hg, _, hat⟩ := run_append_own_at (P := Tryz.prog) w base 54 ty 24 i _ 4 32 Tryz.underlying54 hi hz hsi hby rfl (by decide) _ n (nrow r) h1 ⟨g, 0, none⟩ 1 1 (nrow [(K, s, M, E)]) rfl (by
   intro j u hj
   have hc := X.cell
   rcases j with _ | _ | _ | _ | j
   · cases hj
     exact hc 0
   · cases hj
     exact hc 1
   · cases hj
     exact hc 2
   · cases hj
     exact hc 3
   · cases hj) (by
   intro u hu
   simp only [nrow, List.mem_cons, List.not_mem_nil, or_false] at hu
   rcases hu with rfl | rfl | rfl | rfl <;> rfl) (by unfold maxLen; omega) (by omega) hb
 rw [own_eq] at hg hat; rw [← nrow_append] at ho
 obtain ⟨A2, c2, rfl⟩ : ∃ A2 c2, v' = .slice A2 (n + 1) c2 := by
   rcases ho.2 with ⟨_, h0⟩ | ⟨g', cap', cur', hv, _⟩
   · omega
   · exact ⟨_, _, hv⟩
 rw [own_eq] at hat
 refine ⟨A2, c2, w', hr, ⟨_, ho, by rw [List.length_append, h2]; rfl, by rw [List.length_append, h3]; rfl, fun k hk => ?_⟩, hg, hat⟩
 by_cases hkn : k < n
 · obtain ⟨K1, s1, M1, E1, hq, qq⟩ := h4 k hkn; refine ⟨K1, s1, M1, E1, by rw [List.getElem?_append_left (by omega)]; exact hq, ?_⟩
   rw [List.getD_eq_getElem?_getD, List.getElem?_append_left (by omega), ← List.getD_eq_getElem?_getD]; exact qq
 · obtain rfl : k = n := by omega
   refine ⟨K, s, M, E, by rw [List.getElem?_append_right (by omega), h2]; simp, ?_⟩
   rw [List.getD_eq_getElem?_getD, List.getElem?_append_right (by omega), h3]
   simpa using q
theorem wpList_na {ops : Array Oper} {rest : List Oper} {o : Oper} {a : Act} {Q : Exit → Act → World → Prop} (hgd : o.guard = none) (s x : Operand)
   (ho : o.op = .call { callee := .builtin .append, args := #[s, x], argTypes := #[54, 54] }) {g : Nat} {K M E p : Int} {b : Bool}
   (hs : a.eval s = .slice A n c) (hx : a.eval x = .slice (some ⟨g, 0, none⟩) 1 1) (h : Na w base A n c l) (q : Fq K b M E p) (X : Bo w g #[.int .i64 K, .bool b, .int .u64 M, .int .i64 E] 24) (hn : n + 1 ≤ 1099511627776) (hb : base ≤ w.heap.size)
   (hK : ∀ A2 c2 w', Na w' base A2 (n + 1) c2 (l ++ [p]) → w.grownBy w' (ownA A) → (ownA A2 = ownA A ∨ ownA A2 = some w.heap.size) → wpList Tryz.prog ops Q rest (a.put o.dst (.slice A2 (n + 1) c2)) w') : wpList Tryz.prog ops Q (o :: rest) a w := by
 refine wpList_plain hgd fun K hK2 => ?_
 obtain ⟨A2, c2, w', hr, h1, h2, h3⟩ := run_na (ty := o.type) h q X hn hb
 unfold Oper.wp execOp
 simp only [ho, resolve, invoke, builtin, Sem.run_bind, Sem.run_pure, Result.andThen_ok, List.map_toArray, List.map_cons, List.map_nil, hs, hx, hr]; exact hK2 _ _ (hK A2 c2 w' h1 h2 h3)
end
end Go.Proofs.YtnbliijpjcmbjaaGreatDoor
