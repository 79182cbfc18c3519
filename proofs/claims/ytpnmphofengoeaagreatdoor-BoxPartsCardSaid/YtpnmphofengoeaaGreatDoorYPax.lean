/-
  Contracts and words that the statement's proof rests on: Xc.
-/
import Derived.Laws.CopyRow
import Derived.Lib.SliceRun
import Derived.Test.YtpnmphofengoeaaGreatDoorYPav
namespace Go.Proofs.YtpnmphofengoeaaGreatDoor
set_option maxHeartbeats 8000000
open Go.RowKit
set_option linter.unusedVariables false
set_option linter.unusedSimpArgs false
set_option maxRecDepth 100000

theorem mayI_no2 {D M E D' M' E' : Int} {s s' : Bool} : mayI false D s M E D' s' M' E' = decide (rkI false D s M E D' s' M' E' ≠ none) := if_neg ff
theorem bxEmp_take {l : List Sp} {k : Nat} (h : k < l.length) : bxEmp (l.take (k + 1)) = (bxEmp (l.take k) || decide (l.getD k none = none)) := by
  rw [List.take_succ_eq_append_getElem h, bxEmp_app, List.getD_eq_getElem?_getD, List.getElem?_eq_getElem h]
  show (_ || (_ || false)) = _
  rw [Bool.or_false]
  rfl
theorem bxEmp_hit {l : List Sp} {k : Nat} (h : k < l.length) (e : l.getD k none = none) : bxEmp l = true := by
  rw [bxEmp_iff]; rw [List.getD_eq_getElem?_getD, List.getElem?_eq_getElem h] at e; exact e ▸ List.getElem_mem h
theorem kxOne_t {w : World} {D M E D' M' E' : Int} {s s' : Bool} (hM : M < 18446744073709551616) (hM' : M' < 18446744073709551616) : Calls Tryz.prog 31 #[.agg #[.bool true, .int .i64 D, .bool s, .int .u64 M, .int .i64 E, .int .i64 D', .bool s', .int .u64 M', .int .i64 E']] w (PB w true) := by
  go_enter Tryz.func31, Tryz.ntmps31
  go_upto_region 1 with (fail)
  generalize hW1 : w.alloc _ = w1 at *; obtain ⟨X1, HB⟩ := Bo.en1 hW1; clear hW1; have xX1 := X1.cell; go_wp2
  go_ret
  exact ⟨rfl, HB.out⟩
theorem kxOne_f {w : World} {D M E D' M' E' : Int} {s s' : Bool} {a b : Bool} (hM : M < 18446744073709551616) (hM' : M' < 18446744073709551616) (ha : mayI false D s M E D' s' M' E' = a) (hb : (!a) = b) : Calls Tryz.prog 31 #[.agg #[.bool false, .int .i64 D, .bool s, .int .u64 M, .int .i64 E, .int .i64 D', .bool s', .int .u64 M', .int .i64 E']] w (PB w b) := by
  go_enter Tryz.func31, Tryz.ntmps31
  go_upto_region 1 with (fail)
  generalize hW1 : w.alloc _ = w1 at *; obtain ⟨X1, HB⟩ := Bo.en1 hW1; clear hW1; have HA := Lib.hid ha; clear ha; have xX1 := X1.cell
  go_wp2_with fail
  refine (kvMay hM hM' HA.out).mono ?_; rintro ee w2 ⟨rfl, B⟩; clear xX1; replace X1 := X1.below B; replace HB := Hqb HB B; clear B; subst hb; go_wp2
  go_ret
  exact ⟨rfl, HB.out⟩
theorem kxOne {w : World} {e : Bool} {D M E D' M' E' : Int} {s s' : Bool} {x : Sp} {b : Bool} (hM : M < 18446744073709551616) (hM' : M' < 18446744073709551616) (hx : rkI e D s M E D' s' M' E' = x) (hb : decide (x = none) = b) : Calls Tryz.prog 31 #[.agg #[.bool e, .int .i64 D, .bool s, .int .u64 M, .int .i64 E, .int .i64 D', .bool s', .int .u64 M', .int .i64 E']] w (PB w b) := by
  subst hx; subst hb
  cases e
  · refine kxOne_f hM hM' mayI_no2 ?_; rw [Bool.eq_iff_iff]
    simp
  · rw [show rkI true D s M E D' s' M' E' = none from rkI_t]
    exact kxOne_t hM hM'
def EmInv (w : World) (l : List Sp) (k : Nat) (wr : World) : Prop := bxEmp (l.take k) = false ∧ Below w.heap.size w wr
theorem kxIdx {w : World} {A : Option Addr} {n c : Nat} {l : List Sp} (h : Il8 w A n c l) : Calls Tryz.prog 55 #[.slice A n c, .func (.func 31) #[] #[]] w (fun e w' => ∃ j : Int, e = .returned (.int .i64 j) ∧ decide (0 ≤ j) = bxEmp l ∧ Below w.heap.size w w') := by
  have HLn := Lib.hid h.1; have hcap := h.2.1; have hbig := h.2.2.1; have hD0 := h; clear h
  go_enter Tryz.func55, Tryz.ntmps55
  go_wp2
  go_loopw [5, 8] (fun _ i wr => ∃ k, k ≤ n ∧ i = .int .i64 ((k : Nat) : Int) ∧ EmInv w l k wr) (fun _ i _ => n - (intOf i).toNat)
  case atStart => exact ⟨0, Nat.zero_le _, rfl, rfl, Below.refl _ _⟩
  case round =>
    obtain ⟨k, hk, rfl, hE, hB⟩ := hrel; have HB := Lib.hid hB; have HE := Lib.hid hE; clear hB hE
    by_cases hlt : k < n
    · have tlt : decide ((k : Int) < (n : Int)) = true := by simp; omega
      have h := hD0.below HB.out; obtain ⟨b, o, rfl, hcell⟩ := h.2.2.2 (by omega); obtain ⟨e, D, s, M, E, D', s', M', E', x0, x1, x2, x3, x4, x5, x6, x7, x8, hM, hM', hx⟩ := hcell k hlt; clear hcell h hD0
      have i1 : (k : Int) < n := by omega
      have i2 : (0 : Int) ≤ k := by omega
      have hs := bxEmp_take (l := l) (k := k) (by rw [HLn.out]; exact hlt); rw [← hx, HE.out, Bool.false_or] at hs; obtain ⟨b1, hb1⟩ : ∃ b1, decide (rkI e D s M E D' s' M' E' = none) = b1 := ⟨_, rfl⟩; rw [hb1] at hs; have HB1 := Lib.hid hb1; have HS := Lib.hid hs; have HX := Lib.hid hx; clear hb1 hs hx
      cases b1
      · go_wp2_with fail
        refine (kxOne hM hM' rfl HB1.out).mono ?_; rintro ee w3 ⟨rfl, B⟩; clear x0 x1 x2 x3 x4 x5 x6 x7 x8; go_wp2
        go_roundw
        case rel => exact ⟨k + 1, by omega, by go_num, HS.out, bt HB.out B⟩
        case measure => simp [intOf]; omega
      · go_wp2_with fail
        refine (kxOne hM hM' rfl HB1.out).mono ?_; rintro ee w3 ⟨rfl, B⟩; clear x0 x1 x2 x3 x4 x5 x6 x7 x8; go_wp2
        go_ret
        exact ⟨(k : Int), rfl, by rw [bxEmp_hit (k := k) (by rw [HLn.out]; exact hlt) (by rw [← HX.out]; exact of_decide_eq_true HB1.out)]; simp, bt HB.out B⟩
    · obtain rfl : k = n := by omega
      have tlt : decide ((k : Int) < (k : Int)) = false := by simp
      have e1 : l.take k = l := List.take_of_length_le (by rw [HLn.out]; omega)
      have HE2 := HE.out; rw [e1] at HE2; have HE3 := Lib.hid HE2; clear HE HE2 e1; go_wp2
      go_ret
      exact ⟨-1, rfl, by rw [HE3.out]; rfl, HB.out⟩
theorem kxCont {w : World} {A : Option Addr} {n c : Nat} {l : List Sp} {r : Bool} (h : Il8 w A n c l) (hr : bxEmp l = r) : Calls Tryz.prog 30 #[.slice A n c, .func (.func 31) #[] #[]] w (PB w r) := by
  subst hr
  go_enter Tryz.func30, Tryz.ntmps30
  go_wp2_with fail
  refine (kxIdx h).mono ?_; rintro ee w2 ⟨j, rfl, hj, B⟩; have HJ := Lib.hid hj; clear hj h; go_wp2
  go_ret
  exact ⟨by rw [HJ.out]; rfl, B⟩
theorem kxEmpty {w : World} {A : Option Addr} {n c : Nat} {l : List Sp} {r : Bool} (h : Il8 w A n c l) (hr : bxEmp l = r) : Calls Tryz.prog 13 #[.slice A n c] w (PB w r) := by
  have HR := Lib.hid hr; clear hr
  go_enter Tryz.func13, Tryz.ntmps13
  go_wp2_with fail
  refine (kxCont h HR.out).mono ?_; rintro ee w2 ⟨rfl, B⟩; clear h HR; go_wp2
  go_ret
  exact ⟨rfl, B⟩
theorem eqlNilI (w : World) (a : Option Addr) (n c n' c' : Nat) : (binOp .eql 22 (.slice a n c) (.slice none n' c')).run Tryz.prog w = .ok (.bool a.isNone) w := Lib.run_eql_slice_nil w _ _ a n c n' c' Tryz.underlying22
theorem kxClone {w : World} {A : Option Addr} {n c : Nat} {r : List V9} (h : Iq w A n c r) (hn : n ≤ 1000000) : Calls Tryz.prog 15 #[.slice A n c] w (fun e w' => ∃ A2 c2, e = .returned (.slice A2 n c2) ∧ Io w' w.heap.size A2 n c2 r ∧ Below w.heap.size w w') := by
  have q22 := eqlNilI
  rcases A with _ | a
  · have h0 : n = 0 := by
      rcases Nat.eq_zero_or_pos n with h0 | h0
      · exact h0
      · obtain ⟨b, o, e, _⟩ := h.2.2.2.2 h0
        cases e
    subst h0
    have hr : r = [] := List.eq_nil_of_length_eq_zero h.1
    subst hr; clear h
    go_enter Tryz.func15, Tryz.ntmps15
    go_wp2
    go_ret
    exact ⟨none, 0, rfl, Io.nil _ _, Below.refl _ _⟩
  · go_enter Tryz.func15, Tryz.ntmps15
    go_wp2_with (at_builtin; refine wpList_io rfl _ _ rfl rfl rfl (Io.made w #[] 0 (Nat.zero_le _) rfl (Nat.le_refl _)) (h.below (bel1 _ _)) (by omega) (by simp) ?_; intro A2 c2 w7 N1 G1 at1)
    rw [Nat.zero_add, List.nil_append] at N1; have HN := Lib.hid N1
    have HB := Lib.hid (((Below.refl w.heap.size w).alloc (Nat.le_refl _) _).grown G1 (by simp) (fun k hk => by cases hk; exact Nat.le_refl _))
    clear N1 G1 at1 h; go_wp2
    go_ret
    exact ⟨A2, c2, rfl, HN.out, HB.out⟩
theorem kxMul {w : World} {X Y L : Int} (hX : 0 ≤ X) (hX1 : X < 18446744073709551616) (hY : 0 ≤ Y) (hY1 : Y < 18446744073709551616) (hL : X * Y = L) (h0 : 0 ≤ L) (hL1 : L < 18446744073709551616) : Calls Tryz.prog 59 #[.int .u64 X, .int .u64 Y] w (fun e w' => e = .returned (.tuple #[.int .u64 0, .int .u64 L]) ∧ Below w.heap.size w w') := by
  have h1 : X * Y / 18446744073709551616 = 0 := by rw [hL]; omega
  have h2 : X * Y % 18446744073709551616 = L := by rw [hL]; omega
  have H1 := Lib.hid h1; have H2 := Lib.hid h2; clear h1 h2 hL h0 hL1
  go_enter Tryz.func59, Tryz.ntmps59
  go_wp2_with fail
  refine (aMul64 w hX hX1 hY hY1 H1.out H2.out).mono ?_; rintro ee w2 ⟨rfl, B⟩; go_wp2
  go_ret2
  exact ⟨rfl, B⟩
def Z9 : V9 := (false, 0, false, 0, 0, 0, false, 0, 0)
theorem made_vrow (n : Nat) : madeCells #[.bool false, .int .i64 0, .bool false, .int .u64 0, .int .i64 0, .int .i64 0, .bool false, .int .u64 0, .int .i64 0] (n * 9) = (vrow (List.replicate n Z9)).toArray := by
  unfold madeCells
  apply Array.ext
  · simp [vrow_len]
  · intro j h1 h2
    rw [Array.size_map, Array.size_range] at h1
    have hk : (List.replicate n Z9)[j / 9]? = some Z9 := by
      rw [List.getElem?_replicate, if_pos (by omega)]
    obtain ⟨c0, c1, c2, c3, c4, c5, c6, c7, c8⟩ := vrow_getD (List.replicate n Z9) (j / 9) (by rw [List.length_replicate]; omega) Z9 hk
    have e : (vrow (List.replicate n Z9)).toArray[j] = (vrow (List.replicate n Z9))[j]'(by simpa using h2) := by simp
    rw [e]
    have e2 : (vrow (List.replicate n Z9))[j]? = some ((vrow (List.replicate n Z9))[j]'(by simpa using h2)) := List.getElem?_eq_getElem _
    generalize (vrow (List.replicate n Z9))[j]'(by simpa using h2) = u at e2; rw [Array.getElem_map, Array.getElem_range]
    have hj : j = j / 9 * 9 + j % 9 := by omega
    have hm : j % 9 < 9 := Nat.mod_lt _ (by decide)
    generalize j / 9 = k at *; obtain ⟨i, hi⟩ : ∃ i, j % 9 = i := ⟨_, rfl⟩
    show (#[.bool false, .int .i64 0, .bool false, .int .u64 0, .int .i64 0, .int .i64 0, .bool false, .int .u64 0, .int .i64 0] : Array Value)[j % 9]! = u
    rw [hi] at hj hm ⊢; subst hj
    rcases (by omega : i = 0 ∨ i = 1 ∨ i = 2 ∨ i = 3 ∨ i = 4 ∨ i = 5 ∨ i = 6 ∨ i = 7 ∨ i = 8) with rfl | rfl | rfl | rfl | rfl | rfl | rfl | rfl | rfl
    · exact Option.some.inj (c0.symm.trans e2)
    · exact Option.some.inj (c1.symm.trans e2)
    · exact Option.some.inj (c2.symm.trans e2)
    · exact Option.some.inj (c3.symm.trans e2)
    · exact Option.some.inj (c4.symm.trans e2)
    · exact Option.some.inj (c5.symm.trans e2)
    · exact Option.some.inj (c6.symm.trans e2)
    · exact Option.some.inj (c7.symm.trans e2)
    · exact Option.some.inj (c8.symm.trans e2)
theorem vrow_take (R : List V9) (m : Nat) : (vrow R).take (m * 9) = vrow (R.take m) := by
  have e : vrow R = vrow (R.take m) ++ vrow (R.drop m) := by rw [← vrow_append, List.take_append_drop]
  by_cases h : m ≤ R.length
  · rw [e, List.take_append_of_le_length (by rw [vrow_len, List.length_take]; omega), List.take_of_length_le (by rw [vrow_len, List.length_take]; omega)]
  · rw [List.take_of_length_le (by rw [vrow_len]; omega), List.take_of_length_le (by omega)]
theorem vrow_drop (R : List V9) (m : Nat) (h : m ≤ R.length) : (vrow R).drop (m * 9) = vrow (R.drop m) := by
  have e : vrow R = vrow (R.take m) ++ vrow (R.drop m) := by rw [← vrow_append, List.take_append_drop]
  rw [e, List.drop_append_of_le_length (by rw [vrow_len, List.length_take]; omega), List.drop_of_length_le (by rw [vrow_len, List.length_take]; omega), List.nil_append]
section
variable {w : World}
theorem run_cp {ty : TypeId} {g off m dl dc : Nat} {a : Addr} {sl sc : Nat} {R q : List V9} (X : Bo w g (vrow R).toArray 34) (ho : off = m * 9) (hs : ∀ j u, (vrow q)[j]? = some u → w.cell? (a.add j) = some u) (hq : q.length = Nat.min sl dl) (hfit : m + q.length ≤ R.length) :
    ∃ w', (Builtin.copy_ #[22, 22] ty #[.slice (some ⟨g, off, none⟩) dl dc, .slice (some a) sl sc]).run Tryz.prog w = .ok (goInt q.length) w' ∧ Bo w' g (vrow (R.take m ++ (q ++ R.drop (m + q.length)))).toArray 34 ∧ w.grownBy w' (some g) := by
  subst ho; obtain ⟨i, hi, hz, hsi, hby⟩ := info_parts infoIv
  have hg : w.heap[g]? = some (.cells (vrow R).toArray 34 (0, 0)) := X
  have hl := run_loadCells_list (P := Tryz.prog) w a (vrow q) hs; have hst := run_storeCells_at Tryz.prog g (m * 9) 34 (vrow q) 0 (vrow R).toArray w hg (by simp [vrow_len]; omega) (vrow_one q)
  have hln : (vrow q).length = 9 * Nat.min sl dl := by rw [vrow_len, hq]; omega
  refine ⟨w.setRow g (vrow (R.take m ++ (q ++ R.drop (m + q.length)))).toArray, ?_, setRow_heap w g _ _ _ _ hg, ?_⟩
  · have e : ((vrow R).toArray.toList.take (m * 9 + 0) ++ vrow q ++ (vrow R).toArray.toList.drop (m * 9 + 0 + (vrow q).length)) = vrow (R.take m ++ (q ++ R.drop (m + q.length))) := by
      rw [List.toList_toArray, Nat.add_zero, vrow_len, ← Nat.add_mul, vrow_take, vrow_drop _ _ hfit, List.append_assoc, vrow_append, vrow_append]
    rw [e] at hst
    simp [Builtin.copy_, run_underlying Tryz.underlying22, Builtin.lenOf, Builtin.firstCells, sizeOf, typeInfo, hi, hsi, ← hq]
    rw [← vrow_len, hl]
    simp [hst]
  · exact ⟨rfl, rfl, rfl, by simp [World.setRow], fun k _ hk => setRow_other w g k _ (fun e => hk (by rw [e]))⟩
theorem Bo.vcell {g : Nat} {R q : List V9} {m : Nat} (X : Bo w g (vrow R).toArray 34) (h : ∀ k, k < q.length → q[k]? = R[m + k]?) : ∀ j u, (vrow q)[j]? = some u → w.cell? ⟨g, m * 9 + j, none⟩ = some u := by
  intro j u hj
  obtain ⟨k, i, v, h1, rfl, h3, h4⟩ := vrow_split q j u hj; have hk := (List.getElem?_eq_some_iff.1 h1).1; rw [h k hk] at h1
  rw [show m * 9 + (k * 9 + i) = (m + k) * 9 + i by omega, X.cell]
  rw [List.getElem?_toArray]
  have e : vrow R = vrow (R.take (m + k)) ++ (vrow [v] ++ vrow (R.drop (m + k + 1))) := by
    rw [← vrow_append, ← vrow_append]
    congr 1
    have hlt := (List.getElem?_eq_some_iff.1 h1).1; have e1 := (List.getElem?_eq_some_iff.1 h1).2; rw [← e1, List.singleton_append, ← List.drop_eq_getElem_cons hlt, List.take_append_drop]
  have hl : (vrow (R.take (m + k))).length = (m + k) * 9 := by
    have hlt := (List.getElem?_eq_some_iff.1 h1).1; rw [vrow_len, List.length_take]
    omega
  rw [e, List.getElem?_append_right (by omega), hl, Nat.add_sub_cancel_left, List.getElem?_append_left (by rw [vrow_len]; exact h3)]; exact h4
theorem rep_fill {v z : V9} {n k j : Nat} (hk : k ≤ n) (hj : k + j ≤ n) : (List.replicate k v ++ List.replicate (n - k) z).take k ++ (List.replicate j v ++ (List.replicate k v ++ List.replicate (n - k) z).drop (k + j)) = List.replicate (k + j) v ++ List.replicate (n - (k + j)) z := by
  rw [List.take_append_of_le_length (by rw [List.length_replicate]; exact Nat.le_refl _), List.take_of_length_le (by rw [List.length_replicate]; exact Nat.le_refl _), List.drop_append, List.drop_of_length_le (by rw [List.length_replicate]; omega), List.length_replicate, Nat.add_sub_cancel_left, List.drop_replicate, List.nil_append, ← List.append_assoc, List.replicate_append_replicate]
  congr 2
  omega
end
def RpInv (w : World) (g n : Nat) (v : V9) (k : Nat) (wr : World) : Prop := Bo wr g (vrow (List.replicate k v ++ List.replicate (n - k) Z9)).toArray 34 ∧ Below w.heap.size w wr
theorem kxRepeat {w : World} {g n : Nat} {v : V9} (X : Bo w g (vrow [v]).toArray 34) (tv : topV v) (h0 : 0 < n) (hn : n ≤ 1000000) : Calls Tryz.prog 37 #[.slice (some ⟨g, 0, none⟩) 1 1, .int .i64 ((n : Nat) : Int)] w (fun e w' => ∃ A2 c2, e = .returned (.slice A2 n c2) ∧ Io w' w.heap.size A2 n c2 (List.replicate n v) ∧ Below w.heap.size w w') := by
  have t1 : decide (((n : Nat) : Int) < 0) = false := by simp
  have t2 : decide ((9223372036854775807 : Int) < ((n : Nat) : Int)) = false := by simp; omega
  have w1 : IntKind.u64.wrap ((n : Nat) : Int) = ((n : Nat) : Int) := by rw [IntKind.wrap_u64]; omega
  have w2 : wrap64 ((n : Nat) : Int) = ((n : Nat) : Int) := IntWalk.wrap64_in _ (by omega)
  go_enter Tryz.func37, Tryz.ntmps37
  go_wp2_with fail
  refine (kxMul (X := 1) (Y := (n : Int)) (L := (n : Int)) (by omega) (by omega) (by omega) (by omega) (by omega) (by omega) (by omega)).mono ?_; rintro ee wa ⟨rfl, B⟩; replace X := X.below B; have HB := Lib.hid B; clear B; obtain ⟨i, hi, hz, hsi, hby⟩ := info_parts infoIv
  have hmk : (Instr.makeSlice 22 (.int .i64 ((n : Nat) : Int)) (.int .i64 ((n : Nat) : Int))).run Tryz.prog wa = .ok (.slice (some ⟨wa.heap.size, 0, none⟩) n n) (wa.alloc (.cells (vrow (List.replicate n Z9)).toArray 34)) := by
    have := run_make (P := Tryz.prog) wa 22 34 i _ Tryz.underlying22 hi hz .i64 .i64 n n (by omega) (Int.le_refl _) (by rw [hby]; omega) (by omega)
    rw [Int.toNat_natCast, hsi] at this; rw [this, ← made_vrow]
    rfl
  clear hi hz hsi hby
  go_upto_region 7 with (fail)
  clear hmk; have Y := Bo.new wa (vrow (List.replicate n Z9)).toArray 34; have hb1 := bel1 wa (.cells (vrow (List.replicate n Z9)).toArray 34); replace X := X.below hb1; have HB2 := Hqb HB hb1
  have hsz : w.heap.size ≤ wa.heap.size := HB.out.size
  clear HB; generalize wa.alloc (.cells (vrow (List.replicate n Z9)).toArray 34) = wb at *; generalize wa.heap.size = gy at *; clear hb1
  obtain ⟨wc, hcp, Y2, G2⟩ := run_cp (ty := 3) (off := 0) (m := 0) (dl := n) (dc := n) (a := ⟨g, 0, none⟩) (sl := 1) (sc := 1) (q := [v]) Y rfl (fun j u hj => by rw [Addr.add_lit]; exact X.vcell (m := 0) (q := [v]) (fun k _ => by rw [Nat.zero_add]) j u hj) (by rw [List.length_singleton]; exact (Nat.min_eq_left (by omega)).symm) (by rw [List.length_singleton, List.length_replicate]; omega)
  rw [show goInt (([v].length : Nat) : Int) = .int .i64 1 from rfl] at hcp
  have e0 := rep_fill (v := v) (z := Z9) (n := n) (k := 0) (j := 1) (Nat.zero_le _) (by omega); simp only [List.replicate_zero, List.nil_append, Nat.sub_zero, Nat.zero_add, List.replicate_one] at e0
  have Y3 : Bo wc gy (vrow (List.replicate 1 v ++ List.replicate (n - 1) Z9)).toArray 34 := by
    rw [show List.replicate 1 v = [v] from rfl, ← e0]
    exact Y2
  have HB3 := Lib.hid (HB2.out.grown G2 HB2.out.size (fun k hk => by cases hk; exact hsz))
  clear Y2 G2 e0 X Y HB2; go_wp2; clear hcp
  go_loopw [8] (fun x wr => ∃ k, 1 ≤ k ∧ k ≤ n ∧ x = .int .i64 ((k : Nat) : Int) ∧ RpInv w gy n v k wr) (fun x _ => n - (intOf x).toNat)
  case atStart => exact ⟨1, Nat.le_refl _, h0, rfl, Y3, HB3.out⟩
  case round =>
    obtain ⟨k, hk1, hk, rfl, hY, hB⟩ := hrel; have HB := Lib.hid hB; clear hB HB3 Y3
    by_cases hlt : k < n
    · have tlt : decide ((k : Int) < (n : Int)) = true := by simp; omega
      have i1 : (k : Int) ≤ n := by omega
      have i2 : (0 : Int) ≤ k := by omega
      go_upto_region 9 with (fail)
      have hY2 : Bo wr.drew gy _ _ := hY
      obtain ⟨j, hj⟩ : ∃ j, Nat.min k (n - k) = j := ⟨_, rfl⟩
      have hj1 : 1 ≤ j := by rw [← hj]; exact Nat.le_min.2 ⟨hk1, by omega⟩
      have hj2 : j ≤ k := by rw [← hj]; exact Nat.min_le_left _ _
      have hj3 : k + j ≤ n := by have := Nat.min_le_right k (n - k); rw [show min k (n - k) = j from hj] at this; omega
      obtain ⟨wc, hcp, Y2, G2⟩ := run_cp (w := wr.drew) (ty := 3) (off := k * 9) (m := k) (dl := n - k) (dc := n - k) (a := ⟨gy, 0, none⟩) (sl := k) (sc := n) (q := List.replicate j v) hY2 rfl (fun i u hi => by rw [Addr.add_lit]; exact hY2.vcell (m := 0) (q := List.replicate j v) (fun i hi => by rw [List.length_replicate] at hi; rw [Nat.zero_add, List.getElem?_append_left (by rw [List.length_replicate]; omega), List.getElem?_replicate, List.getElem?_replicate, if_pos hi, if_pos (by omega)]) i u hi) (by rw [List.length_replicate]; exact hj.symm) (by rw [List.length_replicate, List.length_append, List.length_replicate, List.length_replicate]; omega)
      rw [List.length_replicate] at hcp; rw [List.length_replicate, rep_fill hk hj3] at Y2
      have HB4 := Lib.hid ((show Below w.heap.size w wr.drew from HB.out.drew).grown G2 HB.out.size (fun i hi => by cases hi; exact hsz))
      have hw : wrap64 ((k : Int) + (j : Int)) = ((k + j : Nat) : Int) := (IntWalk.wrap64_in _ (by omega)).trans (by omega)
      have i3 : ((k + j : Nat) : Int) = (k : Int) + j := by omega
      clear HB hY hY2 G2 hj
      go_region
      go_wp2
      go_roundw
      case rel => exact ⟨k + j, by omega, by omega, by rw [i3], Y2, HB4.out⟩
      case measure => simp [intOf]; omega

    · obtain rfl : k = n := by omega
      have tlt : decide ((k : Int) < (k : Int)) = false := by simp
      rw [Nat.sub_self, List.replicate_zero, List.append_nil] at hY; go_wp2
      go_ret
      exact ⟨_, _, rfl, ⟨⟨by rw [vrow_len, List.length_replicate], .inr ⟨gy, k, _, rfl, hsz, hY, Nat.le_refl _, by unfold maxLen; omega, by simp [vrow_len], by rw [List.toList_toArray]; exact List.take_of_length_le (by rw [vrow_len, List.length_replicate]; exact Nat.le_refl _)⟩⟩, List.length_replicate, fun u hu => (List.mem_replicate.1 hu).2 ▸ tv⟩, HB.out⟩
def PL (w : World) (n : Nat) (l : List Sp) (e : Ending) (w' : World) : Prop := ∃ A c, e = .returned (.slice A n c) ∧ Ia w' w.heap.size A n c l ∧ Below w.heap.size w w'
theorem ciV_none : ciV (true, 0, false, 0, 0, 0, false, 0, 0) none := Ci.none
theorem kxFair {w : World} {A : Option Addr} {n c : Nat} {r : List V9} {l : List Sp} (h : Iq w A n c r) (hn : n ≤ 1000000) (hl : bxFair (r.map rkV) = l) : Calls Tryz.prog 17 #[.slice A n c] w (PL w n l) := by
  subst hl; obtain ⟨b, hb⟩ : ∃ b, bxEmp (r.map rkV) = b := ⟨_, rfl⟩; have HE := Lib.hid hb
  have hln : (r.map rkV).length = n := by rw [List.length_map]; exact h.1
  go_enter Tryz.func17, Tryz.ntmps17
  go_wp2_with fail
  refine (kxEmpty h.il HE.out).mono ?_; rintro ee w2 ⟨rfl, B⟩; replace h := h.below B; have HB := Lib.hid B; clear B
  cases b
  · clear hb
    go_wp2_with fail
    refine (kxClone h hn).mono ?_; rintro ee w3 ⟨A2, c2, rfl, N, B⟩; have HN := Lib.hid (N.same HE.out); have HB2 := Hqb HB B; have hz := HB.out.size; clear h N B HB; go_wp2
    go_ret
    exact ⟨A2, c2, rfl, by rw [bxFair_f HE.out]; exact HN.out.lower hz, HB2.out⟩
  · have h0 : 0 < n := by
      rw [← hln]; exact bxEmp_pos hb
    clear hb h
    go_wp2_with fail
    refine kvNoneE.mono ?_; rintro ee w3 ⟨rfl, B⟩; have HB2 := Hqb HB B; clear B HB; have X := Bo.new w3 (vrow [(true, 0, false, 0, 0, 0, false, 0, 0)]).toArray 34
    go_wp2_with fail
    refine (kxRepeat X (ciV_top ciV_none) h0 hn).mono ?_; rintro ee w4 ⟨A2, c2, rfl, N, B⟩
    have hz : w.heap.size ≤ w3.heap.size := HB2.out.size
    have HB3 := Lib.hid (bt (bt HB2.out (bel1 _ _)) B)
    have HN := Lib.hid (N.ia (l := List.replicate n none) List.length_replicate (fun k v hv => by
      rw [List.getElem?_replicate] at hv
      split at hv
      · cases hv
        rw [List.getD_eq_getElem?_getD, List.getElem?_replicate, if_pos (by assumption)]; exact ciV_none
      · cases hv))
    clear N B HB2 X; go_wp2
    go_ret
    exact ⟨A2, c2, rfl, by rw [bxFair_t HE.out, hln]; exact HN.out.lower (by simp; omega), HB3.out⟩
end Go.Proofs.YtpnmphofengoeaaGreatDoor
