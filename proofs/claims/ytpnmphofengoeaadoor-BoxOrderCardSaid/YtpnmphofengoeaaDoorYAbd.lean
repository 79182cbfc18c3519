/-
  Contracts and words that the statement's proof rests on: Xi.
-/
import Derived.Test.YtpnmphofengoeaaDoorYAbc
namespace Go.Proofs.YtpnmphofengoeaaDoor
set_option maxHeartbeats 8000000
open Go.RowKit
set_option linter.unusedVariables false
set_option linter.unusedSimpArgs false
set_option maxRecDepth 100000

theorem jxEmpty {w : World} {A : Option Addr} {n c : Nat} {l : List Sp} {r : Bool} (h : Il8 w A n c l) (hr : bxEmp l = r) : Calls Tryd.prog 16 #[.slice A n c] w (PB w r) := by
  have HLn := Lib.hid h.1; have hcap := h.2.1; have hbig := h.2.2.1; have hD0 := h; have HR := Lib.hid hr; clear h hr
  go_enter Tryd.func16, Tryd.ntmps16
  go_wp2
  go_loopw [3] (fun i wr => ∃ k, k ≤ n ∧ i = .int .i64 ((k : Nat) : Int) ∧ EmInv w l k wr) (fun i _ => n - (intOf i).toNat)
  case atStart => exact ⟨0, Nat.zero_le _, rfl, rfl, Below.refl _ _⟩
  case round =>
    obtain ⟨k, hk, rfl, hE, hB⟩ := hrel; have HB := Lib.hid hB; have HE := Lib.hid hE; clear hB hE
    by_cases hlt : k < n
    · have tlt : decide ((k : Int) < (n : Int)) = true := by simp; omega
      have h := hD0.below HB.out; obtain ⟨b, o, rfl, hcell⟩ := h.2.2.2 (by omega); obtain ⟨e, D, s, M, E, D', s', M', E', x0, x1, x2, x3, x4, x5, x6, x7, x8, hM, hM', hx⟩ := hcell k hlt; clear hcell h hD0
      have i1 : (k : Int) < n := by omega
      have i2 : (0 : Int) ≤ k := by omega
      have hs := bxEmp_take (l := l) (k := k) (by rw [HLn.out]; exact hlt); rw [← hx, HE.out, Bool.false_or] at hs; obtain ⟨x, hX⟩ : ∃ x, rkI e D s M E D' s' M' E' = x := ⟨_, rfl⟩; rw [hX] at hs hx; have HS := Lib.hid hs; have HX := Lib.hid hX; have HXL := Lib.hid hx; clear hs hX hx
      go_wp2_with fail
      refine (jvFair hM hM' HX.out).mono ?_; rintro ee w3 ⟨e1, K1, s1, M1, E1, K1b, s1b, M1b, E1b, rfl, v1, B⟩; have HB2 := Hqb HB B; clear B HB x0 x1 x2 x3 x4 x5 x6 x7 x8
      go_upto_region 5 with (fail)
      have X4 := Bo.new w3 #[.bool e1, .int .i64 K1, .bool s1, .int .u64 M1, .int .i64 E1, .int .i64 K1b, .bool s1b, .int .u64 M1b, .int .i64 E1b] 41; have hb := bel1 w3 (.cells #[.bool e1, .int .i64 K1, .bool s1, .int .u64 M1, .int .i64 E1, .int .i64 K1b, .bool s1b, .int .u64 M1b, .int .i64 E1b] 41); replace HB2 := Lib.hid (bt HB2.out hb); generalize w3.alloc (.cells #[.bool e1, .int .i64 K1, .bool s1, .int .u64 M1, .int .i64 E1, .int .i64 K1b, .bool s1b, .int .u64 M1b, .int .i64 E1b] 41) = w4 at *
      clear hb; have c0 := X4.a 0 (.bool e1) rfl
      cases e1
      · have hn : decide (x = none) = false := decide_eq_false (fun c => by have := v1.empty.2 c; cases this)
        rw [hn] at HS; go_wp2
        go_roundw
        case rel => exact ⟨k + 1, by omega, by go_num, HS.out, HB2.out⟩
        case measure => simp [intOf]; omega
      · have hn : x = none := v1.empty.1 rfl
        have hr : true = r := by rw [← HR.out, bxEmp_hit (k := k) (by rw [HLn.out]; exact hlt) (by rw [← HXL.out]; exact hn)]
        subst hr; go_wp2
        go_ret
        exact ⟨rfl, HB2.out⟩
    · obtain rfl : k = n := by omega
      have tlt : decide ((k : Int) < (k : Int)) = false := by simp
      have e1 : l.take k = l := List.take_of_length_le (by rw [HLn.out]; omega)
      have HE2 := HE.out; rw [e1, HR.out] at HE2; subst HE2; clear e1 HE; go_wp2
      go_ret
      exact ⟨rfl, HB.out⟩
theorem Ia.other {w w' : World} {base n c g : Nat} {A : Option Addr} {l : List Sp} {a b : Array Value} {T : TypeId} (h : Ia w base A n c l) (S : StN w w' g a b T) (hne : ownA A = some g → False) : Ia w' base A n c l := by
  obtain ⟨r, h1, h2⟩ := h; refine ⟨r, ⟨h1.1, ?_⟩, h2⟩
  rcases h1.2 with h3 | ⟨g0, cap, cur, hv, hg, hh, q⟩
  · exact .inl h3
  · refine .inr ⟨g0, cap, cur, hv, hg, ?_, q⟩
    rw [S.2.2.1 g0 (fun e => ?_)]
    · exact hh
    · cases hv
      exact hne (congrArg some e)
def FrInv (w : World) (l : List Sp) (A : Option Addr) (k c : Nat) (wr : World) : Prop := Ia wr w.heap.size A k c (l.take k) ∧ Below w.heap.size w wr
theorem take_snoc {l : List Sp} {k : Nat} (h : k < l.length) : l.take (k + 1) = l.take k ++ [l.getD k none] := by
  rw [List.take_succ_eq_append_getElem h, List.getD_eq_getElem?_getD, List.getElem?_eq_getElem h]
  rfl
theorem jxFair {w : World} {A : Option Addr} {n c : Nat} {l1 l : List Sp} (h : Il8 w A n c l1) (hn : n ≤ 100000) (hl : bxFair l1 = l) : Calls Tryd.prog 14 #[.slice A n c] w (PL w n l) := by
  obtain ⟨q, hq⟩ : ∃ q, bxEmp l1 = q := ⟨_, rfl⟩; have HQ := Lib.hid hq
  have hln : l.length = n := by rw [← hl, bxFair_len]; exact h.1
  have HLn := Lib.hid hln; have HL := Lib.hid hl; have hcap := h.2.1; have hl1 := h.1; have HO := Lib.hid h.ok; clear hln hl hq
  go_enter Tryd.func14, Tryd.ntmps14
  go_wp2_with fail
  refine (jxEmpty h HQ.out).mono ?_; rintro ee w2 ⟨rfl, B⟩; have hD0 := h; clear h; go_wp2
  go_loopw [4, 5] (fun v i wr => ∃ k A1 c1, k ≤ n ∧ v = .slice A1 k c1 ∧ i = .int .i64 ((k : Nat) : Int) ∧ FrInv w l A1 k c1 wr) (fun _ i _ => n - (intOf i).toNat)
  case atStart => exact ⟨0, none, 0, Nat.zero_le _, rfl, rfl, Ia.nil _ _, B⟩
  case round =>
    obtain ⟨k, A1, c1, hk, rfl, rfl, N1, hB⟩ := hrel; have HB := Lib.hid hB; clear hB B
    by_cases hlt : k < n
    · have tlt : decide ((k : Int) < (n : Int)) = true := by simp; omega
      have h := hD0.below HB.out; obtain ⟨b, o, rfl, hcell⟩ := h.2.2.2 (by omega); obtain ⟨e, D, s, M, E, D', s', M', E', x0, x1, x2, x3, x4, x5, x6, x7, x8, hM, hM', hx⟩ := hcell k hlt; clear hcell h hD0
      have i1 : (k : Int) < n := by omega
      have i2 : (0 : Int) ≤ k := by omega
      have hs := take_snoc (l := l) (k := k) (by rw [HLn.out]; exact hlt); have HS := Lib.hid hs; have HX := Lib.hid hx; have hsz := HB.out.size
      have N0 := fun k hk => (N1.own_lt k hk).2
      clear hs hx
      go_upto_region 7 with (fail)
      clear x0 x1 x2 x3 x4 x5 x6 x7 x8; have lX6 := Nat.le_refl (World.heap wr).size; generalize hWn : wr.alloc _ = w4 at *; obtain ⟨X6, BW⟩ := Bo.nw hWn; clear hWn; replace N1 := N1.below BW; replace HB := Hqb HB BW; clear BW; clear lX6
      cases q
      · have hv : l.getD k none = l1.getD k none := by rw [← HL.out, bxFair_f HQ.out]
        have hci : Ci e D s M E D' s' M' E' (l1.getD k none) := by
          have hne := getD_some (k := k) HQ.out (by omega); rw [← HX.out] at hne ⊢; exact topV_ci (v := (e, D, s, M, E, D', s', M', E')) ⟨hM, hM'⟩ hne
        have xX6 := X6.cell
        go_wp2_with (at_builtin; refine wpList_ia rfl _ _ rfl rfl rfl (N1.below (bel1 _ _)) (Ia.lit (Bo.new _ _ _) hci) (by decide) (by omega) (Nat.le_trans HB.out.size (bel1 _ _).size) ?_; intro A3 c3 w7 N3 G3 at3)
        have HB3 := Lib.hid ((bt HB.out (bel1 _ (.cells #[.bool e, .int .i64 D, .bool s, .int .u64 M, .int .i64 E, .int .i64 D', .bool s', .int .u64 M', .int .i64 E'] 41))).grown G3 (Nat.le_trans HB.out.size (bel1 _ _).size) (fun k hk => (N1.own_lt k hk).1))
        clear N1 G3 at3 HB; go_wp2
        go_roundw
        case rel => exact ⟨k + 1, A3, c3, by omega, rfl, by go_num, by rw [HS.out, hv]; exact N3, HB3.out⟩
        case measure => simp [intOf]; omega
      · have hv : l.getD k none = none := by
          rw [← HL.out, bxFair_t HQ.out, List.getD_eq_getElem?_getD, List.getElem?_replicate, if_pos (by omega)]
          rfl
        go_upto_region 8 with (fail)
        go_wp2_with fail
        refine (jvNoneE).mono ?_; rintro ee w5 ⟨rfl, B⟩; replace X6 := X6.below B; replace N1 := N1.below B; replace HB := Hqb HB B; clear B; have xX6 := X6.cell; have zX60 := X6.frozen
        go_upto_region 9 with (fail)
        clear xX6 zX60; generalize hS : ((((((((w5.setCell _ _).setCell _ _).setCell _ _).setCell _ _).setCell _ _).setCell _ _).setCell _ _).setCell _ _).setCell _ _ = w6 at *; have SX := StN.of9 X6 hS
        replace N1 := N1.other SX (fun e => by have := N0 _ e; omega)
        replace HB := Lib.hid (SX.below HB.out hsz); replace X6 := SX.box; clear SX hS; have xX6 := X6.cell
        go_wp2_with (at_builtin; refine wpList_ia rfl _ _ rfl rfl rfl (N1.below (bel1 _ _)) (Ia.lit (Bo.new _ _ _) Ci.none) (by decide) (by omega) (Nat.le_trans HB.out.size (bel1 _ _).size) ?_; intro A3 c3 w7 N3 G3 at3)
        have HB3 := Lib.hid ((bt HB.out (bel1 _ (.cells #[.bool true, .int .i64 0, .bool false, .int .u64 0, .int .i64 0, .int .i64 0, .bool false, .int .u64 0, .int .i64 0] 41))).grown G3 (Nat.le_trans HB.out.size (bel1 _ _).size) (fun k hk => (N1.own_lt k hk).1))
        clear N1 G3 at3 HB; go_wp2
        go_roundw
        case rel => exact ⟨k + 1, A3, c3, by omega, rfl, by go_num, by rw [HS.out, hv]; exact N3, HB3.out⟩
        case measure => simp [intOf]; omega
    · obtain rfl : k = n := by omega
      have tlt : decide ((k : Int) < (k : Int)) = false := by simp
      have e1 : l.take k = l := List.take_of_length_le (by rw [HLn.out]; omega)
      have N2 := N1; rw [e1] at N2; clear N1 e1; go_wp2
      go_ret
      exact ⟨A1, c1, rfl, N2, HB.out⟩
def AllInv (w : World) (f : Nat → Bool) (k : Nat) (wr : World) : Prop := (∀ j, j < k → f j = true) ∧ Below w.heap.size w wr
theorem bxHas_iff : ∀ {l : List Sp} {p : List Int}, bxHas l p = true ↔ l.length = p.length ∧ ∀ k, k < l.length → hasI (l.getD k none) (p.getD k 0) = true
  | [], [] => ⟨fun _ => ⟨rfl, fun k h => absurd h (Nat.not_lt_zero _)⟩, fun _ => rfl⟩
  | [], _ :: _ => ⟨fun h => (by cases h), fun h => (by cases h.1)⟩
  | _ :: _, [] => ⟨fun h => (by cases h), fun h => (by cases h.1)⟩
  | x :: l, n :: p => by
    have e := bxHas_iff (l := l) (p := p)
    show (hasI x n && bxHas l p) = true ↔ _
    rw [Bool.and_eq_true, e]
    constructor
    · rintro ⟨h1, h2, h3⟩
      refine ⟨congrArg (· + 1) h2, fun k hk => ?_⟩
      cases k with
      | zero => exact h1
      | succ k => exact h3 k (Nat.lt_of_succ_lt_succ hk)
    · rintro ⟨h1, h2⟩
      exact ⟨h2 0 (Nat.succ_pos _), Nat.succ.inj h1, fun k hk => h2 (k + 1) (Nat.succ_lt_succ hk)⟩
theorem jxHas_eq {w : World} {A B : Option Addr} {n c d : Nat} {l : List Sp} {p : List Int} {r : Bool} (ha : Il8 w A n c l) (hb : Nl w B n d p) (hr : bxHas l p = r) : Calls Tryd.prog 18 #[.slice A n c, .slice B n d] w (PB w r) := by
  have HLn := Lib.hid ha.1; have HLp := Lib.hid hb.1; have hcap := ha.2.1; have hcap2 := hb.2.1; have hbig := ha.2.2.1; have hD1 := ha; have hD2 := hb
  have t1 : (((n : Nat) : Int) == ((n : Nat) : Int)) = true := by simp
  have HR := Lib.hid hr; have HB0 := Lib.hid (Below.refl w.heap.size w); clear ha hb hr
  go_enter Tryd.func18, Tryd.ntmps18
  go_wp2
  go_loopw [5] (fun i wr => ∃ k, k ≤ n ∧ i = .int .i64 ((k : Nat) : Int) ∧ AllInv w (fun j => hasI (l.getD j none) (p.getD j 0)) k wr) (fun i _ => n - (intOf i).toNat)
  case atStart => exact ⟨0, Nat.zero_le _, rfl, fun j hj => absurd hj (Nat.not_lt_zero _), HB0.out⟩
  case round =>
    obtain ⟨k, hk, rfl, hE, hB⟩ := hrel; have HB := Lib.hid hB; have HE := Lib.hid hE; clear hB hE HB0
    by_cases hlt : k < n
    · have tlt : decide ((k : Int) < (n : Int)) = true := by simp; omega
      have h1 := hD1.below HB.out; have h2 := hD2.below HB.out; obtain ⟨b, o, rfl, hcell⟩ := h1.2.2.2 (by omega); obtain ⟨e, D, s, M, E, D', s', M', E', x0, x1, x2, x3, x4, x5, x6, x7, x8, hM, hM', hx⟩ := hcell k hlt; obtain ⟨b', o', rfl, hcell2⟩ := h2.2.2.2 (by omega); obtain ⟨G, g, P, Q, y0, y1, y2, y3, hP, hy⟩ := hcell2 k hlt; clear hcell hcell2 h1 h2 hD1 hD2
      have i1 : (k : Int) < n := by omega
      have i2 : (0 : Int) ≤ k := by omega
      obtain ⟨q, hq⟩ : ∃ q, hasI (l.getD k none) (p.getD k 0) = q := ⟨_, rfl⟩; have HQ := Lib.hid hq; have HX := Lib.hid hx; have HY := Lib.hid hy; clear hq hx hy
      go_upto_region 6 with (fail)
      refine Jo.rk [0, 1, 2, 3, 4, 5, 6, 7, 8] [some 18, some 19, some 20, some 21, some 22, some 23, some 24, some 25, some 26, some 6] [[], [], [0, 1], [2], [], [], [4, 5], [6], [3, 7], []] 10 1 [Jo.Fact.eq (.slice (some ⟨b, o, none⟩) n c), Jo.Fact.eq (.int .i64 ((k : Nat) : Int)), Jo.Fact.eq (.pointer (some ⟨b, o + k * 9, none⟩)), Jo.q9 e D s M E D' s' M' E', Jo.Fact.eq (.slice (some ⟨b', o', none⟩) n d), Jo.Fact.eq (.int .i64 ((k : Nat) : Int)), Jo.Fact.eq (.pointer (some ⟨b', o' + k * 4, none⟩)), Jo.q4 G g P Q, Jo.qb q, Jo.Fact.any] (by kernel_rfl) (by kernel_rfl) (by decide) rfl ?_ ?_
      · iterate 2 (refine Jo.jm rfl ?_ ?_; rotate_left)
        refine Jo.jm rfl ?_ ?_
        · rintro wj hJ _ rfl _ rfl K hK; simp only [Jo.z] at hK ⊢; go_simp
          exact hK.out _ _ (by first | rfl | simp) (br _ _)
        refine Jo.jm rfl ?_ ?_
        · rintro wj hJ _ rfl K hK; simp only [Jo.z] at hK ⊢; have cx0 := (hJ.cell (block_lt_of_cell x0)).trans x0; have cx1 := (hJ.cell (block_lt_of_cell x1)).trans x1; have cx2 := (hJ.cell (block_lt_of_cell x2)).trans x2; have cx3 := (hJ.cell (block_lt_of_cell x3)).trans x3; have cx4 := (hJ.cell (block_lt_of_cell x4)).trans x4; have cx5 := (hJ.cell (block_lt_of_cell x5)).trans x5; have cx6 := (hJ.cell (block_lt_of_cell x6)).trans x6
          have cx7 := (hJ.cell (block_lt_of_cell x7)).trans x7; have cx8 := (hJ.cell (block_lt_of_cell x8)).trans x8; go_simp; exact hK.out _ _ rfl (br _ _)
        iterate 2 (refine Jo.jm rfl ?_ ?_; rotate_left)
        refine Jo.jm rfl ?_ ?_
        · rintro wj hJ _ rfl _ rfl K hK; simp only [Jo.z] at hK ⊢; go_simp
          exact hK.out _ _ (by first | rfl | simp) (br _ _)
        refine Jo.jm rfl ?_ ?_
        · rintro wj hJ _ rfl K hK; simp only [Jo.z] at hK ⊢; have cy0 := (hJ.cell (block_lt_of_cell y0)).trans y0; have cy1 := (hJ.cell (block_lt_of_cell y1)).trans y1; have cy2 := (hJ.cell (block_lt_of_cell y2)).trans y2; have cy3 := (hJ.cell (block_lt_of_cell y3)).trans y3; go_simp; exact hK.out _ _ rfl (br _ _)
        refine Jo.jm rfl ?_ ?_
        · rintro wj hJ _ rfl _ rfl K hK; simp only [Jo.z] at hK ⊢; go_simp; refine (jvHas hM hM' hP HX.out HY.out HQ.out).mono ?_; rintro ee wk ⟨rfl, B⟩; exact hK.out _ _ rfl B
        exact Jo.Steps.nil
        all_goals (rintro wj hJ; (repeat rintro _ rfl); intro K hK; simp only [Jo.z] at hK ⊢; go_simp; exact hK.out _ _ rfl (br _ _))
      rintro w2 hJ _ rfl _ rfl _ _ _ rfl _ rfl _ rfl _ _ _ rfl _ rfl -; simp only [Jo.z]; replace HB := Hqb HB hJ
      refine Jo.jnext (i := 9) (o := ⟨some 6, _, _, _, _, _⟩) (by kernel_rfl) rfl (fun K hK => ?_)
      go_simp; refine hK.out _ _ ?_; clear hK K x0 x1 x2 x3 x4 x5 x6 x7 x8 y0 y1 y2 y3; refine Jo.jdone (by kernel_rfl) ?_
      cases q
      · have hr : false = r := by rw [← HR.out]; refine (Bool.eq_false_iff.2 fun c => ?_).symm; have := (bxHas_iff.1 c).2 k (by rw [HLn.out]; exact hlt); rw [HQ.out] at this; cases this
        subst hr; go_wp2
        go_ret
        exact ⟨rfl, HB.out⟩
      · go_wp2
        go_roundw
        case rel => exact ⟨k + 1, by omega, by go_num, fun j hj => by
          rcases Nat.lt_succ_iff_lt_or_eq.1 hj with h | rfl
          · exact HE.out j h
          · exact HQ.out, HB.out⟩
        case measure => simp [intOf]; omega
    · obtain rfl : k = n := by omega
      have tlt : decide ((k : Int) < (k : Int)) = false := by simp
      have hr : true = r := by rw [← HR.out]; exact (bxHas_iff.2 ⟨HLn.out.trans HLp.out.symm, fun j hj => HE.out j (by rw [HLn.out] at hj; exact hj)⟩).symm
      subst hr; clear HE; go_wp2
      go_ret
      exact ⟨rfl, HB.out⟩
theorem jxWithin_eq {w : World} {A B : Option Addr} {n c d : Nat} {l : List Sp} {p : List Sp} {r : Bool} (ha : Il8 w A n c l) (hb : Il8 w B n d p) (hr : bxWit l p = r) : Calls Tryd.prog 20 #[.slice A n c, .slice B n d] w (PB w r) := by
  have HLn := Lib.hid ha.1; have HLp := Lib.hid hb.1; have hcap := ha.2.1; have hcap2 := hb.2.1; have hbig := ha.2.2.1; have hD1 := ha; have hD2 := hb
  have t1 : (((n : Nat) : Int) == ((n : Nat) : Int)) = true := by simp
  have HB0 := Lib.hid (Below.refl w.heap.size w); obtain ⟨be, hbe⟩ : ∃ be, bxEmp l = be := ⟨_, rfl⟩; have HBE := Lib.hid hbe
  unfold bxWit at hr
  rw [if_pos (ha.1.trans hb.1.symm), hbe] at hr; have HR0 := Lib.hid hr; clear hb hr hbe
  go_enter Tryd.func20, Tryd.ntmps20
  go_wp2_with fail
  refine (jxEmpty ha HBE.out).mono ?_; rintro ee w2 ⟨rfl, B⟩; replace HB0 := Lib.hid B; clear B ha
  cases be
  case true =>
    have hr : true = r := HR0.out
    subst hr; clear hD1 hD2; go_wp2
    go_ret
    exact ⟨rfl, HB0.out⟩
  have HR := Lib.hid (show bxWits l p = r from HR0.out)
  clear HR0; go_wp2
  go_loopw [6] (fun i wr => ∃ k, k ≤ n ∧ i = .int .i64 ((k : Nat) : Int) ∧ AllInv w (fun j => witI (l.getD j none) (p.getD j none)) k wr) (fun i _ => n - (intOf i).toNat)
  case atStart => exact ⟨0, Nat.zero_le _, rfl, fun j hj => absurd hj (Nat.not_lt_zero _), HB0.out⟩
  case round =>
    obtain ⟨k, hk, rfl, hE, hB⟩ := hrel; have HB := Lib.hid hB; have HE := Lib.hid hE; clear hB hE HB0
    by_cases hlt : k < n
    · have tlt : decide ((k : Int) < (n : Int)) = true := by simp; omega
      have h1 := hD1.below HB.out; have h2 := hD2.below HB.out; obtain ⟨b, o, rfl, hcell⟩ := h1.2.2.2 (by omega); obtain ⟨e, D, s, M, E, D', s', M', E', x0, x1, x2, x3, x4, x5, x6, x7, x8, hM, hM', hx⟩ := hcell k hlt; obtain ⟨b', o', rfl, hcell2⟩ := h2.2.2.2 (by omega); obtain ⟨e2, G, g, P, Q, G', g', P', Q', y0, y1, y2, y3, y4, y5, y6, y7, y8, hP, hP', hy⟩ := hcell2 k hlt; clear hcell hcell2 h1 h2 hD1 hD2
      have i1 : (k : Int) < n := by omega
      have i2 : (0 : Int) ≤ k := by omega
      obtain ⟨q, hq⟩ : ∃ q, witI (l.getD k none) (p.getD k none) = q := ⟨_, rfl⟩; have HQ := Lib.hid hq; have HX := Lib.hid hx; have HY := Lib.hid hy; clear hq hx hy
      go_upto_region 9 with (fail)
      refine Jo.rk [0, 1, 2, 3, 4, 5, 6, 7, 8] [some 22, some 23, some 24, some 25, some 26, some 27, some 28, some 29, some 30, some 7] [[], [], [0, 1], [2], [], [], [4, 5], [6], [3, 7], []] 10 1 [Jo.Fact.eq (.slice (some ⟨b, o, none⟩) n c), Jo.Fact.eq (.int .i64 ((k : Nat) : Int)), Jo.Fact.eq (.pointer (some ⟨b, o + k * 9, none⟩)), Jo.q9 e D s M E D' s' M' E', Jo.Fact.eq (.slice (some ⟨b', o', none⟩) n d), Jo.Fact.eq (.int .i64 ((k : Nat) : Int)), Jo.Fact.eq (.pointer (some ⟨b', o' + k * 9, none⟩)), Jo.q9 e2 G g P Q G' g' P' Q', Jo.qb q, Jo.Fact.any] (by kernel_rfl) (by kernel_rfl) (by decide) rfl ?_ ?_
      · iterate 2 (refine Jo.jm rfl ?_ ?_; rotate_left)
        refine Jo.jm rfl ?_ ?_
        · rintro wj hJ _ rfl _ rfl K hK; simp only [Jo.z] at hK ⊢; go_simp
          exact hK.out _ _ (by first | rfl | simp) (br _ _)
        refine Jo.jm rfl ?_ ?_
        · rintro wj hJ _ rfl K hK; simp only [Jo.z] at hK ⊢; have cx0 := (hJ.cell (block_lt_of_cell x0)).trans x0; have cx1 := (hJ.cell (block_lt_of_cell x1)).trans x1; have cx2 := (hJ.cell (block_lt_of_cell x2)).trans x2; have cx3 := (hJ.cell (block_lt_of_cell x3)).trans x3; have cx4 := (hJ.cell (block_lt_of_cell x4)).trans x4; have cx5 := (hJ.cell (block_lt_of_cell x5)).trans x5; have cx6 := (hJ.cell (block_lt_of_cell x6)).trans x6
          have cx7 := (hJ.cell (block_lt_of_cell x7)).trans x7; have cx8 := (hJ.cell (block_lt_of_cell x8)).trans x8; go_simp; exact hK.out _ _ rfl (br _ _)
        iterate 2 (refine Jo.jm rfl ?_ ?_; rotate_left)
        refine Jo.jm rfl ?_ ?_
        · rintro wj hJ _ rfl _ rfl K hK; simp only [Jo.z] at hK ⊢; go_simp
          exact hK.out _ _ (by first | rfl | simp) (br _ _)
        refine Jo.jm rfl ?_ ?_
        · rintro wj hJ _ rfl K hK; simp only [Jo.z] at hK ⊢; have cy0 := (hJ.cell (block_lt_of_cell y0)).trans y0; have cy1 := (hJ.cell (block_lt_of_cell y1)).trans y1; have cy2 := (hJ.cell (block_lt_of_cell y2)).trans y2; have cy3 := (hJ.cell (block_lt_of_cell y3)).trans y3; have cy4 := (hJ.cell (block_lt_of_cell y4)).trans y4; have cy5 := (hJ.cell (block_lt_of_cell y5)).trans y5; have cy6 := (hJ.cell (block_lt_of_cell y6)).trans y6
          have cy7 := (hJ.cell (block_lt_of_cell y7)).trans y7; have cy8 := (hJ.cell (block_lt_of_cell y8)).trans y8; go_simp; exact hK.out _ _ rfl (br _ _)
        refine Jo.jm rfl ?_ ?_
        · rintro wj hJ _ rfl _ rfl K hK; simp only [Jo.z] at hK ⊢; go_simp; refine (jvWithin hM hM' hP hP' HX.out HY.out HQ.out).mono ?_; rintro ee wk ⟨rfl, B⟩; exact hK.out _ _ rfl B
        exact Jo.Steps.nil
        all_goals (rintro wj hJ; (repeat rintro _ rfl); intro K hK; simp only [Jo.z] at hK ⊢; go_simp; exact hK.out _ _ rfl (br _ _))
      rintro w2 hJ _ rfl _ rfl _ _ _ rfl _ rfl _ rfl _ _ _ rfl _ rfl -; simp only [Jo.z]; replace HB := Hqb HB hJ
      refine Jo.jnext (i := 9) (o := ⟨some 7, _, _, _, _, _⟩) (by kernel_rfl) rfl (fun K hK => ?_)
      go_simp; refine hK.out _ _ ?_; clear hK K x0 x1 x2 x3 x4 x5 x6 x7 x8 y0 y1 y2 y3 y4 y5 y6 y7 y8; refine Jo.jdone (by kernel_rfl) ?_
      cases q
      · have hr : false = r := by rw [← HR.out]; refine (Bool.eq_false_iff.2 fun c => ?_).symm; have := (bxWits_iff.1 c).2 k (by rw [HLn.out]; exact hlt); rw [HQ.out] at this; cases this
        subst hr; go_wp2
        go_ret
        exact ⟨rfl, HB.out⟩
      · go_wp2
        go_roundw
        case rel => exact ⟨k + 1, by omega, by go_num, fun j hj => by
          rcases Nat.lt_succ_iff_lt_or_eq.1 hj with h | rfl
          · exact HE.out j h
          · exact HQ.out, HB.out⟩
        case measure => simp [intOf]; omega
    · obtain rfl : k = n := by omega
      have tlt : decide ((k : Int) < (k : Int)) = false := by simp
      have hr : true = r := by rw [← HR.out]; exact (bxWits_iff.2 ⟨HLn.out.trans HLp.out.symm, fun j hj => HE.out j (by rw [HLn.out] at hj; exact hj)⟩).symm
      subst hr; clear HE; go_wp2
      go_ret
      exact ⟨rfl, HB.out⟩
theorem jxHas {w : World} {A B : Option Addr} {n c m d : Nat} {l : List Sp} {p : List Int} {r : Bool} (ha : Il8 w A n c l) (hb : Nl w B m d p) (hr : bxHas l p = r) : Calls Tryd.prog 18 #[.slice A n c, .slice B m d] w (PB w r) := by
  by_cases hnm : n = m
  · subst hnm; exact jxHas_eq ha hb hr
  · have hr2 : false = r := by
      rw [← hr]
      exact (Bool.eq_false_iff.2 fun c => by have := bxHas_len c; rw [ha.1, hb.1] at this; exact hnm this).symm
    subst hr2
    have t1 : (((n : Nat) : Int) == ((m : Nat) : Int)) = false := by simp; omega
    clear ha hb hr
    go_enter Tryd.func18, Tryd.ntmps18
    go_wp2
    go_ret
    exact ⟨rfl, Below.refl _ _⟩
theorem jxWithin {w : World} {A B : Option Addr} {n c m d : Nat} {l : List Sp} {p : List Sp} {r : Bool} (ha : Il8 w A n c l) (hb : Il8 w B m d p) (hr : bxWit l p = r) : Calls Tryd.prog 20 #[.slice A n c, .slice B m d] w (PB w r) := by
  by_cases hnm : n = m
  · subst hnm; exact jxWithin_eq ha hb hr
  · have hr2 : false = r := by
      rw [← hr]; exact (if_neg (by rw [ha.1, hb.1]; exact hnm)).symm
    subst hr2
    have t1 : (((n : Nat) : Int) == ((m : Nat) : Int)) = false := by simp; omega
    clear ha hb hr
    go_enter Tryd.func20, Tryd.ntmps20
    go_wp2
    go_ret
    exact ⟨rfl, Below.refl _ _⟩
theorem jxMeet_eq {w : World} {A B : Option Addr} {n c d : Nat} {l p z : List Sp} (ha : Il8 w A n c l) (hb : Il8 w B n d p) (hn : n ≤ 100000) (hr : bxMeet l p = z) : Calls Tryd.prog 10 #[.slice A n c, .slice B n d] w (PL w n z) := by
  have HLn := Lib.hid ha.1; have HLp := Lib.hid hb.1; have hcap := ha.2.1; have hcap2 := hb.2.1; have hbig := ha.2.2.1; have hD1 := ha; have hD2 := hb
  have t1 : (((n : Nat) : Int) == ((n : Nat) : Int)) = true := by simp
  have HR := Lib.hid (show bxFair (List.zipWith meetI l p) = z from (if_pos (ha.1.trans hb.1.symm)).symm.trans hr)
  have HB0 := Lib.hid (Below.refl w.heap.size w); clear ha hb hr
  go_enter Tryd.func10, Tryd.ntmps10
  go_wp2
  go_loopw [5, 6] (fun v i wr => ∃ k A1 c1, k ≤ n ∧ v = .slice A1 k c1 ∧ i = .int .i64 ((k : Nat) : Int) ∧ FrInv w (List.zipWith meetI l p) A1 k c1 wr) (fun _ i _ => n - (intOf i).toNat)
  case atStart => exact ⟨0, none, 0, Nat.zero_le _, rfl, rfl, Ia.nil _ _, HB0.out⟩
  case round =>
    obtain ⟨k, A1, c1, hk, rfl, rfl, N1, hB⟩ := hrel; have HB := Lib.hid hB; clear hB HB0
    by_cases hlt : k < n
    · have tlt : decide ((k : Int) < (n : Int)) = true := by simp; omega
      have h1 := hD1.below HB.out; have h2 := hD2.below HB.out; obtain ⟨b, o, rfl, hcell⟩ := h1.2.2.2 (by omega); obtain ⟨e, D, s, M, E, D', s', M', E', x0, x1, x2, x3, x4, x5, x6, x7, x8, hM, hM', hx⟩ := hcell k hlt; obtain ⟨b', o', rfl, hcell2⟩ := h2.2.2.2 (by omega); obtain ⟨e2, G, g, P, Q, G', g', P', Q', y0, y1, y2, y3, y4, y5, y6, y7, y8, hP, hP', hy⟩ := hcell2 k hlt; clear hcell hcell2 h1 h2 hD1 hD2
      have i1 : (k : Int) < n := by omega
      have i2 : (0 : Int) ≤ k := by omega
      have hs := take_snoc (l := List.zipWith meetI l p) (k := k) (by rw [List.length_zipWith, HLn.out, HLp.out]; omega); rw [zip_getD (by rw [HLn.out]; exact hlt) (by rw [HLp.out]; exact hlt)] at hs; obtain ⟨q, hq⟩ : ∃ q, meetI (l.getD k none) (p.getD k none) = q := ⟨_, rfl⟩; rw [hq] at hs; have HQ := Lib.hid hq; have HX := Lib.hid hx; have HY := Lib.hid hy; have HS := Lib.hid hs; have hsz := HB.out.size
      clear hq hx hy hs
      go_upto_region 7 with (fail)
      refine Jo.rk [0, 1, 2, 3, 4, 5, 6, 7, 8, 9, 10] [some 18, some 19, some 20, some 21, some 22, some 23, some 24, some 25, some 26, some 27, some 28, some 29, some 5] [[], [], [], [1, 2], [3], [], [], [5, 6], [7], [4, 8], [9], [], []] 13 2 [Jo.Fact.eq (.slice A1 k c1), Jo.Fact.eq (.slice (some ⟨b, o, none⟩) n c), Jo.Fact.eq (.int .i64 ((k : Nat) : Int)), Jo.Fact.eq (.pointer (some ⟨b, o + k * 9, none⟩)), Jo.q9 e D s M E D' s' M' E', Jo.Fact.eq (.slice (some ⟨b', o', none⟩) n d), Jo.Fact.eq (.int .i64 ((k : Nat) : Int)), Jo.Fact.eq (.pointer (some ⟨b', o' + k * 9, none⟩)), Jo.q9 e2 G g P Q G' g' P' Q', Jo.Fact.iv q, Jo.Fact.ib wr.heap.size 1 [q], Jo.Fact.any, Jo.Fact.any] (by kernel_rfl) (by kernel_rfl) (by decide) rfl ?_ ?_
      · iterate 3 (refine Jo.jm rfl ?_ ?_; rotate_left)
        refine Jo.jm rfl ?_ ?_
        · rintro wj hJ _ rfl _ rfl K hK; simp only [Jo.z] at hK ⊢; go_simp
          exact hK.out _ _ (by first | rfl | simp) (br _ _)
        refine Jo.jm rfl ?_ ?_
        · rintro wj hJ _ rfl K hK; simp only [Jo.z] at hK ⊢; have cx0 := (hJ.cell (block_lt_of_cell x0)).trans x0; have cx1 := (hJ.cell (block_lt_of_cell x1)).trans x1; have cx2 := (hJ.cell (block_lt_of_cell x2)).trans x2; have cx3 := (hJ.cell (block_lt_of_cell x3)).trans x3; have cx4 := (hJ.cell (block_lt_of_cell x4)).trans x4; have cx5 := (hJ.cell (block_lt_of_cell x5)).trans x5; have cx6 := (hJ.cell (block_lt_of_cell x6)).trans x6
          have cx7 := (hJ.cell (block_lt_of_cell x7)).trans x7; have cx8 := (hJ.cell (block_lt_of_cell x8)).trans x8; go_simp; exact hK.out _ _ rfl (br _ _)
        iterate 2 (refine Jo.jm rfl ?_ ?_; rotate_left)
        refine Jo.jm rfl ?_ ?_
        · rintro wj hJ _ rfl _ rfl K hK; simp only [Jo.z] at hK ⊢; go_simp
          exact hK.out _ _ (by first | rfl | simp) (br _ _)
        refine Jo.jm rfl ?_ ?_
        · rintro wj hJ _ rfl K hK; simp only [Jo.z] at hK ⊢; have cy0 := (hJ.cell (block_lt_of_cell y0)).trans y0; have cy1 := (hJ.cell (block_lt_of_cell y1)).trans y1; have cy2 := (hJ.cell (block_lt_of_cell y2)).trans y2; have cy3 := (hJ.cell (block_lt_of_cell y3)).trans y3; have cy4 := (hJ.cell (block_lt_of_cell y4)).trans y4; have cy5 := (hJ.cell (block_lt_of_cell y5)).trans y5; have cy6 := (hJ.cell (block_lt_of_cell y6)).trans y6
          have cy7 := (hJ.cell (block_lt_of_cell y7)).trans y7; have cy8 := (hJ.cell (block_lt_of_cell y8)).trans y8; go_simp; exact hK.out _ _ rfl (br _ _)
        refine Jo.jm rfl ?_ ?_
        · rintro wj hJ _ rfl _ rfl K hK; simp only [Jo.z] at hK ⊢; go_simp; refine (jvTwo hM hM' hP hP' HX.out HY.out HQ.out).mono ?_; rintro ee wk ⟨e20, K20, s20, M20, E20, K20b, s20b, M20b, E20b, rfl, v20, B⟩; exact hK.out _ _ ⟨e20, K20, s20, M20, E20, K20b, s20b, M20b, E20b, rfl, v20⟩ B
        refine Jo.jm rfl ?_ ?_
        · rintro wj hJ _ ⟨e20, K20, s20, M20, E20, K20b, s20b, M20b, E20b, rfl, v20⟩ K hK; simp only [Jo.z] at hK ⊢; go_simp; exact hK.out _ _ ⟨_, 1, rfl, (Ia.lit (Bo.new _ _ _) v20).lower hJ.size⟩ (bel1 _ _)
        exact Jo.Steps.nil
        all_goals (rintro wj hJ; (repeat rintro _ rfl); intro K hK; simp only [Jo.z] at hK ⊢; go_simp; exact hK.out _ _ rfl (br _ _))
      rintro w2 hJ _ rfl _ rfl _ rfl _ _ _ rfl _ rfl _ rfl _ _ _ rfl _ ⟨e20, K20, s20, M20, E20, K20b, s20b, M20b, E20b, rfl, v20⟩ _ ⟨A21, c21, rfl, N21⟩ -; simp only [Jo.z]; replace N1 := N1.below hJ; replace HB := Hqb HB hJ
      refine Jo.jnext (i := 11) (o := ⟨some 29, _, _, _, _, _⟩) (by kernel_rfl) rfl (fun K hK => ?_)
      refine step_ia rfl _ _ rfl rfl rfl N1 N21 (by decide) (by omega) HB.out.size ?_
      intro A3 c3 wD N3 G1 at1
      refine hK.out _ _ ?_; clear hK K; simp only [Act.put, List.setIfInBounds_toArray, List.set_cons_zero, List.set_cons_succ]
      replace HB := Lib.hid (HB.out.grown G1 HB.out.size (fun k hk => (N1.own_lt k hk).1))
      clear N1 N21 G1 at1 x0 x1 x2 x3 x4 x5 x6 x7 x8 y0 y1 y2 y3 y4 y5 y6 y7 y8
      refine Jo.jnext (i := 12) (o := ⟨some 5, _, _, _, _, _⟩) (by kernel_rfl) rfl (fun K hK => ?_)
      go_simp; refine hK.out _ _ ?_; clear hK K; refine Jo.jdone (by kernel_rfl) ?_; go_wp2
      go_roundw
      case rel => exact ⟨k + 1, A3, c3, by omega, rfl, by go_num, by rw [HS.out]; exact N3, HB.out⟩
      case measure => simp [intOf]; omega
    · obtain rfl : k = n := by omega
      have tlt : decide ((k : Int) < (k : Int)) = false := by simp
      have N2 := N1; rw [List.take_of_length_le (by rw [List.length_zipWith, HLn.out, HLp.out]; omega)] at N2; have hsz := HB.out.size; clear N1
      go_wp2_with fail
      refine (jxFair (N2.il (by omega)) hn HR.out).mono ?_; rintro ee w9 ⟨A9, c9, rfl, N9, B⟩; replace HB := Hqb HB B; clear B N2; go_wp2
      go_ret
      exact ⟨A9, c9, rfl, N9.lower hsz, HB.out⟩
theorem jxHull_eq {w : World} {A B : Option Addr} {n c d : Nat} {l p z : List Sp} (ha : Il8 w A n c l) (hb : Il8 w B n d p) (hn : n ≤ 100000) (hr : bxHull l p = z) : Calls Tryd.prog 12 #[.slice A n c, .slice B n d] w (PL w n z) := by
  have HLn := Lib.hid ha.1; have HLp := Lib.hid hb.1; have hcap := ha.2.1; have hcap2 := hb.2.1; have hbig := ha.2.2.1; have hD1 := ha; have hD2 := hb
  have t1 : (((n : Nat) : Int) == ((n : Nat) : Int)) = true := by simp
  obtain ⟨u, hu⟩ : ∃ u, bxEmp l = u := ⟨_, rfl⟩; obtain ⟨v, hv⟩ : ∃ v, bxEmp p = v := ⟨_, rfl⟩; have HU := Lib.hid hu; have HV := Lib.hid hv
  have hr2 : (if u = true then bxFair p else if v = true then bxFair l else List.zipWith hullI l p) = z := by
    rw [← hr, ← hu, ← hv]; exact (if_pos (ha.1.trans hb.1.symm)).symm
  have HR := Lib.hid hr2; clear hr hr2 hu hv
  go_enter Tryd.func12, Tryd.ntmps12
  go_wp2_with fail
  refine (jxEmpty ha HU.out).mono ?_; rintro ee w2 ⟨rfl, B⟩; have HB0 := Lib.hid B; clear B ha
  go_wp2_with fail
  refine (jxEmpty (hb.below HB0.out) HV.out).mono ?_; rintro ee w3 ⟨rfl, B⟩; replace HB0 := Lib.hid (bt HB0.out B); clear B hb
  cases u
  case true =>
    have HR2 := Lib.hid (show bxFair p = z from HR.out)
    clear HR
    go_wp2_with fail
    refine (jxFair (hD2.below HB0.out) hn HR2.out).mono ?_; rintro ee w9 ⟨A9, c9, rfl, N9, B⟩; have hsz := HB0.out.size; replace HB0 := Lib.hid (bt HB0.out B); clear B hD1 hD2; go_wp2
    go_ret
    exact ⟨A9, c9, rfl, N9.lower hsz, HB0.out⟩
  cases v
  case true =>
    have HR2 := Lib.hid (show bxFair l = z from HR.out)
    clear HR
    go_wp2_with fail
    refine (jxFair (hD1.below HB0.out) hn HR2.out).mono ?_; rintro ee w9 ⟨A9, c9, rfl, N9, B⟩; have hsz := HB0.out.size; replace HB0 := Lib.hid (bt HB0.out B); clear B hD1 hD2; go_wp2
    go_ret
    exact ⟨A9, c9, rfl, N9.lower hsz, HB0.out⟩
  have HR2 := Lib.hid (show List.zipWith hullI l p = z from HR.out)
  clear HR; go_wp2
  go_loopw [7, 8] (fun v i wr => ∃ k A1 c1, k ≤ n ∧ v = .slice A1 k c1 ∧ i = .int .i64 ((k : Nat) : Int) ∧ FrInv w (List.zipWith hullI l p) A1 k c1 wr) (fun _ i _ => n - (intOf i).toNat)
  case atStart => exact ⟨0, none, 0, Nat.zero_le _, rfl, rfl, Ia.nil _ _, HB0.out⟩
  case round =>
    obtain ⟨k, A1, c1, hk, rfl, rfl, N1, hB⟩ := hrel; have HB := Lib.hid hB; clear hB HB0
    by_cases hlt : k < n
    · have tlt : decide ((k : Int) < (n : Int)) = true := by simp; omega
      have h1 := hD1.below HB.out; have h2 := hD2.below HB.out; obtain ⟨b, o, rfl, hcell⟩ := h1.2.2.2 (by omega); obtain ⟨e, D, s, M, E, D', s', M', E', x0, x1, x2, x3, x4, x5, x6, x7, x8, hM, hM', hx⟩ := hcell k hlt; obtain ⟨b', o', rfl, hcell2⟩ := h2.2.2.2 (by omega); obtain ⟨e2, G, g, P, Q, G', g', P', Q', y0, y1, y2, y3, y4, y5, y6, y7, y8, hP, hP', hy⟩ := hcell2 k hlt; clear hcell hcell2 h1 h2 hD1 hD2
      have i1 : (k : Int) < n := by omega
      have i2 : (0 : Int) ≤ k := by omega
      have hs := take_snoc (l := List.zipWith hullI l p) (k := k) (by rw [List.length_zipWith, HLn.out, HLp.out]; omega); rw [zip_getD (by rw [HLn.out]; exact hlt) (by rw [HLp.out]; exact hlt)] at hs; obtain ⟨q, hq⟩ : ∃ q, hullI (l.getD k none) (p.getD k none) = q := ⟨_, rfl⟩; rw [hq] at hs; have HQ := Lib.hid hq; have HX := Lib.hid hx; have HY := Lib.hid hy; have HS := Lib.hid hs; have hsz := HB.out.size
      clear hq hx hy hs
      go_upto_region 13 with (fail)
      refine Jo.rk [0, 1, 2, 3, 4, 5, 6, 7, 8, 9, 10] [some 30, some 31, some 32, some 33, some 34, some 35, some 36, some 37, some 38, some 39, some 40, some 41, some 7] [[], [], [], [1, 2], [3], [], [], [5, 6], [7], [4, 8], [9], [], []] 13 2 [Jo.Fact.eq (.slice A1 k c1), Jo.Fact.eq (.slice (some ⟨b, o, none⟩) n c), Jo.Fact.eq (.int .i64 ((k : Nat) : Int)), Jo.Fact.eq (.pointer (some ⟨b, o + k * 9, none⟩)), Jo.q9 e D s M E D' s' M' E', Jo.Fact.eq (.slice (some ⟨b', o', none⟩) n d), Jo.Fact.eq (.int .i64 ((k : Nat) : Int)), Jo.Fact.eq (.pointer (some ⟨b', o' + k * 9, none⟩)), Jo.q9 e2 G g P Q G' g' P' Q', Jo.Fact.iv q, Jo.Fact.ib wr.heap.size 1 [q], Jo.Fact.any, Jo.Fact.any] (by kernel_rfl) (by kernel_rfl) (by decide) rfl ?_ ?_
      · iterate 3 (refine Jo.jm rfl ?_ ?_; rotate_left)
        refine Jo.jm rfl ?_ ?_
        · rintro wj hJ _ rfl _ rfl K hK; simp only [Jo.z] at hK ⊢; go_simp
          exact hK.out _ _ (by first | rfl | simp) (br _ _)
        refine Jo.jm rfl ?_ ?_
        · rintro wj hJ _ rfl K hK; simp only [Jo.z] at hK ⊢; have cx0 := (hJ.cell (block_lt_of_cell x0)).trans x0; have cx1 := (hJ.cell (block_lt_of_cell x1)).trans x1; have cx2 := (hJ.cell (block_lt_of_cell x2)).trans x2; have cx3 := (hJ.cell (block_lt_of_cell x3)).trans x3; have cx4 := (hJ.cell (block_lt_of_cell x4)).trans x4; have cx5 := (hJ.cell (block_lt_of_cell x5)).trans x5; have cx6 := (hJ.cell (block_lt_of_cell x6)).trans x6
          have cx7 := (hJ.cell (block_lt_of_cell x7)).trans x7; have cx8 := (hJ.cell (block_lt_of_cell x8)).trans x8; go_simp; exact hK.out _ _ rfl (br _ _)
        iterate 2 (refine Jo.jm rfl ?_ ?_; rotate_left)
        refine Jo.jm rfl ?_ ?_
        · rintro wj hJ _ rfl _ rfl K hK; simp only [Jo.z] at hK ⊢; go_simp
          exact hK.out _ _ (by first | rfl | simp) (br _ _)
        refine Jo.jm rfl ?_ ?_
        · rintro wj hJ _ rfl K hK; simp only [Jo.z] at hK ⊢; have cy0 := (hJ.cell (block_lt_of_cell y0)).trans y0; have cy1 := (hJ.cell (block_lt_of_cell y1)).trans y1; have cy2 := (hJ.cell (block_lt_of_cell y2)).trans y2; have cy3 := (hJ.cell (block_lt_of_cell y3)).trans y3; have cy4 := (hJ.cell (block_lt_of_cell y4)).trans y4; have cy5 := (hJ.cell (block_lt_of_cell y5)).trans y5; have cy6 := (hJ.cell (block_lt_of_cell y6)).trans y6
          have cy7 := (hJ.cell (block_lt_of_cell y7)).trans y7; have cy8 := (hJ.cell (block_lt_of_cell y8)).trans y8; go_simp; exact hK.out _ _ rfl (br _ _)
        refine Jo.jm rfl ?_ ?_
        · rintro wj hJ _ rfl _ rfl K hK; simp only [Jo.z] at hK ⊢; go_simp; refine (jvBoth hM hM' hP hP' HX.out HY.out HQ.out).mono ?_; rintro ee wk ⟨e20, K20, s20, M20, E20, K20b, s20b, M20b, E20b, rfl, v20, B⟩; exact hK.out _ _ ⟨e20, K20, s20, M20, E20, K20b, s20b, M20b, E20b, rfl, v20⟩ B
        refine Jo.jm rfl ?_ ?_
        · rintro wj hJ _ ⟨e20, K20, s20, M20, E20, K20b, s20b, M20b, E20b, rfl, v20⟩ K hK; simp only [Jo.z] at hK ⊢; go_simp; exact hK.out _ _ ⟨_, 1, rfl, (Ia.lit (Bo.new _ _ _) v20).lower hJ.size⟩ (bel1 _ _)
        exact Jo.Steps.nil
        all_goals (rintro wj hJ; (repeat rintro _ rfl); intro K hK; simp only [Jo.z] at hK ⊢; go_simp; exact hK.out _ _ rfl (br _ _))
      rintro w2 hJ _ rfl _ rfl _ rfl _ _ _ rfl _ rfl _ rfl _ _ _ rfl _ ⟨e20, K20, s20, M20, E20, K20b, s20b, M20b, E20b, rfl, v20⟩ _ ⟨A21, c21, rfl, N21⟩ -; simp only [Jo.z]; replace N1 := N1.below hJ; replace HB := Hqb HB hJ
      refine Jo.jnext (i := 11) (o := ⟨some 41, _, _, _, _, _⟩) (by kernel_rfl) rfl (fun K hK => ?_)
      refine step_ia rfl _ _ rfl rfl rfl N1 N21 (by decide) (by omega) HB.out.size ?_
      intro A3 c3 wD N3 G1 at1
      refine hK.out _ _ ?_; clear hK K; simp only [Act.put, List.setIfInBounds_toArray, List.set_cons_zero, List.set_cons_succ]
      replace HB := Lib.hid (HB.out.grown G1 HB.out.size (fun k hk => (N1.own_lt k hk).1))
      clear N1 N21 G1 at1 x0 x1 x2 x3 x4 x5 x6 x7 x8 y0 y1 y2 y3 y4 y5 y6 y7 y8
      refine Jo.jnext (i := 12) (o := ⟨some 7, _, _, _, _, _⟩) (by kernel_rfl) rfl (fun K hK => ?_)
      go_simp; refine hK.out _ _ ?_; clear hK K; refine Jo.jdone (by kernel_rfl) ?_; go_wp2
      go_roundw
      case rel => exact ⟨k + 1, A3, c3, by omega, rfl, by go_num, by rw [HS.out]; exact N3, HB.out⟩
      case measure => simp [intOf]; omega
    · obtain rfl : k = n := by omega
      have tlt : decide ((k : Int) < (k : Int)) = false := by simp
      have N2 := N1; rw [List.take_of_length_le (by rw [List.length_zipWith, HLn.out, HLp.out]; omega), HR2.out] at N2; clear N1; go_wp2
      go_ret
      exact ⟨A1, c1, rfl, N2, HB.out⟩
theorem jxMeet {w : World} {A B : Option Addr} {n c m d : Nat} {l p z : List Sp} (ha : Il8 w A n c l) (hb : Il8 w B m d p) (hn : n ≤ 100000) (hr : bxMeet l p = z) : Calls Tryd.prog 10 #[.slice A n c, .slice B m d] w (PL w z.length z) := by
  by_cases hnm : n = m
  · subst hnm
    have hz : z.length = n := by rw [← hr, bxMeet_len (ha.1.trans hb.1.symm)]; exact ha.1
    rw [hz]; exact jxMeet_eq ha hb hn hr
  · have hr2 : [] = z := by
      rw [← hr]; exact (if_neg (by rw [ha.1, hb.1]; exact hnm)).symm
    subst hr2
    have t1 : (((n : Nat) : Int) == ((m : Nat) : Int)) = false := by simp; omega
    clear ha hb hr
    go_enter Tryd.func10, Tryd.ntmps10
    go_wp2
    go_ret
    exact ⟨none, 0, rfl, Ia.nil _ _, Below.refl _ _⟩
theorem jxHull {w : World} {A B : Option Addr} {n c m d : Nat} {l p z : List Sp} (ha : Il8 w A n c l) (hb : Il8 w B m d p) (hn : n ≤ 100000) (hr : bxHull l p = z) : Calls Tryd.prog 12 #[.slice A n c, .slice B m d] w (PL w z.length z) := by
  by_cases hnm : n = m
  · subst hnm
    have hz : z.length = n := by rw [← hr, bxHull_len (ha.1.trans hb.1.symm)]; exact ha.1
    rw [hz]; exact jxHull_eq ha hb hn hr
  · have hr2 : [] = z := by
      rw [← hr]; exact (if_neg (by rw [ha.1, hb.1]; exact hnm)).symm
    subst hr2
    have t1 : (((n : Nat) : Int) == ((m : Nat) : Int)) = false := by simp; omega
    clear ha hb hr
    go_enter Tryd.func12, Tryd.ntmps12
    go_wp2
    go_ret
    exact ⟨none, 0, rfl, Ia.nil _ _, Below.refl _ _⟩
theorem Ia.row {w : World} {b1 b2 n c d : Nat} {A B : Option Addr} {l : List Sp} (h1 : Ia w b1 A n c l) (h2 : Ia w b2 B n d l) (hn : n ≤ 100000) : ∃ r, Iq w A n c r ∧ Iq w B n d r := by
  obtain ⟨r1, o1, _, k1⟩ := h1.io; obtain ⟨r2, o2, _, k2⟩ := h2.io
  have e : r1 = r2 := by
    apply List.ext_getElem?
    intro k
    have l1 := o1.2.1; have l2 := o2.2.1
    rcases h : r1[k]? with _ | u
    · rw [List.getElem?_eq_none_iff] at h; rw [List.getElem?_eq_none (by omega)]
    · have hk := (List.getElem?_eq_some_iff.1 h).1
      have h' : r2[k]? = some r2[k] := List.getElem?_eq_getElem (by omega)
      rw [h', ciV_uniq (k1 k u h) (k2 k _ h')]
  subst e; exact ⟨r1, o1.iq (by omega), o2.iq (by omega)⟩
theorem jxSame {w : World} {A B : Option Addr} {n c d : Nat} {r : List V9} (ha : Iq w A n c r) (hb : Iq w B n d r) : Calls Tryd.prog 8 #[.slice A n c, .slice B n d] w (PB w true) := by
  have hcap := ha.2.1; have hcap2 := hb.2.1; have hbig := ha.2.2.1; have hrl := ha.1; have hD1 := ha; have hD2 := hb
  have t1 : (((n : Nat) : Int) == ((n : Nat) : Int)) = true := by simp
  clear ha hb
  go_enter Tryd.func8, Tryd.ntmps8
  go_wp2
  go_loopw [5] (fun i wr => ∃ k, k ≤ n ∧ i = .int .i64 ((k : Nat) : Int) ∧ Below w.heap.size w wr) (fun i _ => n - (intOf i).toNat)
  case atStart => exact ⟨0, Nat.zero_le _, rfl, Below.refl _ _⟩
  case round =>
    obtain ⟨k, hk, rfl, hB⟩ := hrel; have HB := Lib.hid hB; clear hB
    by_cases hlt : k < n
    · have tlt : decide ((k : Int) < (n : Int)) = true := by simp; omega
      have h1 := hD1.below HB.out; have h2 := hD2.below HB.out; obtain ⟨v, hv⟩ : ∃ v, r[k]? = some v := ⟨r[k], List.getElem?_eq_getElem (by omega)⟩; obtain ⟨e, D, s, M, E, D', s', M', E'⟩ := v; obtain ⟨b, o, rfl, x0, x1, x2, x3, x4, x5, x6, x7, x8⟩ := h1.at hlt hv; obtain ⟨b', o', rfl, y0, y1, y2, y3, y4, y5, y6, y7, y8⟩ := h2.at hlt hv; clear h1 h2 hD1 hD2 hv
      have i1 : (k : Int) < n := by omega
      have i2 : (0 : Int) ≤ k := by omega
      go_upto_region 6 with (fail)
      refine Jo.rk [0, 1, 2, 3, 4, 5, 6, 7, 8] [some 17, some 18, some 19, some 20, some 21, some 22, some 23, some 24, some 25] [[], [], [0, 1], [2], [], [], [4, 5], [6], [3, 7]] 9 0 [Jo.Fact.eq (.slice (some ⟨b, o, none⟩) n c), Jo.Fact.eq (.int .i64 ((k : Nat) : Int)), Jo.Fact.eq (.pointer (some ⟨b, o + k * 9, none⟩)), Jo.q9 e D s M E D' s' M' E', Jo.Fact.eq (.slice (some ⟨b', o', none⟩) n d), Jo.Fact.eq (.int .i64 ((k : Nat) : Int)), Jo.Fact.eq (.pointer (some ⟨b', o' + k * 9, none⟩)), Jo.q9 e D s M E D' s' M' E', Jo.qb false] (by kernel_rfl) (by kernel_rfl) (by decide) rfl ?_ ?_
      · iterate 2 (refine Jo.jm rfl ?_ ?_; rotate_left)
        refine Jo.jm rfl ?_ ?_
        · rintro wj hJ _ rfl _ rfl K hK; simp only [Jo.z] at hK ⊢; go_simp
          exact hK.out _ _ (by first | rfl | simp) (br _ _)
        refine Jo.jm rfl ?_ ?_
        · rintro wj hJ _ rfl K hK; simp only [Jo.z] at hK ⊢; have cx0 := (hJ.cell (block_lt_of_cell x0)).trans x0; have cx1 := (hJ.cell (block_lt_of_cell x1)).trans x1; have cx2 := (hJ.cell (block_lt_of_cell x2)).trans x2; have cx3 := (hJ.cell (block_lt_of_cell x3)).trans x3; have cx4 := (hJ.cell (block_lt_of_cell x4)).trans x4; have cx5 := (hJ.cell (block_lt_of_cell x5)).trans x5; have cx6 := (hJ.cell (block_lt_of_cell x6)).trans x6
          have cx7 := (hJ.cell (block_lt_of_cell x7)).trans x7; have cx8 := (hJ.cell (block_lt_of_cell x8)).trans x8; go_simp; exact hK.out _ _ rfl (br _ _)
        iterate 2 (refine Jo.jm rfl ?_ ?_; rotate_left)
        refine Jo.jm rfl ?_ ?_
        · rintro wj hJ _ rfl _ rfl K hK; simp only [Jo.z] at hK ⊢; go_simp
          exact hK.out _ _ (by first | rfl | simp) (br _ _)
        refine Jo.jm rfl ?_ ?_
        · rintro wj hJ _ rfl K hK; simp only [Jo.z] at hK ⊢; have cy0 := (hJ.cell (block_lt_of_cell y0)).trans y0; have cy1 := (hJ.cell (block_lt_of_cell y1)).trans y1; have cy2 := (hJ.cell (block_lt_of_cell y2)).trans y2; have cy3 := (hJ.cell (block_lt_of_cell y3)).trans y3; have cy4 := (hJ.cell (block_lt_of_cell y4)).trans y4; have cy5 := (hJ.cell (block_lt_of_cell y5)).trans y5; have cy6 := (hJ.cell (block_lt_of_cell y6)).trans y6
          have cy7 := (hJ.cell (block_lt_of_cell y7)).trans y7; have cy8 := (hJ.cell (block_lt_of_cell y8)).trans y8; go_simp; exact hK.out _ _ rfl (br _ _)
        refine Jo.jm rfl ?_ ?_
        · rintro wj hJ _ rfl _ rfl K hK; simp only [Jo.z] at hK ⊢; go_simp
          exact hK.out _ _ (by first | rfl | (show Value.bool _ = Value.bool _; simp)) (br _ _)
        exact Jo.Steps.nil
        all_goals (rintro wj hJ; (repeat rintro _ rfl); intro K hK; simp only [Jo.z] at hK ⊢; go_simp; exact hK.out _ _ rfl (br _ _))
      rintro w2 hJ _ rfl _ rfl _ _ _ rfl _ rfl _ rfl _ _ _ rfl _ rfl -; simp only [Jo.z]; replace HB := Hqb HB hJ; refine Jo.jdone (by kernel_rfl) ?_; clear x0 x1 x2 x3 x4 x5 x6 x7 x8 y0 y1 y2 y3 y4 y5 y6 y7 y8; go_wp2
      go_roundw
      case rel => exact ⟨k + 1, by omega, by go_num, HB.out⟩
      case measure => simp [intOf]; omega
    · obtain rfl : k = n := by omega
      have tlt : decide ((k : Int) < (k : Int)) = false := by simp
      go_wp2
      go_ret
      exact ⟨rfl, HB.out⟩
end Go.Proofs.YtpnmphofengoeaaDoor
