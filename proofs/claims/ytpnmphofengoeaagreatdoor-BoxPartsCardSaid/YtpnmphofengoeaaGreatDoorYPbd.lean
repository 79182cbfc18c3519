/-
  Contracts and words that the statement's proof rests on: Xh, Xf, Xg, Xj, Xi, Xk.
-/
import Derived.Test.YtpnmphofengoeaaGreatDoorYPax
import Derived.Test.YtpnmphofengoeaaGreatDoorYPbc
namespace Go.Proofs.YtpnmphofengoeaaGreatDoor
set_option maxHeartbeats 8000000
open Go.RowKit
set_option linter.unusedVariables false
set_option linter.unusedSimpArgs false
set_option maxRecDepth 100000

def bxAt (l : List Sp) (k : Nat) : Int := if k = 0 then -1 else (bxArg (bxWid l) (k - 1) : Int)
def bxMost (l : List Sp) (k : Nat) : Int := if k = 0 then -19342822337206103650074625 else bxWid l (bxArg (bxWid l) (k - 1))
theorem bxAt_step {l : List Sp} {k : Nat} (h : ∀ y ∈ l, SpOk y) : (bxMost l k < bxWid l k → bxAt l (k + 1) = (k : Int) ∧ bxMost l (k + 1) = bxWid l k) ∧ (¬ bxMost l k < bxWid l k → bxAt l (k + 1) = bxAt l k ∧ bxMost l (k + 1) = bxMost l k) := by
  unfold bxMost bxAt
  rw [if_neg (Nat.succ_ne_zero k), if_neg (Nat.succ_ne_zero k), Nat.add_sub_cancel]
  cases k with
  | zero =>
    have := (wid_nn (getD_ok h 0)).1
    refine ⟨fun _ => ⟨rfl, rfl⟩, fun c => absurd ?_ c⟩
    rw [if_pos rfl]
    unfold bxWid
    omega
  | succ k =>
    rw [if_neg (Nat.succ_ne_zero k), if_neg (Nat.succ_ne_zero k), Nat.add_sub_cancel, bxArg_succ]
    refine ⟨fun c => ?_, fun c => ?_⟩
    · rw [if_pos c]; exact ⟨rfl, rfl⟩
    · rw [if_neg c]; exact ⟨rfl, rfl⟩
theorem bxAt_end {l : List Sp} (h1 : bxEmp l = false) : bxAt l l.length = bxWidest l := by
  unfold bxAt bxWidest
  by_cases h : l.length = 0
  · rw [if_pos h, if_pos (.inr h)]
  · rw [if_neg h, if_neg (fun c => c.elim (fun c => by rw [h1] at c; cases c) h)]
def WdInv (w : World) (g4 : Nat) (l : List Sp) (k : Nat) (wr : World) : Prop := ∃ K s M E, Bo wr g4 #[.int .i64 K, .bool s, .int .u64 M, .int .i64 E] 32 ∧ Fq K s M E (bxMost l k) ∧ Tb wr ∧ Below w.heap.size w wr
theorem kxWidest {w : World} {A : Option Addr} {n c : Nat} {l : List Sp} {r : Int} (hT : Tb w) (h : Il8 w A n c l) (hr : bxWidest l = r) : Calls Tryz.prog 9 #[.slice A n c] w (PI w r) := by
  have HLn := Lib.hid h.1; have hcap := h.2.1; have hbig := h.2.2.1; have HOK := Lib.hid h.ok; have hD0 := h; obtain ⟨p, hp⟩ : ∃ p, bxEmp l = p := ⟨_, rfl⟩; have HP := Lib.hid hp
  cases p
  · rw [← bxAt_end hp, HLn.out] at hr; have HR := Lib.hid hr; clear hr hp
    go_enter Tryz.func9, Tryz.ntmps9
    go_wp2_with fail
    refine (kxEmpty h HP.out).mono ?_; rintro ee w2 ⟨rfl, B⟩; replace h := h.below B; replace hT := hT.below B; have HB := Lib.hid B; clear B
    go_wp2_with fail
    refine (nInfE true).mono ?_; rintro ee w3 ⟨rfl, B⟩; replace h := h.below B; replace hT := hT.below B; replace HB := Hqb HB B; clear B
    go_upto_region 4 with (fail)
    have X4 := Bo.new w3 #[.int .i64 2, .bool true, .int .u64 0, .int .i64 0] 32; have hb := bel1 w3 (.cells #[.int .i64 2, .bool true, .int .u64 0, .int .i64 0] 32); replace h := h.below hb; replace hT := hT.below hb; have hz := HB.out.size; replace HB := Hqb HB hb; clear hb; generalize hw4 : w3.alloc (.cells #[.int .i64 2, .bool true, .int .u64 0, .int .i64 0] 32) = w4 at *; clear hw4
    generalize w3.heap.size = g4 at *; clear h; go_wp2
    go_loopw [3, 13] (fun at_ i wr => ∃ k, k ≤ n ∧ at_ = .int .i64 (bxAt l k) ∧ i = .int .i64 ((k : Nat) : Int) ∧ WdInv w g4 l k wr) (fun _ i _ => n - (intOf i).toNat)
    case atStart => exact ⟨0, Nat.zero_le _, rfl, rfl, _, _, _, _, X4, fq_inf2 true, hT, HB.out⟩
    case round =>
      obtain ⟨k, hk, rfl, rfl, K0, s0, M0, E0, X4, q0, hT, hB⟩ := hrel; have HB := Lib.hid hB; clear hB
      by_cases hlt : k < n
      · have tlt : decide ((k : Int) < (n : Int)) = true := by simp; omega
        have h := hD0.below HB.out; obtain ⟨b, o, rfl, hcell⟩ := h.2.2.2 (by omega); obtain ⟨e, D, s, M, E, D', s', M', E', x0, x1, x2, x3, x4, x5, x6, x7, x8, hM, hM', hx⟩ := hcell k hlt; clear hcell h hD0
        have i1 : (k : Int) < n := by omega
        have i2 : (0 : Int) ≤ k := by omega
        obtain ⟨x, hX⟩ : ∃ x, rkI e D s M E D' s' M' E' = x := ⟨_, rfl⟩
        have hW : widI x = bxWid l k := by rw [← hX, hx]; rfl
        have HX := Lib.hid hX; have HW := Lib.hid hW; have hst := bxAt_step (k := k) HOK.out; obtain ⟨y, hy⟩ : ∃ y, bxWid l k = y := ⟨_, rfl⟩; obtain ⟨m, hm⟩ : ∃ m, bxMost l k = m := ⟨_, rfl⟩; rw [hy, hm] at hst; rw [hy] at HW; rw [hm] at q0; obtain ⟨c0, hc⟩ : ∃ c0, cmpI y m = c0 := ⟨_, rfl⟩; have hg := cmp_gtE hc; have HC := Lib.hid hc; have HST := Lib.hid hst; clear hst hc hy hm hX hx hW; have hsz := HB.out.size
        go_upto_region 7 with (fail)
        clear x0 x1 x2 x3 x4 x5 x6 x7 x8; have lX6 := Nat.le_refl (World.heap wr).size; have nX6X4 := X4.lt; generalize hWn : wr.alloc _ = w5 at *; obtain ⟨X6, BW⟩ := Bo.nw hWn; clear hWn; replace X4 := X4.below BW; replace hT := hT.below BW; replace HB := Hqb HB BW; clear BW; clear lX6; have xX6 := X6.cell
        go_wp2_with fail
        refine (kvWidth hT hM hM' HX.out HW.out).mono ?_; rintro ee w6 ⟨K1, s1, M1, E1, rfl, q1, B⟩; clear xX6; replace X4 := X4.below B; replace X6 := X6.below B; replace hT := hT.below B; replace HB := Hqb HB B; clear B; clear HX hM hM' HW X6
        go_upto_region 8 with (fail)
        have l46 := X4.lt; have lX7 := Nat.le_refl (World.heap w6).size; have nX7X4 := X4.lt; generalize hWn : w6.alloc _ = w7 at *; obtain ⟨X7, BW⟩ := Bo.nw hWn; clear hWn; replace X4 := X4.below BW; replace hT := hT.below BW; replace HB := Hqb HB BW; clear BW; clear lX7; have xX7 := X7.cell; have xX4 := X4.cell
        go_wp2_with fail
        refine (nCmp (z := c0) q1.top q0.top (by rw [q1.rk, q0.rk]; exact HC.out)).mono ?_; rintro ee w8 ⟨rfl, B⟩; clear xX7 xX4; replace X4 := X4.below B; replace X7 := X7.below B; replace hT := hT.below B; replace HB := Hqb HB B; clear B; clear HC
        by_cases hgt : m < y
        · rw [decide_eq_true hgt] at hg; go_wp2; refine Jo.rk [0, 1, 2] [some 24, some 25, some 3, none] [[], [], [0], []] 4 1 [Jo.Fact.eq (.int .i64 ((k : Nat) : Int)), Jo.q4 K1 s1 M1 E1, Jo.Fact.eq (.int .i64 ((k : Nat) : Int)), Jo.Fact.any] (by kernel_rfl) (by kernel_rfl) (by decide) rfl ?_ ?_
          · iterate 3 (refine Jo.jm rfl ?_ ?_; rotate_left)
            exact Jo.Steps.nil
            all_goals (rintro wj hJ; (repeat rintro _ rfl); intro K hK; simp only [Jo.z] at hK ⊢; have xX7 := (X7.below hJ).cell; go_simp; exact hK.out _ _ rfl (br _ _))
          rintro w9 hJ _ rfl _ rfl _ rfl -; simp only [Jo.z]; replace X4 := X4.below hJ; replace X7 := X7.below hJ; replace hT := hT.below hJ; replace HB := Hqb HB hJ; have xX4 := X4.cell; have zX40 := X4.frozen
          refine Jo.jnext (i := 3) (o := ⟨none, _, _, _, _, _⟩) (by kernel_rfl) rfl (fun K hK => ?_)
          go_simp; refine hK.out _ _ ?_; clear hK K xX4 zX40; generalize hS : (((w9.setCell _ _).setCell _ _).setCell _ _).setCell _ _ = wA at *; have SX := StN.of4 X4 hS; replace X7 := X7.stn SX (by omega); replace hT := hT.stn SX (by simp [no8]); replace HB := Hqs HB SX (by omega); replace X4 := SX.box; clear SX hS; refine Jo.jdone (by kernel_rfl) ?_; go_wp2
          go_roundw
          case rel => exact ⟨k + 1, by omega, by rw [(HST.out.1 hgt).1], by go_num, _, _, _, _, X4, by rw [(HST.out.1 hgt).2]; exact q1, hT, HB.out⟩
          case measure => simp [intOf]; omega
        · rw [decide_eq_false hgt] at hg; go_wp2
          go_roundw
          case rel => exact ⟨k + 1, by omega, by rw [(HST.out.2 hgt).1], by go_num, _, _, _, _, X4, by rw [(HST.out.2 hgt).2]; exact q0, hT, HB.out⟩
          case measure => simp [intOf]; omega
      · obtain rfl : k = n := by omega
        have tlt : decide ((k : Int) < (k : Int)) = false := by simp
        clear X4 hD0; go_wp2
        go_ret
        exact ⟨by rw [HR.out]; rfl, HB.out⟩
  · rw [bxWidest_neg (.inl hp)] at hr; subst hr; clear hp hD0
    go_enter Tryz.func9, Tryz.ntmps9
    go_wp2_with fail
    refine (kxEmpty h HP.out).mono ?_; rintro ee w2 ⟨rfl, B⟩; clear h; go_wp2
    go_ret
    exact ⟨rfl, B⟩
def PL2 (w : World) (l1 l2 : List Sp) (e : Ending) (w' : World) : Prop := ∃ A1 c1 A2 c2, e = .returned (.tuple #[.slice A1 l1.length c1, .slice A2 l2.length c2]) ∧ Ia w' w.heap.size A1 l1.length c1 l1 ∧ Ia w' w.heap.size A2 l2.length c2 l2 ∧ Below w.heap.size w w'
theorem kxSplit_no {w : World} {A : Option Addr} {n c : Nat} {i : Int} (hi : i < 0 ∨ (n : Int) ≤ i) : Calls Tryz.prog 6 #[.slice A n c, .int .i64 i] w (PL2 w [] []) := by
  by_cases h0 : i < 0
  · have t0 : decide (i < 0) = true := decide_eq_true h0
    go_enter Tryz.func6, Tryz.ntmps6
    go_wp2
    go_ret2
    exact ⟨none, 0, none, 0, rfl, Ia.nil _ _, Ia.nil _ _, Below.refl _ _⟩
  · have t0 : decide (i < 0) = false := decide_eq_false h0
    have t1 : decide ((n : Int) ≤ i) = true := decide_eq_true (by omega)
    go_enter Tryz.func6, Tryz.ntmps6
    go_wp2
    go_ret2
    exact ⟨none, 0, none, 0, rfl, Ia.nil _ _, Ia.nil _ _, Below.refl _ _⟩
theorem Io.form {w : World} {base n c : Nat} {A : Option Addr} {r : List V9} (h : Io w base A n c r) (hn : 0 < n) : ∃ g cap cur, A = some ⟨g, 0, none⟩ ∧ Bo w g cur 34 ∧ cur.size = cap * 9 ∧ n ≤ cap := by
  obtain ⟨h1, _⟩ := h
  rcases h1.2 with ⟨e1, e2⟩ | ⟨g, cap, cur, hv, hg, hh, hc, hm, hs, ht⟩
  · omega
  · cases hv
    exact ⟨g, _, cur, rfl, hh, hs, hc⟩
theorem kxSplit {w : World} {A : Option Addr} {n c : Nat} {r : List V9} {i : Nat} {l1 l2 : List Sp} (hT : Tb w) (h : Iq w A n c r) (hn : n ≤ 1000000) (hi : i < n) (h1 : bxLo (r.map rkV) i = l1) (h2 : bxHi (r.map rkV) i = l2) : Calls Tryz.prog 6 #[.slice A n c, .int .i64 ((i : Nat) : Int)] w (PL2 w l1 l2) := by
  have t0 : decide (((i : Nat) : Int) < 0) = false := by simp
  have t1 : decide ((n : Int) ≤ ((i : Nat) : Int)) = false := by simp; omega
  have i1 : ((i : Nat) : Int) < n := by omega
  have i2 : (0 : Int) ≤ ((i : Nat) : Int) := by omega
  have hrl := h.1; have H1 := Lib.hid h1; have H2 := Lib.hid h2; have HTOP := Lib.hid h.2.2.2.1; clear h1 h2
  go_enter Tryz.func6, Tryz.ntmps6
  go_wp2_with fail
  refine (kxClone h hn).mono ?_; rintro ee w2 ⟨A1, c1, rfl, N1, B⟩; replace h := h.below B; replace hT := hT.below B; have HB := Lib.hid B; clear B
  go_wp2_with fail
  refine (kxClone h hn).mono ?_; rintro ee w3 ⟨A2, c2, rfl, N2, B⟩; replace h := h.below B; replace hT := hT.below B; have hz2 := HB.out.size; have M1 := N1.own_lt; have M2 := N2.own_lt; replace N1 := N1.below B; replace HB := Hqb HB B; clear B; obtain ⟨v, hv⟩ : ∃ v, r[i]? = some v := ⟨r[i], List.getElem?_eq_getElem (by omega)⟩; have ht := HTOP.out v (List.mem_of_getElem? hv); obtain ⟨e, D, s, M, E, D', s', M', E'⟩ := v
  obtain ⟨b, o, rfl, x0, x1, x2, x3, x4, x5, x6, x7, x8⟩ := h.at hi hv; obtain ⟨x, hx⟩ : ∃ x, rkI e D s M E D' s' M' E' = x := ⟨_, rfl⟩
  have hxl : (r.map rkV).getD i none = x := by
    rw [List.getD_eq_getElem?_getD, List.getElem?_map, hv]; exact hx
  obtain ⟨y, hy⟩ : ∃ y, loI x = y := ⟨_, rfl⟩; obtain ⟨z, hz⟩ : ∃ z, hiI x = z := ⟨_, rfl⟩; have HY := Lib.hid hy; have HZ := Lib.hid hz; have HX := Lib.hid hx; have HXL := Lib.hid hxl; clear hx hy hz hxl h
  go_wp2_with fail
  refine (kvSplit hT ht.1 ht.2 HX.out HY.out HZ.out).mono ?_; rintro ee w4 ⟨e1, K1, s1, M1', E1, K1b, s1b, M1b, E1b, e2, K2, s2, M2', E2, K2b, s2b, M2b, E2b, rfl, v1, v2, B⟩; clear x0 x1 x2 x3 x4 x5 x6 x7 x8 hT; replace N1 := N1.below B; replace N2 := N2.below B; replace HB := Hqb HB B; clear B; obtain ⟨g1, cap1, cur1, rfl, X1, hs1, hc1⟩ := N1.form (by omega); obtain ⟨g2, cap2, cur2, rfl, X2, hs2, hc2⟩ := N2.form (by omega)
  have hg1 := M1 g1 rfl; have hg2 := M2 g2 rfl
  have hne : g1 ≠ g2 := by omega
  have hne' : g2 ≠ g1 := by omega
  have HV := Lib.hid hv; obtain ⟨b1, o1, e1', y0, y1, y2, y3, y4, y5, y6, y7, y8⟩ := (N1.iq (by omega)).at hi hv
  cases e1'
  simp only [Nat.zero_add] at y0 y1 y2 y3 y4 y5 y6 y7 y8; have yz0 := X1.frozen (i * 9); have yz1 := X1.frozen (i * 9 + 1); have yz2 := X1.frozen (i * 9 + 2); have yz3 := X1.frozen (i * 9 + 3); have yz4 := X1.frozen (i * 9 + 4); have yz5 := X1.frozen (i * 9 + 5); have yz6 := X1.frozen (i * 9 + 6); have yz7 := X1.frozen (i * 9 + 7); have yz8 := X1.frozen (i * 9 + 8); obtain ⟨b2, o2, e2', u0, u1, u2, u3, u4, u5, u6, u7, u8⟩ := (N2.iq (by omega)).at hi hv
  cases e2'
  simp only [Nat.zero_add] at u0 u1 u2 u3 u4 u5 u6 u7 u8; have uz0 := X2.frozen (i * 9); have uz1 := X2.frozen (i * 9 + 1); have uz2 := X2.frozen (i * 9 + 2); have uz3 := X2.frozen (i * 9 + 3); have uz4 := X2.frozen (i * 9 + 4); have uz5 := X2.frozen (i * 9 + 5); have uz6 := X2.frozen (i * 9 + 6); have uz7 := X2.frozen (i * 9 + 7); have uz8 := X2.frozen (i * 9 + 8); clear hv
  go_upto_region 5 with (fail)
  clear y0 y1 y2 y3 y4 y5 y6 y7 y8 u0 u1 u2 u3 u4 u5 u6 u7 u8 yz0 yz1 yz2 yz3 yz4 yz5 yz6 yz7 yz8 uz0 uz1 uz2 uz3 uz4 uz5 uz6 uz7 uz8; have Q1 := N1.set hi (e := e1) (K := K1) (s := s1) (E := E1) (K' := K1b) (s' := s1b) (E' := E1b) v1.top.1 v1.top.2; have G1 := grown_set9 (w := w4) (g := g1) (i := i * 9) (v0 := .bool e1) (v1 := .int .i64 K1) (v2 := .bool s1) (v3 := .int .u64 M1') (v4 := .int .i64 E1) (v5 := .int .i64 K1b) (v6 := .bool s1b) (v7 := .int .u64 M1b) (v8 := .int .i64 E1b)
  replace N2 := N2.kept G1 (.inr (fun c => hne' (Option.some.inj c)))
  have hz4 := HB.out.size
  replace HB := Lib.hid (HB.out.grown G1 hz4 (fun k hk => by cases hk; exact hg1.1))
  clear N1 X1 X2 G1; generalize hw5 : (World.setCell (World.setCell (World.setCell (World.setCell (World.setCell (World.setCell (World.setCell (World.setCell (World.setCell w4 ⟨g1, i * 9, none⟩ (.bool e1)) ⟨g1, i * 9 + 1, none⟩ (.int .i64 K1)) ⟨g1, i * 9 + 2, none⟩ (.bool s1)) ⟨g1, i * 9 + 3, none⟩ (.int .u64 M1')) ⟨g1, i * 9 + 4, none⟩ (.int .i64 E1)) ⟨g1, i * 9 + 5, none⟩ (.int .i64 K1b)) ⟨g1, i * 9 + 6, none⟩ (.bool s1b)) ⟨g1, i * 9 + 7, none⟩ (.int .u64 M1b)) ⟨g1, i * 9 + 8, none⟩ (.int .i64 E1b)) = w5 at *
  clear hw5; have Q2 := N2.set hi (e := e2) (K := K2) (s := s2) (E := E2) (K' := K2b) (s' := s2b) (E' := E2b) v2.top.1 v2.top.2; have G2 := grown_set9 (w := w5) (g := g2) (i := i * 9) (v0 := .bool e2) (v1 := .int .i64 K2) (v2 := .bool s2) (v3 := .int .u64 M2') (v4 := .int .i64 E2) (v5 := .int .i64 K2b) (v6 := .bool s2b) (v7 := .int .u64 M2b) (v8 := .int .i64 E2b)
  replace Q1 := Q1.kept G2 (.inr (fun c => hne (Option.some.inj c)))
  have hz5 := HB.out.size
  replace HB := Lib.hid (HB.out.grown G2 hz5 (fun k hk => by cases hk; omega))
  clear N2 G2; generalize hw6 : (World.setCell (World.setCell (World.setCell (World.setCell (World.setCell (World.setCell (World.setCell (World.setCell (World.setCell w5 ⟨g2, i * 9, none⟩ (.bool e2)) ⟨g2, i * 9 + 1, none⟩ (.int .i64 K2)) ⟨g2, i * 9 + 2, none⟩ (.bool s2)) ⟨g2, i * 9 + 3, none⟩ (.int .u64 M2')) ⟨g2, i * 9 + 4, none⟩ (.int .i64 E2)) ⟨g2, i * 9 + 5, none⟩ (.int .i64 K2b)) ⟨g2, i * 9 + 6, none⟩ (.bool s2b)) ⟨g2, i * 9 + 7, none⟩ (.int .u64 M2b)) ⟨g2, i * 9 + 8, none⟩ (.int .i64 E2b)) = w6 at *
  clear hw6
  have hl1 : bxFair ((r.set i (e1, K1, s1, M1', E1, K1b, s1b, M1b, E1b)).map rkV) = l1 := by
    rw [List.map_set, show rkV (e1, K1, s1, M1', E1, K1b, s1b, M1b, E1b) = y from v1.rk, ← HY.out, ← HXL.out]
    exact H1.out
  have hl2 : bxFair ((r.set i (e2, K2, s2, M2', E2, K2b, s2b, M2b, E2b)).map rkV) = l2 := by
    rw [List.map_set, show rkV (e2, K2, s2, M2', E2, K2b, s2b, M2b, E2b) = z from v2.rk, ← HZ.out, ← HXL.out]
    exact H2.out
  have n1 : l1.length = n := by rw [← hl1, bxFair_len, List.length_map, List.length_set, hrl]
  have n2 : l2.length = n := by rw [← hl2, bxFair_len, List.length_map, List.length_set, hrl]
  have HL1 := Lib.hid hl1; have HL2 := Lib.hid hl2; have HN1 := Lib.hid n1; have HN2 := Lib.hid n2; clear hl1 hl2 n1 n2 H1 H2 HX HXL HY HZ HV M1 M2; have hz6 := HB.out.size
  go_wp2_with fail
  refine (kxFair (Q1.iq (by omega)) hn HL1.out).mono ?_; rintro ee w7 ⟨A7, c7, rfl, R1, B⟩; replace Q2 := Q2.below B; have hz7 := B.size; replace HB := Hqb HB B; clear B Q1
  go_wp2_with fail
  refine (kxFair (Q2.iq (by omega)) hn HL2.out).mono ?_; rintro ee w8 ⟨A8, c8, rfl, R2, B⟩; replace R1 := R1.below B; replace HB := Hqb HB B; clear B Q2; go_wp2
  go_ret2
  exact ⟨A7, c7, A8, c8, by rw [HN1.out, HN2.out]; rfl, by rw [HN1.out]; exact R1.lower hz6, by rw [HN2.out]; exact R2.lower (by omega), HB.out⟩
end Go.Proofs.YtpnmphofengoeaaGreatDoor

namespace Go.Proofs.YtpnmphofengoeaaGreatDoor
open Go.RowKit Go.Shelf
attribute [local go_sem] Oper.semAt_some
set_option linter.unusedVariables false
set_option linter.unusedSimpArgs false
set_option maxRecDepth 100000

theorem Bo.own {W W' : World} {g : Nat} {cs : Array Value} {T : TypeId} {row : Option Nat} (h : Bo W g cs T) (hg : W.grownBy W' row) (hr : ∀ r, row = some r → ∃ o : Obj, W.heap[r]? = some o ∧ o.isCells = false) : Bo W' g cs T := by
  refine h.keep (hg.block g h.lt (fun e => ?_))
  obtain ⟨o, ho, hc⟩ := hr g e.symm
  have hh : W.heap[g]? = some (.cells cs T (0, 0)) := h
  rw [hh] at ho
  cases ho
  cases hc
theorem below_own {n₀ B : Nat} {w₀ W W' : World} {row : Option Nat} (hs : Below n₀ w₀ W) (hn : n₀ ≤ w₀.heap.size) (hB : n₀ ≤ B) (hg : W.grownBy W' row) (hr : ∀ r, row = some r → B ≤ r ∧ ∃ o : Obj, W.heap[r]? = some o ∧ o.isCells = false) : Below n₀ w₀ W' :=
  hs.grown hg (Nat.le_trans hn hs.size) (fun k e => Nat.le_trans hB (hr k e).1)
def enters_ok (f : FuncId) : Prop := ∀ (args : Array Value) (w : World), (callFunc f args).run Tryz.prog w = .ok (.enter f args) w
end Go.Proofs.YtpnmphofengoeaaGreatDoor

namespace Go.Proofs.YtpnmphofengoeaaGreatDoor
set_option maxHeartbeats 8000000
open Go.RowKit Go.Shelf
attribute [local go_sem] Oper.semAt_some
set_option linter.unusedVariables false
set_option linter.unusedSimpArgs false
set_option maxRecDepth 100000

theorem Ia.own {W W' : World} {base n c : Nat} {A : Option Addr} {l : List Sp} {row : Option Nat} (h : Ia W base A n c l) (hg : W.grownBy W' row) (hr : ∀ r, row = some r → ∃ o : Obj, W.heap[r]? = some o ∧ o.isCells = false) : Ia W' base A n c l := by
  refine h.kept hg ?_; obtain ⟨r, h1, _⟩ := h
  rcases h1.2 with ⟨h3, _⟩ | ⟨g, cap, cur, hv, _, hh, _⟩
  · cases h3
    exact .inl rfl
  · cases hv
    refine .inr (fun e => ?_)
    obtain ⟨o, ho, hc⟩ := hr g e.symm; rw [hh] at ho
    cases ho
    cases hc
def FunQ (fid : FuncId) (f0 : Sp → Sp → Sp) : Prop := enters_ok fid ∧ ∀ (w : World) (A : Option Addr) (c : Nat) (x y : Sp), SpOk x → SpOk y → Il8 w A 2 c [x, y] → Calls Tryz.prog fid #[.slice A 2 c] w (PV w (f0 x y))
def Jo.Fact.ib (base n : Nat) (l : List Sp) : Jo.Fact := ⟨fun v w => ∃ A c, v = .slice A n c ∧ Ia w base A n c l, fun v w w' h b => by
  obtain ⟨A, c, e, h⟩ := h; exact ⟨A, c, e, h.below b⟩⟩
def mkZ (f0 : Sp → Sp → Sp) (zs : List Ziv) : List Sp := zs.map fun x => f0 (rkV x.1.1) (rkV x.1.2)
theorem mkZ_zip (f0 : Sp → Sp → Sp) : ∀ (zs : List Ziv), mkZ f0 zs = List.zipWith f0 ((zs.map (·.1.1)).map rkV) ((zs.map (·.1.2)).map rkV)
  | [] => rfl
  | x :: zs => congrArg (f0 (rkV x.1.1) (rkV x.1.2) :: ·) (mkZ_zip f0 zs)
def BxInv (w : World) (g5 g7 g8 : Nat) (v8 : Value) (sz : Nat) (fid : FuncId) (f0 : Sp → Sp → Sp) (pre : List Ziv) (W : World) : Prop :=
  ∃ A c, Bo W g7 #[.slice A pre.length c] 22 ∧ Ia W w.heap.size A pre.length c (mkZ f0 pre) ∧ Bo W g5 #[.func (.func fid) #[] #[]] 47 ∧ Bo W g8 #[v8] 22 ∧ Below w.heap.size w W ∧ sz ≤ W.heap.size
def joinZ (f0 : Sp → Sp → Sp) (a b : List Sp) : List Sp := if a.length = b.length then bxFair (List.zipWith f0 a b) else []
theorem kxTog {w : World} {A B : Option Addr} {n c m d : Nat} {ra rb : List V9} {fid : FuncId} {f0 : Sp → Sp → Sp} {l : List Sp} (ha : Iq w A n c ra) (hb : Iq w B m d rb) (hn : n ≤ 100000) (hf : FunQ fid f0) (hr : joinZ f0 (ra.map rkV) (rb.map rkV) = l) : Calls Tryz.prog 28 #[.slice A n c, .slice B m d, .func (.func fid) #[] #[]] w (PL w l.length l) := by
  have hla := ha.1; have hlb := hb.1
  by_cases hnm : n = m
  · subst hnm; obtain ⟨zs, ez1, ez2⟩ := Ziv.ex (hla.trans hlb.symm) ha.2.2.2.1 hb.2.2.2.1
    unfold joinZ at hr
    rw [if_pos (by rw [List.length_map, List.length_map]; omega), ← ez1, ← ez2, ← mkZ_zip] at hr
    have hzl : zs.length = n := by rw [← hla, ← ez1, List.length_map]
    have hll : l.length = n := by rw [← hr, bxFair_len, ← hzl]; exact List.length_map ..
    rw [hll]; rw [← ez1] at ha; rw [← ez2] at hb; have HR := Lib.hid hr; have LA := ha.lt; have LB := hb.lt; have HF := Lib.hid hf; have HZ := Lib.hid hzl; clear hr ez1 ez2 hla hlb hll hf hzl ra rb
    have t1 : (((n : Nat) : Int) == ((n : Nat) : Int)) = true := by simp
    refine (callsIn_wide (n := 4)).1 ?_; refine callsIn_of_wp_marks Tryz.func28 rfl trivial ?_ rfl; refine wpIn_wide.2 ?_; simp only [Tryz.ntmps28, List.size_toArray, List.length_cons, List.length_nil, Nat.reduceAdd, Nat.reduceSub, Array.replicate_succ, Array.replicate_zero, List.push_toArray, List.append_toArray, List.nil_append, List.cons_append]
    go_upto_region 3 with (fail)
    have X5 := Bo.new w #[.func (.func fid) #[] #[]] 47; have HB := Lib.hid (bel1 w (.cells #[.func (.func fid) #[] #[]] 47)); generalize hw1 : w.alloc (.cells #[.func (.func fid) #[] #[]] 47) = w1 at *
    have hs1 : w1.heap.size = w.heap.size + 1 := by rw [← hw1]; simp
    clear hw1; obtain ⟨i, hi, hz, hsi, hby⟩ := info_parts infoIv
    have hmk : (Instr.makeSlice 22 (.int .i64 0) (.int .i64 ((n : Nat) : Int))).run Tryz.prog w1 = .ok (.slice (some ⟨w1.heap.size, 0, none⟩) 0 n) (w1.alloc (.cells (vrow (List.replicate n Z9)).toArray 34)) := by
      have := run_make (P := Tryz.prog) w1 22 34 i _ Tryz.underlying22 hi hz .i64 .i64 0 n (Int.le_refl _) (by omega) (by rw [hby]; omega) (by omega)
      rw [Int.toNat_natCast, hsi] at this; rw [this, ← made_vrow]
      rfl
    clear hi hz hsi hby; clear hs1
    go_upto_region 4 with (fail)
    clear hmk
    have hg0 : w.heap.size < w1.heap.size := X5.lt
    have hb2 := bel2 w1 (.cells (vrow (List.replicate n Z9)).toArray 34) (.cells #[.slice (some ⟨w1.heap.size, 0, none⟩) 0 n] 22)
    have N0 := ((Io.made w1 (vrow (List.replicate n Z9)).toArray n (by unfold maxLen; omega) (by simp [vrow_len]) (Nat.le_of_lt hg0)).ia (l := []) rfl (fun k v hv => by cases hv)).below (bel1 _ (.cells #[.slice (some ⟨w1.heap.size, 0, none⟩) 0 n] 22))
    have X7 := Bo.new (w1.alloc (.cells (vrow (List.replicate n Z9)).toArray 34)) #[.slice (some ⟨w1.heap.size, 0, none⟩) 0 n] 22; rw [World.size_alloc] at X7; replace X5 := X5.below hb2; replace HB := Hqb HB hb2; clear hb2; generalize hw2 : (w1.alloc (.cells (vrow (List.replicate n Z9)).toArray 34)).alloc (.cells #[.slice (some ⟨w1.heap.size, 0, none⟩) 0 n] 22) = w2 at *; clear hw2; generalize w1.heap.size = g1 at *
    go_wp2_with fail
    refine bes_iv.mono ?_; rintro ee w3 ⟨rfl, hw3⟩; have hb3 := bel2 w2 (.cells #[.slice A n c] 22) (.cells #[.slice B n d] 22); have Y1 := (Bo.new w2 #[.slice A n c] 22).below (bel1 _ (.cells #[.slice B n d] 22)); have Y2 := Bo.new (w2.alloc (.cells #[.slice A n c] 22)) #[.slice B n d] 22; rw [World.size_alloc] at Y2
    have hs3 : w3.heap.size = w2.heap.size + 2 := by rw [hw3]; simp
    have HB3 := Hqb HB hb3; have hl7 := X7.lt; replace X5 := X5.below hb3; replace X7 := X7.below hb3; replace N0 := N0.below hb3; rw [← hw3] at Y1 Y2 X5 X7 N0 HB3; clear hw3 HB hb3; have qa := ha.below HB3.out; have qb := hb.below HB3.out; clear ha hb; generalize w2.heap.size = gx at *; go_wp2
    have FN1 : Hid (enters_ok 74) := Lib.hid (enters_of Tryz.func74 (by kernel_rfl) rfl)
    refine (wpIn_wide (n := 4)).1 ?_
    refine wpIn_rangeFunc_ownH rfl (by decide) (gf := 74) (lb := #[.pointer (some ⟨gx, 0, none⟩), .pointer (some ⟨gx + 1, 0, none⟩)]) rfl trivial FN1.out
      (bes_stops_iv (m := 4 - 1) (n₀ := w.heap.size) zs Y1 Y2 qa qb LA LB (by omega)) (fun h k => KpB.trans h k) (KpB.turn (by omega) (by omega)) (br _ _) (fun _ => rfl)
      (BxInv w w.heap.size (g1 + 1) (gx + 1) (.slice B n d) w3.heap.size fid f0)
      (fun cc pre W => False)
      (fun s X Y row hs hg hr => by
        obtain ⟨A1, c1, h1, h2, h3, h8, h4, h5⟩ := hs
        exact ⟨A1, c1, h1.own hg (fun r e => (hr r e).2), h2.own hg (fun r e => (hr r e).2), h3.own hg (fun r e => (hr r e).2), h8.own hg (fun r e => (hr r e).2), below_own h4 (Nat.le_refl _) (by omega) hg hr, Nat.le_trans h5 hg.size⟩)
      (fun cc s X Y row hs hg hr => hs)
      ⟨_, _, X7, N0, X5, Y2, HB3.out, Nat.le_refl _⟩
      (fun x a' W => ∃ e1 e2, Bo W e1 (vrow [x.1.1]).toArray 34 ∧ Bo W e2 (vrow [x.1.2]).toArray 34 ∧ a' = { tmps := #[.slice A n c, .slice B n d, .func (.func fid) #[] #[], undef, undef, .pointer (some ⟨w.heap.size, 0, none⟩), .slice none 0 0, .pointer (some ⟨g1 + 1, 0, none⟩), .pointer (some ⟨e1, 0, none⟩), .pointer (some ⟨e2, 0, none⟩), .slice A n c, .int .i64 (n : Int), .slice B n d, .int .i64 (n : Int), .bool false, .slice A n c, .int .i64 (n : Int), .slice (some ⟨g1, 0, none⟩) 0 n, .slice A n c, .slice B n d, .func (.func 74) #[] #[.pointer (some ⟨gx, 0, none⟩), .pointer (some ⟨gx + 1, 0, none⟩)], valV x.1.1, valV x.1.2, undef, undef, undef, undef, undef, undef, undef, undef, undef, undef], defers := [] })
      (fun x a' s X Y row hs hg hr => by
        obtain ⟨e1, e2, h1, h2, h3⟩ := hs
        exact ⟨e1, e2, h1.own hg (fun r e => (hr r e).2), h2.own hg (fun r e => (hr r e).2), h3⟩)
      ?assign ?body ?done ?stop
    case stop =>
      intro D cc pre W _ _ h _
      exact h.elim
    case assign =>
      intro l' pre x W K hi hK
      obtain ⟨⟨⟨e, D, s, M, E, D', s', M', E'⟩, ⟨e2, G, g, P, Q, G', g', P', Q'⟩⟩, hz⟩ := x; obtain ⟨A1, c1, h1, h2, h3, h8, h4, h5⟩ := hi; have hz3 := h4.size; have hb := bel2 W (.cells #[.bool e, .int .i64 D, .bool s, .int .u64 M, .int .i64 E, .int .i64 D', .bool s', .int .u64 M', .int .i64 E'] 34) (.cells #[.bool e2, .int .i64 G, .bool g, .int .u64 P, .int .i64 Q, .int .i64 G', .bool g', .int .u64 P', .int .i64 Q'] 34)
      have Z1 := (Bo.new W #[.bool e, .int .i64 D, .bool s, .int .u64 M, .int .i64 E, .int .i64 D', .bool s', .int .u64 M', .int .i64 E'] 34).below (bel1 _ (.cells #[.bool e2, .int .i64 G, .bool g, .int .u64 P, .int .i64 Q, .int .i64 G', .bool g', .int .u64 P', .int .i64 Q'] 34)); have Z2 := Bo.new (W.alloc (.cells #[.bool e, .int .i64 D, .bool s, .int .u64 M, .int .i64 E, .int .i64 D', .bool s', .int .u64 M', .int .i64 E'] 34)) #[.bool e2, .int .i64 G, .bool g, .int .u64 P, .int .i64 Q, .int .i64 G', .bool g', .int .u64 P', .int .i64 Q'] 34
      dsimp only [valV] at hK ⊢
      gi_wp2
      exact hK _ _ ((KeepsOthers.of_below hb).from _) (KpB.of_below hb (by omega) (by omega)) ⟨A1, c1, h1.below hb, h2.below hb, h3.below hb, h8.below hb, h4.trans (hb.mono hz3), Nat.le_trans h5 hb.size⟩ ⟨_, _, Z1, Z2, by simp⟩
    case body =>
      rintro l' pre x a' W hl hlr ⟨A1, c1, h1, h2, h3, h8, h4, h5⟩ ⟨u1, u2, Z1, Z2, rfl⟩ hlt
      dsimp only
      obtain ⟨⟨⟨e, D, s, M, E, D', s', M', E'⟩, ⟨e2, G, g, P, Q, G', g', P', Q'⟩⟩, hz⟩ := x; obtain ⟨x0, hx0⟩ : ∃ x0, rkI e D s M E D' s' M' E' = x0 := ⟨_, rfl⟩; obtain ⟨y0, hy0⟩ : ∃ y0, rkI e2 G g P Q G' g' P' Q' = y0 := ⟨_, rfl⟩
      have ox : SpOk x0 := hx0 ▸ topV_ok hz.1
      have oy : SpOk y0 := hy0 ▸ topV_ok hz.2
      have HX0 := Lib.hid hx0; have HY0 := Lib.hid hy0; clear hx0 hy0
      have U1 : Bo W u1 #[.bool e, .int .i64 D, .bool s, .int .u64 M, .int .i64 E, .int .i64 D', .bool s', .int .u64 M', .int .i64 E'] 34 := Z1
      have U2 : Bo W u2 #[.bool e2, .int .i64 G, .bool g, .int .u64 P, .int .i64 Q, .int .i64 G', .bool g', .int .u64 P', .int .i64 Q'] 34 := Z2
      have HB := Lib.hid (Below.refl W.heap.size W); have H8 := Lib.hid h8; have hzW := h4.size
      have hpl : pre.length ≤ 100000 := by rw [HZ.out] at hlt; omega
      clear Z1 Z2; refine wpIn_block ?_
      refine Jo.region_round (T := [0, 1, 2, 3, 4, 5, 6]) (ds := [some 23, some 24, some 25, some 26, some 27, some 28, some 29, some 30, none]) (ls := [[], [], [], [], [2, 3], [1, 4], [5], [], []]) (k := 9) (L := [(some 23, 0), (some 24, 1), (some 25, 2), (some 26, 3), (some 27, 4), (some 28, 5), (some 29, 6)]) (fuel := 2) (J := fun wj => Below (World.heap W).size W wj)
        (F := [Jo.Fact.eq (.slice A1 pre.length c1), Jo.Fact.eq (.func (.func fid) #[] #[]), Jo.q9 e D s M E D' s' M' E', Jo.q9 e2 G g P Q G' g' P' Q', Jo.Fact.il8 2 [x0, y0], Jo.Fact.iv (f0 x0 y0), Jo.Fact.ib W.heap.size 1 [f0 x0 y0], Jo.Fact.any, Jo.Fact.any])
        (by kernel_rfl) (by kernel_rfl) (by decide) rfl rfl (fun _ _ h b => bt h b) ((br _ _).drew) ?_ (fun vs W2 hJ hd => ?_) (by kernel_rfl)
      · refine Jo.jm rfl ?_ ?_
        · rintro wj hJ K hK; simp only [Jo.z] at hK ⊢; have xh10 := (h1.below hJ).a 0 (.slice A1 pre.length c1) rfl; go_simp; exact hK.out _ _ rfl (br _ _)
        refine Jo.jm rfl ?_ ?_
        · rintro wj hJ K hK; simp only [Jo.z] at hK ⊢; have xh30 := (h3.below hJ).a 0 (.func (.func fid) #[] #[]) rfl; go_simp; exact hK.out _ _ rfl (br _ _)
        refine Jo.jm rfl ?_ ?_
        · rintro wj hJ K hK; simp only [Jo.z] at hK ⊢; obtain ⟨xU10, xU11, xU12, xU13, xU14, xU15, xU16, xU17, xU18⟩ := (U1.below hJ).u9; go_simp; exact hK.out _ _ rfl (br _ _)
        refine Jo.jm rfl ?_ ?_
        · rintro wj hJ K hK; simp only [Jo.z] at hK ⊢; obtain ⟨xU20, xU21, xU22, xU23, xU24, xU25, xU26, xU27, xU28⟩ := (U2.below hJ).u9; go_simp; exact hK.out _ _ rfl (br _ _)
        refine Jo.jm rfl ?_ ?_
        · rintro wj hJ _ rfl _ rfl K hK; simp only [Jo.z] at hK ⊢; go_simp; exact hK.out _ _ ⟨_, 2, rfl, Il8.lit2 rfl ⟨hz.1.1, hz.1.2, HX0.out⟩ ⟨hz.2.1, hz.2.2, HY0.out⟩⟩ (bel1 _ _)
        refine Jo.jm rfl ?_ ?_
        · rintro wj hJ _ rfl _ ⟨A19, c19, rfl, h19⟩ K hK; simp only [Jo.z] at hK ⊢; go_simp; rw [HF.out.1]; simp only [Oper.upon]; refine (HF.out.2 _ _ _ _ _ ox oy h19).mono ?_; rintro ee wk ⟨e20, K20, s20, M20, E20, K20b, s20b, M20b, E20b, rfl, v20, B⟩; exact hK.out _ _ ⟨e20, K20, s20, M20, E20, K20b, s20b, M20b, E20b, rfl, v20⟩ B
        refine Jo.jm rfl ?_ ?_
        · rintro wj hJ _ ⟨e20, K20, s20, M20, E20, K20b, s20b, M20b, E20b, rfl, v20⟩ K hK; simp only [Jo.z] at hK ⊢; go_simp; exact hK.out _ _ ⟨_, 1, rfl, (Ia.lit (Bo.new _ _ _) v20).lower hJ.size⟩ (bel1 _ _)
        exact Jo.Steps.nil
      have d4 : (Jo.Fact.il8 2 [x0, y0]).P (vs 4) W2 := hd 4 (by decide)
      have d5 : (Jo.Fact.iv (f0 x0 y0)).P (vs 5) W2 := hd 5 (by decide)
      have d6 : (Jo.Fact.ib W.heap.size 1 [f0 x0 y0]).P (vs 6) W2 := hd 6 (by decide)
      simp only [Jo.putl, Jo.zd, Jo.ze, Act.put, Jo.za, Jo.zb, Jo.zc]
      rw [show vs 0 = _ from hd 0 (by decide), show vs 1 = _ from hd 1 (by decide), show vs 2 = _ from hd 2 (by decide), show vs 3 = _ from hd 3 (by decide)]
      clear hd; generalize vs 4 = u4 at d4 ⊢; generalize vs 5 = u5 at d5 ⊢; generalize vs 6 = u6 at d6 ⊢; obtain ⟨_, _, rfl, _⟩ := d4; obtain ⟨e20, K20, s20, M20, E20, K20b, s20b, M20b, E20b, rfl, v20⟩ := d5; obtain ⟨A21, c21, rfl, N21⟩ := d6; replace h1 := h1.below hJ; replace h3 := h3.below hJ; replace h8 := h8.below hJ; replace U1 := U1.below hJ; replace U2 := U2.below hJ; replace h2 := h2.below hJ
      replace HB := Hqb HB hJ; have hzB := HB.out.size
      refine Jo.jnext (i := 7) (o := ⟨some 30, _, _, _, _, _⟩) (by kernel_rfl) rfl (fun K hK => ?_)
      refine step_ia rfl _ _ rfl rfl rfl h2 N21 (by decide) (by omega) (by omega) ?_
      intro A3 c3 wD N3 G1 at1
      refine hK.out _ _ ?_; clear hK K; simp only [Act.put, List.setIfInBounds_toArray, List.set_cons_zero, List.set_cons_succ]; have k1 := h1.grownI h2 (by decide) G1; have k3 := h3.grownI h2 (by decide) G1; have k8 := h8.grownI h2 (by decide) G1
      have kO : KeepsOthers W wD := (KeepsOthers.of_below HB.out).trans (KeepsOthers.of_grownBy G1 (fun j o ej hj => by
        obtain ⟨r, hr, _⟩ := h2
        rcases hr.2 with ⟨e, _⟩ | ⟨g', _, _, hv, _, hh, _⟩
        · injection e with e1 e2 e3
          subst e1
          cases ej
        · injection hv with e1 e2 e3
          subst e1
          cases ej
          rw [hh] at hj
          cases hj
          rfl))
      have kB : Below w.heap.size W wD := (HB.out.mono hzW).grown G1 (by omega) (fun k hk => (h2.own_lt k hk).1)
      have hzD : W.heap.size ≤ wD.heap.size := Nat.le_trans hzB G1.size
      have kY : wD.heap[gx + 1]? = W.heap[gx + 1]? := k8.trans H8.out.symm
      clear N21 G1 at1 h1 h3 h8 h2; have xk10 := k1.a 0 (.slice A1 pre.length c1) rfl; have zk10 := k1.frozen 0
      refine Jo.jnext (i := 8) (o := ⟨none, _, _, _, _, _⟩) (by kernel_rfl) rfl (fun K hK => ?_)
      go_simp; refine hK.out _ _ ?_; clear hK K; clear xk10 zk10; refine Jo.jdone (by kernel_rfl) ?_
      have e1 : (pre ++ [(⟨((e, D, s, M, E, D', s', M', E'), (e2, G, g, P, Q, G', g', P', Q')), hz⟩ : Ziv)]).length = pre.length + 1 := by simp
      have e2 : mkZ f0 (pre ++ [(⟨((e, D, s, M, E, D', s', M', E'), (e2, G, g, P, Q, G', g', P', Q')), hz⟩ : Ziv)]) = mkZ f0 pre ++ [f0 x0 y0] := by
        rw [← HX0.out, ← HY0.out]; exact List.map_append ..
      have SX : StN wD (wD.setCell ⟨g1 + 1, 0, none⟩ (.slice A3 (pre.length + 1) c3)) _ _ #[.slice A3 (pre.length + 1) c3] _ := StN.at4 k1 0 (.slice A3 (pre.length + 1) c3)
      refine ⟨(kO.trans (KeepsOthers.setCell _ _ _)).from _, ⟨kB.setCell (p := ⟨g1 + 1, 0, none⟩) (show w.heap.size ≤ g1 + 1 by omega) _, ?_⟩, A3, c3, ?_, ?_, k3.stn SX (by omega), k8.stn SX (by omega), (h4.trans kB).setCell (p := ⟨g1 + 1, 0, none⟩) (show w.heap.size ≤ g1 + 1 by omega) _, ?_⟩
      · rw [SX.2.2.1 _ (by omega)]; exact kY
      · rw [e1]; exact SX.box
      · rw [e1, e2]; exact N3.stn SX (by decide)
      · show w3.heap.size ≤ (wD.setCell _ _).heap.size
        simp
        omega
    case done =>
      rintro D xs W hD rfl ⟨A1, c1, h1, h2, h3, h8, h4, h5⟩ hK; have hzW := h4.size; have hl := h2.len; have x0 := h1.a 0 (.slice A1 xs.length c1) rfl; obtain ⟨r, hio, hrk, hci⟩ := h2.io
      have hn2 : xs.length = n := HZ.out
      rw [hn2] at x0 hio
      go_wp2_with fail
      refine (kxFair (hio.iq (by omega)) (by omega) rfl).mono ?_; rintro ee w9 ⟨A9, c9, rfl, N9, B⟩; rw [hrk, HR.out] at N9
      have hK' : w9.heap[D]? = some (.deferred (some [])) := (B.block D (Array.getElem?_eq_some_iff.1 hK).1).trans hK
      clear x0 hio hrk hci; go_wp2; refine ⟨by simp, .inl ⟨_, _, rfl, run_takeDeferred hK', ?_⟩⟩
      refine ⟨_, results_tmp rfl _ _ _, A9, c9, rfl, (N9.lower hzW).own (grownBy_putObj' _ D (.deferred none)) (fun r e => by cases e; exact ⟨_, hK', rfl⟩), ((h4.trans (B.mono hzW)).trans (belowK_b (w := w) (Nat.le_refl _) _ D _ _ (by omega) hK' rfl rfl))⟩
  · have t1 : (((n : Nat) : Int) == ((m : Nat) : Int)) = false := by simp; omega
    unfold joinZ at hr
    rw [if_neg (by rw [List.length_map, List.length_map]; omega)] at hr; subst hr; clear ha hb hf; refine (callsIn_wide (n := 4)).1 ?_; refine callsIn_of_wp_marks Tryz.func28 rfl trivial ?_ rfl; refine wpIn_wide.2 ?_; simp only [Tryz.ntmps28, List.size_toArray, List.length_cons, List.length_nil, Nat.reduceAdd, Nat.reduceSub, Array.replicate_succ, Array.replicate_zero, List.push_toArray, List.append_toArray, List.nil_append, List.cons_append]
    go_wp2; exact ⟨_, results_tmp rfl _ _ _, none, 0, rfl, Ia.nil _ _, bel1 w (.cells #[.func (.func fid) #[] #[]] 47)⟩
theorem funq_Meet : FunQ 29 meetI := ⟨enters_of Tryz.func29 (by kernel_rfl) rfl, fun w A c x y ox oy h => kvMeet h (by show meetI (meetI allI x) y = _; rw [meet_all ox])⟩
theorem kxMeet {w : World} {A B : Option Addr} {n c m d : Nat} {ra rb : List V9} {l : List Sp} (ha : Iq w A n c ra) (hb : Iq w B m d rb) (hn : n ≤ 100000) (hr : bxMeet (ra.map rkV) (rb.map rkV) = l) : Calls Tryz.prog 12 #[.slice A n c, .slice B m d] w (PL w l.length l) := by
  have HR := Lib.hid (show joinZ meetI (ra.map rkV) (rb.map rkV) = l from hr)
  clear hr
  go_enter Tryz.func12, Tryz.ntmps12
  go_wp2_with fail
  refine (kxTog ha hb hn funq_Meet HR.out).mono ?_; rintro ee w2 ⟨A2, c2, rfl, N, B⟩; clear ha hb HR; go_wp2
  go_ret
  exact ⟨A2, c2, rfl, N, B⟩
end Go.Proofs.YtpnmphofengoeaaGreatDoor

namespace Go.Proofs.YtpnmphofengoeaaGreatDoor
open Go.RowKit
set_option linter.unusedVariables false
set_option linter.unusedSimpArgs false
set_option maxRecDepth 100000

set_option maxHeartbeats 8000000 in
theorem awake14 {w : World} (hT : Tb w) : Calls Tryz.prog 4 #[] w (PB w true) := by
  obtain ⟨o1, o2, o3, o4, e0, e1, e2, e3, e4, l1, l2, l3, l4, l5⟩ := five
  have H0 : Hid (sgi (decide ((0 : Int) < 0)) (lo (0 : Int).natAbs 0) = 0) := Lib.hid e0
  have H1 : Hid (sgi (decide ((1 : Int) < 0)) (lo (1 : Int).natAbs 0) = o1) := Lib.hid e1
  have H2 : Hid (sgi (decide ((2 : Int) < 0)) (lo (2 : Int).natAbs 0) = o2) := Lib.hid e2
  have H3 : Hid (sgi (decide ((3 : Int) < 0)) (lo (3 : Int).natAbs 0) = o3) := Lib.hid e3
  have S : ∀ {a b : Int}, a < b → 0 ≤ a → b ≤ o4 → mkI a b = some (a, b) := fun h h1 h2 => mkI_some (by omega) (by omega) (by omega)
  have M02 := Lib.hid (S (a := 0) (b := o2) (by omega) (by omega) (by omega)); have M01 := Lib.hid (S (a := 0) (b := o1) (by omega) (by omega) (by omega)); have M13 := Lib.hid (S (a := o1) (b := o3) (by omega) (by omega) (by omega)); have M23 := Lib.hid (S (a := o2) (b := o3) (by omega) (by omega) (by omega)); have M03 := Lib.hid (S (a := 0) (b := o3) (by omega) (by omega) (by omega))
  have HME : Hid (bxMeet [some (0, o2), some (0, o1)] [some (o1, o3), some (o2, o3)] = [none, none]) := Lib.hid (by
    show (if [some (0, o2), some (0, o1)].length = [some (o1, o3), some (o2, o3)].length then bxFair [meetI (some (0, o2)) (some (o1, o3)), meetI (some (0, o1)) (some (o2, o3))] else []) = _
    refine (if_pos (by rfl)).trans ?_
    rw [show meetI (some (0, o1)) (some (o2, o3)) = none from mkI_none (by omega), bxFair_t (bxEmp_iff.2 (by simp))]
    rfl)
  have HW : Hid (bxWidest [some (0, o1), some (0, o3)] = 1) := Lib.hid (by
    have w0 : bxWid [some (0, o1), some (0, o3)] 0 = o1 := addp_zero true (by omega) (by omega)
    have w1 : bxWid [some (0, o1), some (0, o3)] 1 = o3 := addp_zero true (by omega) (by omega)
    rw [(bxWidest_pos (l := [some (0, o1), some (0, o3)]) rfl (Nat.succ_pos _)).1]
    show ((if bxWid [some (0, o1), some (0, o3)] 0 < bxWid [some (0, o1), some (0, o3)] 1 then 1 else 0 : Nat) : Int) = 1
    rw [w0, w1, if_pos (by omega)]
    rfl)
  clear S e0 e1 e2 e3 e4 l1 l2 l3 l4 l5
  go_enter Tryz.func4, Tryz.ntmps4
  have HB := Lib.hid (Below.refl w.heap.size w)
  go_wp2_with fail
  refine (kvOf (by decide) (by decide) (by decide) (by decide) H0.out H2.out M02.out).mono ?_; rintro ee w1 ⟨e1, K1, s1, M1, E1, K1b, s1b, M1b, E1b, rfl, v1, B⟩; replace hT := hT.below B; replace HB := Hqb HB B; clear B
  go_wp2_with fail
  refine (kvOf (by decide) (by decide) (by decide) (by decide) H0.out H1.out M01.out).mono ?_; rintro ee w2 ⟨e2, K2, s2, M2, E2, K2b, s2b, M2b, E2b, rfl, v2, B⟩; replace hT := hT.below B; replace HB := Hqb HB B; clear B
  go_upto_region 2 with (fail)
  have ha := Il8.lit2 (W := w2) rfl v1.rw v2.rw; have hb := bel1 w2 (.cells #[.bool e1, .int .i64 K1, .bool s1, .int .u64 M1, .int .i64 E1, .int .i64 K1b, .bool s1b, .int .u64 M1b, .int .i64 E1b, .bool e2, .int .i64 K2, .bool s2, .int .u64 M2, .int .i64 E2, .int .i64 K2b, .bool s2b, .int .u64 M2b, .int .i64 E2b] 34); replace hT := hT.below hb; replace HB := Hqb HB hb; generalize hw : World.alloc w2 (.cells #[.bool e1, .int .i64 K1, .bool s1, .int .u64 M1, .int .i64 E1, .int .i64 K1b, .bool s1b, .int .u64 M1b, .int .i64 E1b, .bool e2, .int .i64 K2, .bool s2, .int .u64 M2, .int .i64 E2, .int .i64 K2b, .bool s2b, .int .u64 M2b, .int .i64 E2b] 34) = w3 at *
  clear hb hw
  go_wp2_with fail
  refine (kvOf (by decide) (by decide) (by decide) (by decide) H1.out H3.out M13.out).mono ?_; rintro ee w4 ⟨e3, K3, s3, M3, E3, K3b, s3b, M3b, E3b, rfl, v3, B⟩; replace hT := hT.below B; replace ha := ha.below B; replace HB := Hqb HB B; clear B
  go_wp2_with fail
  refine (kvOf (by decide) (by decide) (by decide) (by decide) H2.out H3.out M23.out).mono ?_; rintro ee w5 ⟨e4, K4, s4, M4, E4, K4b, s4b, M4b, E4b, rfl, v4, B⟩; replace hT := hT.below B; replace ha := ha.below B; replace HB := Hqb HB B; clear B
  go_upto_region 3 with (fail)
  have hb2 := Il8.lit2 (W := w5) rfl v3.rw v4.rw; have hb := bel1 w5 (.cells #[.bool e3, .int .i64 K3, .bool s3, .int .u64 M3, .int .i64 E3, .int .i64 K3b, .bool s3b, .int .u64 M3b, .int .i64 E3b, .bool e4, .int .i64 K4, .bool s4, .int .u64 M4, .int .i64 E4, .int .i64 K4b, .bool s4b, .int .u64 M4b, .int .i64 E4b] 34); replace hT := hT.below hb; replace ha := ha.below hb; replace HB := Hqb HB hb
  generalize hw : World.alloc w5 (.cells #[.bool e3, .int .i64 K3, .bool s3, .int .u64 M3, .int .i64 E3, .int .i64 K3b, .bool s3b, .int .u64 M3b, .int .i64 E3b, .bool e4, .int .i64 K4, .bool s4, .int .u64 M4, .int .i64 E4, .int .i64 K4b, .bool s4b, .int .u64 M4b, .int .i64 E4b] 34) = w6 at *; clear hb hw; obtain ⟨ra, qa, ea⟩ := ha.iq; obtain ⟨rb, qb, eb⟩ := hb2.iq
  have HM2 := Lib.hid (show bxMeet (ra.map rkV) (rb.map rkV) = [none, none] by rw [ea, eb]; exact HME.out)
  clear ea eb
  go_wp2_with fail
  refine ((show Calls _ _ _ _ (PL _ 2 [none, none]) from kxMeet qa qb (by decide) HM2.out)).mono ?_
  rintro ee w7 ⟨A7, c7, rfl, N7, B⟩; replace hT := hT.below B; replace ha := ha.below B; replace hb2 := hb2.below B; replace qa := qa.below B; replace qb := qb.below B; replace HB := Hqb HB B; clear B; clear qa qb hb2
  go_wp2_with fail
  refine (kxEmpty (r := true) (N7.il (by decide)) rfl).mono ?_; rintro ee w8 ⟨rfl, B⟩; replace hT := hT.below B; replace ha := ha.below B; replace N7 := N7.below B; replace HB := Hqb HB B; clear B
  go_wp2_with fail
  refine (kxEmpty (r := false) ha rfl).mono ?_; rintro ee w9 ⟨rfl, B⟩; replace hT := hT.below B; replace ha := ha.below B; replace N7 := N7.below B; replace HB := Hqb HB B; clear B; clear ha N7
  go_wp2_with fail
  refine (kvOf (by decide) (by decide) (by decide) (by decide) H0.out H1.out M01.out).mono ?_; rintro ee w10 ⟨e11, K11, s11, M11, E11, K11b, s11b, M11b, E11b, rfl, v11, B⟩; replace hT := hT.below B; replace HB := Hqb HB B; clear B
  go_wp2_with fail
  refine (kvOf (by decide) (by decide) (by decide) (by decide) H0.out H3.out M03.out).mono ?_; rintro ee w11 ⟨e12, K12, s12, M12, E12, K12b, s12b, M12b, E12b, rfl, v12, B⟩; replace hT := hT.below B; replace HB := Hqb HB B; clear B
  go_wp2_with fail
  refine (kxWidest (hT.below (bel1 _ _)) (Il8.lit2 rfl v11.rw v12.rw) HW.out).mono ?_; rintro ee w12 ⟨rfl, B⟩; replace B := bt (bel1 _ _) B; replace hT := hT.below B; replace HB := Hqb HB B; clear B; go_wp2
  go_ret
  exact ⟨rfl, HB.out⟩
end Go.Proofs.YtpnmphofengoeaaGreatDoor

namespace Go.Proofs.YtpnmphofengoeaaGreatDoor
set_option maxHeartbeats 8000000
open Go.RowKit
set_option linter.unusedVariables false
set_option linter.unusedSimpArgs false
set_option maxRecDepth 100000

theorem jxEmpty {w : World} {A : Option Addr} {n c : Nat} {l : List Sp} {r : Bool} (h : Il8 w A n c l) (hr : bxEmp l = r) : Calls Tryz.prog 23 #[.slice A n c] w (PB w r) := by
  have HLn := Lib.hid h.1; have hcap := h.2.1; have hbig := h.2.2.1; have hD0 := h; have HR := Lib.hid hr; clear h hr
  go_enter Tryz.func23, Tryz.ntmps23
  go_wp2
  go_loopw [3] (fun i wr => ∃ k, k ≤ n ∧ i = .int .i64 ((k : Nat) : Int) ∧ EmInv w l k wr) (fun i _ => n - (intOf i).toNat)
  case atStart => exact ⟨0, Nat.zero_le _, rfl, rfl, Below.refl _ _⟩
  case round =>
    obtain ⟨k, hk, rfl, hE, hB⟩ := hrel; have HB := Lib.hid hB; have HE := Lib.hid hE; clear hB hE
    by_cases hlt : k < n
    · have tlt : decide ((k : Int) < (n : Int)) = true := by simp; omega
      have h := hD0.below HB.out; obtain ⟨b, o, rfl, hcell⟩ := h.2.2.2 (by omega); obtain ⟨e, D, s, M, E, D', s', M', E', x0, x1, x2, x3, x4, x5, x6, x7, x8, hM, hM', hx⟩ := hcell k hlt; clear hcell h hD0
      have i1 : (k : Int) < n := by omega
      have i2 : (0 : Int) ≤ k := by omega
      have hs := bxEmp_take (l := l) (k := k) (by rw [HLn.out]; exact hlt); rw [← hx, HE.out, Bool.false_or] at hs; obtain ⟨x, hX⟩ : ∃ x, rkI e D s M E D' s' M' E' = x := ⟨_, rfl⟩; rw [hX] at hs hx; have HS := Lib.hid hs; have HX := Lib.hid hX; have HXL := Lib.hid hx; clear hs hX hx
      go_wp2_with fail
      refine (jvFair hM hM' HX.out).mono ?_; rintro ee w3 ⟨e1, K1, s1, M1, E1, K1b, s1b, M1b, E1b, rfl, v1, B⟩; have HB2 := Hqb HB B; clear B HB x0 x1 x2 x3 x4 x5 x6 x7 x8
      go_upto_region 5 with (fail)
      have X4 := Bo.new w3 #[.bool e1, .int .i64 K1, .bool s1, .int .u64 M1, .int .i64 E1, .int .i64 K1b, .bool s1b, .int .u64 M1b, .int .i64 E1b] 34; have hb := bel1 w3 (.cells #[.bool e1, .int .i64 K1, .bool s1, .int .u64 M1, .int .i64 E1, .int .i64 K1b, .bool s1b, .int .u64 M1b, .int .i64 E1b] 34); replace HB2 := Lib.hid (bt HB2.out hb); generalize w3.alloc (.cells #[.bool e1, .int .i64 K1, .bool s1, .int .u64 M1, .int .i64 E1, .int .i64 K1b, .bool s1b, .int .u64 M1b, .int .i64 E1b] 34) = w4 at *
      clear hb; have c0 := X4.a 0 (.bool e1) rfl
      cases e1
      · have hn : decide (x = none) = false := decide_eq_false (fun c => by have := v1.empty.2 c; cases this)
        rw [hn] at HS; go_wp2
        go_roundw
        case rel => exact ⟨k + 1, by omega, by go_num, HS.out, HB2.out⟩
        case measure => simp [intOf]; omega
      · have hn : x = none := v1.empty.1 rfl
        have hr : true = r := by rw [← HR.out, bxEmp_hit (k := k) (by rw [HLn.out]; exact hlt) (by rw [← HXL.out]; exact hn)]
        subst hr; go_wp2
        go_ret
        exact ⟨rfl, HB2.out⟩
    · obtain rfl : k = n := by omega
      have tlt : decide ((k : Int) < (k : Int)) = false := by simp
      have e1 : l.take k = l := List.take_of_length_le (by rw [HLn.out]; omega)
      have HE2 := HE.out; rw [e1, HR.out] at HE2; subst HE2; clear e1 HE; go_wp2
      go_ret
      exact ⟨rfl, HB.out⟩
theorem Ia.other {w w' : World} {base n c g : Nat} {A : Option Addr} {l : List Sp} {a b : Array Value} {T : TypeId} (h : Ia w base A n c l) (S : StN w w' g a b T) (hne : ownA A = some g → False) : Ia w' base A n c l := by
  obtain ⟨r, h1, h2⟩ := h; refine ⟨r, ⟨h1.1, ?_⟩, h2⟩
  rcases h1.2 with h3 | ⟨g0, cap, cur, hv, hg, hh, q⟩
  · exact .inl h3
  · refine .inr ⟨g0, cap, cur, hv, hg, ?_, q⟩
    rw [S.2.2.1 g0 (fun e => ?_)]
    · exact hh
    · cases hv
      exact hne (congrArg some e)
def FrInv (w : World) (l : List Sp) (A : Option Addr) (k c : Nat) (wr : World) : Prop := Ia wr w.heap.size A k c (l.take k) ∧ Below w.heap.size w wr
theorem take_snoc {l : List Sp} {k : Nat} (h : k < l.length) : l.take (k + 1) = l.take k ++ [l.getD k none] := by
  rw [List.take_succ_eq_append_getElem h, List.getD_eq_getElem?_getD, List.getElem?_eq_getElem h]
  rfl
theorem jxFair {w : World} {A : Option Addr} {n c : Nat} {l1 l : List Sp} (h : Il8 w A n c l1) (hn : n ≤ 100000) (hl : bxFair l1 = l) : Calls Tryz.prog 19 #[.slice A n c] w (PL w n l) := by
  obtain ⟨q, hq⟩ : ∃ q, bxEmp l1 = q := ⟨_, rfl⟩; have HQ := Lib.hid hq
  have hln : l.length = n := by rw [← hl, bxFair_len]; exact h.1
  have HLn := Lib.hid hln; have HL := Lib.hid hl; have hcap := h.2.1; have hl1 := h.1; have HO := Lib.hid h.ok; clear hln hl hq
  go_enter Tryz.func19, Tryz.ntmps19
  go_wp2_with fail
  refine (jxEmpty h HQ.out).mono ?_; rintro ee w2 ⟨rfl, B⟩; have hD0 := h; clear h; go_wp2
  go_loopw [4, 5] (fun v i wr => ∃ k A1 c1, k ≤ n ∧ v = .slice A1 k c1 ∧ i = .int .i64 ((k : Nat) : Int) ∧ FrInv w l A1 k c1 wr) (fun _ i _ => n - (intOf i).toNat)
  case atStart => exact ⟨0, none, 0, Nat.zero_le _, rfl, rfl, Ia.nil _ _, B⟩
  case round =>
    obtain ⟨k, A1, c1, hk, rfl, rfl, N1, hB⟩ := hrel; have HB := Lib.hid hB; clear hB B
    by_cases hlt : k < n
    · have tlt : decide ((k : Int) < (n : Int)) = true := by simp; omega
      have h := hD0.below HB.out; obtain ⟨b, o, rfl, hcell⟩ := h.2.2.2 (by omega); obtain ⟨e, D, s, M, E, D', s', M', E', x0, x1, x2, x3, x4, x5, x6, x7, x8, hM, hM', hx⟩ := hcell k hlt; clear hcell h hD0
      have i1 : (k : Int) < n := by omega
      have i2 : (0 : Int) ≤ k := by omega
      have hs := take_snoc (l := l) (k := k) (by rw [HLn.out]; exact hlt); have HS := Lib.hid hs; have HX := Lib.hid hx; have hsz := HB.out.size
      have N0 := fun k hk => (N1.own_lt k hk).2
      clear hs hx
      go_upto_region 7 with (fail)
      clear x0 x1 x2 x3 x4 x5 x6 x7 x8; have lX6 := Nat.le_refl (World.heap wr).size; generalize hWn : wr.alloc _ = w4 at *; obtain ⟨X6, BW⟩ := Bo.nw hWn; clear hWn; replace N1 := N1.below BW; replace HB := Hqb HB BW; clear BW; clear lX6
      cases q
      · have hv : l.getD k none = l1.getD k none := by rw [← HL.out, bxFair_f HQ.out]
        have hci : Ci e D s M E D' s' M' E' (l1.getD k none) := by
          have hne := getD_some (k := k) HQ.out (by omega); rw [← HX.out] at hne ⊢; exact topV_ci (v := (e, D, s, M, E, D', s', M', E')) ⟨hM, hM'⟩ hne
        have xX6 := X6.cell
        go_wp2_with (at_builtin; refine wpList_ia rfl _ _ rfl rfl rfl (N1.below (bel1 _ _)) (Ia.lit (Bo.new _ _ _) hci) (by decide) (by omega) (Nat.le_trans HB.out.size (bel1 _ _).size) ?_; intro A3 c3 w7 N3 G3 at3)
        have HB3 := Lib.hid ((bt HB.out (bel1 _ (.cells #[.bool e, .int .i64 D, .bool s, .int .u64 M, .int .i64 E, .int .i64 D', .bool s', .int .u64 M', .int .i64 E'] 34))).grown G3 (Nat.le_trans HB.out.size (bel1 _ _).size) (fun k hk => (N1.own_lt k hk).1))
        clear N1 G3 at3 HB; go_wp2
        go_roundw
        case rel => exact ⟨k + 1, A3, c3, by omega, rfl, by go_num, by rw [HS.out, hv]; exact N3, HB3.out⟩
        case measure => simp [intOf]; omega
      · have hv : l.getD k none = none := by
          rw [← HL.out, bxFair_t HQ.out, List.getD_eq_getElem?_getD, List.getElem?_replicate, if_pos (by omega)]
          rfl
        go_upto_region 8 with (fail)
        go_wp2_with fail
        refine (jvNoneE).mono ?_; rintro ee w5 ⟨rfl, B⟩; replace X6 := X6.below B; replace N1 := N1.below B; replace HB := Hqb HB B; clear B; have xX6 := X6.cell; have zX60 := X6.frozen
        go_upto_region 9 with (fail)
        clear xX6 zX60; generalize hS : ((((((((w5.setCell _ _).setCell _ _).setCell _ _).setCell _ _).setCell _ _).setCell _ _).setCell _ _).setCell _ _).setCell _ _ = w6 at *; have SX := StN.of9 X6 hS
        replace N1 := N1.other SX (fun e => by have := N0 _ e; omega)
        replace HB := Lib.hid (SX.below HB.out hsz); replace X6 := SX.box; clear SX hS; have xX6 := X6.cell
        go_wp2_with (at_builtin; refine wpList_ia rfl _ _ rfl rfl rfl (N1.below (bel1 _ _)) (Ia.lit (Bo.new _ _ _) Ci.none) (by decide) (by omega) (Nat.le_trans HB.out.size (bel1 _ _).size) ?_; intro A3 c3 w7 N3 G3 at3)
        have HB3 := Lib.hid ((bt HB.out (bel1 _ (.cells #[.bool true, .int .i64 0, .bool false, .int .u64 0, .int .i64 0, .int .i64 0, .bool false, .int .u64 0, .int .i64 0] 34))).grown G3 (Nat.le_trans HB.out.size (bel1 _ _).size) (fun k hk => (N1.own_lt k hk).1))
        clear N1 G3 at3 HB; go_wp2
        go_roundw
        case rel => exact ⟨k + 1, A3, c3, by omega, rfl, by go_num, by rw [HS.out, hv]; exact N3, HB3.out⟩
        case measure => simp [intOf]; omega
    · obtain rfl : k = n := by omega
      have tlt : decide ((k : Int) < (k : Int)) = false := by simp
      have e1 : l.take k = l := List.take_of_length_le (by rw [HLn.out]; omega)
      have N2 := N1; rw [e1] at N2; clear N1 e1; go_wp2
      go_ret
      exact ⟨A1, c1, rfl, N2, HB.out⟩
theorem Ia.row {w : World} {b1 b2 n c d : Nat} {A B : Option Addr} {l : List Sp} (h1 : Ia w b1 A n c l) (h2 : Ia w b2 B n d l) (hn : n ≤ 100000) : ∃ r, Iq w A n c r ∧ Iq w B n d r := by
  obtain ⟨r1, o1, _, k1⟩ := h1.io; obtain ⟨r2, o2, _, k2⟩ := h2.io
  have e : r1 = r2 := by
    apply List.ext_getElem?
    intro k
    have l1 := o1.2.1; have l2 := o2.2.1
    rcases h : r1[k]? with _ | u
    · rw [List.getElem?_eq_none_iff] at h; rw [List.getElem?_eq_none (by omega)]
    · have hk := (List.getElem?_eq_some_iff.1 h).1
      have h' : r2[k]? = some r2[k] := List.getElem?_eq_getElem (by omega)
      rw [h', ciV_uniq (k1 k u h) (k2 k _ h')]
  subst e; exact ⟨r1, o1.iq (by omega), o2.iq (by omega)⟩
theorem jxSame {w : World} {A B : Option Addr} {n c d : Nat} {r : List V9} (ha : Iq w A n c r) (hb : Iq w B n d r) : Calls Tryz.prog 8 #[.slice A n c, .slice B n d] w (PB w true) := by
  have hcap := ha.2.1; have hcap2 := hb.2.1; have hbig := ha.2.2.1; have hrl := ha.1; have hD1 := ha; have hD2 := hb
  have t1 : (((n : Nat) : Int) == ((n : Nat) : Int)) = true := by simp
  clear ha hb
  go_enter Tryz.func8, Tryz.ntmps8
  go_wp2
  go_loopw [5] (fun i wr => ∃ k, k ≤ n ∧ i = .int .i64 ((k : Nat) : Int) ∧ Below w.heap.size w wr) (fun i _ => n - (intOf i).toNat)
  case atStart => exact ⟨0, Nat.zero_le _, rfl, Below.refl _ _⟩
  case round =>
    obtain ⟨k, hk, rfl, hB⟩ := hrel; have HB := Lib.hid hB; clear hB
    by_cases hlt : k < n
    · have tlt : decide ((k : Int) < (n : Int)) = true := by simp; omega
      have h1 := hD1.below HB.out; have h2 := hD2.below HB.out; obtain ⟨v, hv⟩ : ∃ v, r[k]? = some v := ⟨r[k], List.getElem?_eq_getElem (by omega)⟩; obtain ⟨e, D, s, M, E, D', s', M', E'⟩ := v; obtain ⟨b, o, rfl, x0, x1, x2, x3, x4, x5, x6, x7, x8⟩ := h1.at hlt hv; obtain ⟨b', o', rfl, y0, y1, y2, y3, y4, y5, y6, y7, y8⟩ := h2.at hlt hv; clear h1 h2 hD1 hD2 hv
      have i1 : (k : Int) < n := by omega
      have i2 : (0 : Int) ≤ k := by omega
      go_upto_region 6 with (fail)
      refine Jo.rk [0, 1, 2, 3, 4, 5, 6, 7, 8] [some 17, some 18, some 19, some 20, some 21, some 22, some 23, some 24, some 25] [[], [], [0, 1], [2], [], [], [4, 5], [6], [3, 7]] 9 0 [Jo.Fact.eq (.slice (some ⟨b, o, none⟩) n c), Jo.Fact.eq (.int .i64 ((k : Nat) : Int)), Jo.Fact.eq (.pointer (some ⟨b, o + k * 9, none⟩)), Jo.q9 e D s M E D' s' M' E', Jo.Fact.eq (.slice (some ⟨b', o', none⟩) n d), Jo.Fact.eq (.int .i64 ((k : Nat) : Int)), Jo.Fact.eq (.pointer (some ⟨b', o' + k * 9, none⟩)), Jo.q9 e D s M E D' s' M' E', Jo.qb false] (by kernel_rfl) (by kernel_rfl) (by decide) rfl ?_ ?_
      · iterate 2 (refine Jo.jm rfl ?_ ?_; rotate_left)
        refine Jo.jm rfl ?_ ?_
        · rintro wj hJ _ rfl _ rfl K hK; simp only [Jo.z] at hK ⊢; go_simp
          exact hK.out _ _ (by first | rfl | simp) (br _ _)
        refine Jo.jm rfl ?_ ?_
        · rintro wj hJ _ rfl K hK; simp only [Jo.z] at hK ⊢; have cx0 := (hJ.cell (block_lt_of_cell x0)).trans x0; have cx1 := (hJ.cell (block_lt_of_cell x1)).trans x1; have cx2 := (hJ.cell (block_lt_of_cell x2)).trans x2; have cx3 := (hJ.cell (block_lt_of_cell x3)).trans x3; have cx4 := (hJ.cell (block_lt_of_cell x4)).trans x4; have cx5 := (hJ.cell (block_lt_of_cell x5)).trans x5; have cx6 := (hJ.cell (block_lt_of_cell x6)).trans x6
          have cx7 := (hJ.cell (block_lt_of_cell x7)).trans x7; have cx8 := (hJ.cell (block_lt_of_cell x8)).trans x8; go_simp; exact hK.out _ _ rfl (br _ _)
        iterate 2 (refine Jo.jm rfl ?_ ?_; rotate_left)
        refine Jo.jm rfl ?_ ?_
        · rintro wj hJ _ rfl _ rfl K hK; simp only [Jo.z] at hK ⊢; go_simp
          exact hK.out _ _ (by first | rfl | simp) (br _ _)
        refine Jo.jm rfl ?_ ?_
        · rintro wj hJ _ rfl K hK; simp only [Jo.z] at hK ⊢; have cy0 := (hJ.cell (block_lt_of_cell y0)).trans y0; have cy1 := (hJ.cell (block_lt_of_cell y1)).trans y1; have cy2 := (hJ.cell (block_lt_of_cell y2)).trans y2; have cy3 := (hJ.cell (block_lt_of_cell y3)).trans y3; have cy4 := (hJ.cell (block_lt_of_cell y4)).trans y4; have cy5 := (hJ.cell (block_lt_of_cell y5)).trans y5; have cy6 := (hJ.cell (block_lt_of_cell y6)).trans y6
          have cy7 := (hJ.cell (block_lt_of_cell y7)).trans y7; have cy8 := (hJ.cell (block_lt_of_cell y8)).trans y8; go_simp; exact hK.out _ _ rfl (br _ _)
        refine Jo.jm rfl ?_ ?_
        · rintro wj hJ _ rfl _ rfl K hK; simp only [Jo.z] at hK ⊢; go_simp
          exact hK.out _ _ (by first | rfl | (show Value.bool _ = Value.bool _; simp)) (br _ _)
        exact Jo.Steps.nil
        all_goals (rintro wj hJ; (repeat rintro _ rfl); intro K hK; simp only [Jo.z] at hK ⊢; go_simp; exact hK.out _ _ rfl (br _ _))
      rintro w2 hJ _ rfl _ rfl _ _ _ rfl _ rfl _ rfl _ _ _ rfl _ rfl -; simp only [Jo.z]; replace HB := Hqb HB hJ; refine Jo.jdone (by kernel_rfl) ?_; clear x0 x1 x2 x3 x4 x5 x6 x7 x8 y0 y1 y2 y3 y4 y5 y6 y7 y8; go_wp2
      go_roundw
      case rel => exact ⟨k + 1, by omega, by go_num, HB.out⟩
      case measure => simp [intOf]; omega
    · obtain rfl : k = n := by omega
      have tlt : decide ((k : Int) < (k : Int)) = false := by simp
      go_wp2
      go_ret
      exact ⟨rfl, HB.out⟩
end Go.Proofs.YtpnmphofengoeaaGreatDoor

namespace Go.Proofs.YtpnmphofengoeaaGreatDoor
set_option maxHeartbeats 4000000
open Go.RowKit
set_option linter.unusedVariables false
set_option linter.unusedSimpArgs false
set_option maxRecDepth 100000

theorem FzI.s14 {x : Sp} (f : FzI x 1600) : NearS x := fun a b e => (f a b e).1.near (f a b e).2 (by decide)
theorem FzI.w14 {x : Sp} (f : FzI x 1600) : ∀ a b, x = some (a, b) → infp b = false → infp (-a) = false → Near (ep b) (ep (-a)) := fun a b e => (f a b e).2.near (f a b e).1.neg (by decide)
theorem jxWidest {w : World} {A : Option Addr} {n c : Nat} {l : List Sp} {r : Int} (h : Il8 w A n c l) (hN : ∀ k, k < n → FzI (l.getD k none) 1600) (hr : bxWidest l = r) : Calls Tryz.prog 10 #[.slice A n c] w (PI w r) := by
  have hln := h.1; have hcap := h.2.1; have hbig := h.2.2.1; obtain ⟨e, he⟩ : ∃ e, bxEmp l = e := ⟨_, rfl⟩; have HE := Lib.hid he
  cases e
  · rcases Nat.eq_zero_or_pos n with h0 | h0
    · subst h0
      have hr2 : -1 = r := by rw [← hr, bxWidest_neg (.inr hln)]
      subst hr2; clear hr hN he
      go_enter Tryz.func10, Tryz.ntmps10
      go_wp2_with fail
      refine (jxEmpty h HE.out).mono ?_; rintro ee w2 ⟨rfl, B⟩; clear h; go_wp2
      go_ret
      exact ⟨rfl, B⟩
    · obtain ⟨p1, _⟩ := bxWidest_pos he (by omega); rw [hln] at p1; have HP := Lib.hid (p1.symm.trans hr); have HN := Lib.hid hN
      have hnz : ¬ n = 0 := by omega
      have tz : (((n : Nat) : Int) == 0) = false := by simp; omega
      have hnz2 : ¬ ((n : Nat) : Int) = 0 := by omega
      clear hr p1 he hN; have hD0 := h
      go_enter Tryz.func10, Tryz.ntmps10
      go_wp2_with fail
      refine (jxEmpty h HE.out).mono ?_; rintro ee w2 ⟨rfl, B⟩; replace hD0 := hD0.below B; clear h; have HB0 := Lib.hid B; clear B; go_wp2
      go_loopw [4, 5] (fun v i wr => ∃ k, k < n ∧ v = .int .i64 ((bxArg (bxWid l) k : Nat) : Int) ∧ i = .int .i64 (((k + 1 : Nat) : Nat) : Int) ∧ Below w2.heap.size w2 wr) (fun _ i _ => n - (intOf i).toNat)
      case atStart => exact ⟨0, h0, rfl, rfl, Below.refl _ _⟩
      case round =>
        obtain ⟨k, hk, rfl, rfl, hB⟩ := hrel; have HB := Lib.hid hB; clear hB; have hj := bxArg_le (bxWid l) k; obtain ⟨j, hjj⟩ : ∃ j, bxArg (bxWid l) k = j := ⟨_, rfl⟩; have hsc := bxArg_succ (bxWid l) k; rw [hjj] at hsc hj ⊢
        by_cases hlt : k + 1 < n
        · obtain ⟨m, hm⟩ : ∃ m, k + 1 = m := ⟨_, rfl⟩; rw [hm] at hlt hsc ⊢
          have tlt : decide ((m : Int) < (n : Int)) = true := by simp; omega
          have h := hD0.below HB.out; obtain ⟨b, o, rfl, hcell⟩ := h.2.2.2 (by omega); obtain ⟨e, D, s, M, E, D', s', M', E', x0, x1, x2, x3, x4, x5, x6, x7, x8, hM, hM', hx⟩ := hcell m hlt; obtain ⟨e2, G, g, P, Q, G', g', P', Q', y0, y1, y2, y3, y4, y5, y6, y7, y8, hP, hP', hy⟩ := hcell j (by omega); clear hcell h hD0
          have i1 : (m : Int) < n := by omega
          have i2 : (0 : Int) ≤ m := by omega
          have j1 : (j : Int) < n := by omega
          have j2 : (0 : Int) ≤ j := by omega
          have HX := Lib.hid hx; have HY := Lib.hid hy; obtain ⟨α, ha⟩ : ∃ α, bxWid l m = α := ⟨_, rfl⟩; obtain ⟨β, hb⟩ : ∃ β, bxWid l j = β := ⟨_, rfl⟩
          have HA := Lib.hid (show widI (l.getD m none) = α from ha)
          have HBB := Lib.hid (show widI (l.getD j none) = β from hb)
          obtain ⟨s0, hs0⟩ : ∃ s0, cmpI α β = s0 := ⟨_, rfl⟩; have HS := Lib.hid hs0; have hgt := cmp_gt hs0; rw [ha, hb] at hsc; have N1 := Lib.hid (HN.out m hlt).w14; have N2 := Lib.hid (HN.out j (by omega)).w14; clear hx hy ha hb hs0
          by_cases hq : β < α
          all_goals first | rw [decide_eq_true hq] at hgt; rw [if_pos hq] at hsc | rw [decide_eq_false hq] at hgt; rw [if_neg hq] at hsc
          · go_upto_region 8 with (fail)
            refine Jo.rk [0, 1, 2, 3, 4, 5, 6, 7, 8, 9, 10, 11] [some 20, some 21, some 22, some 23, some 24, some 25, some 26, some 27, some 28, some 29, some 30, some 31] [[], [], [0, 1], [2], [3], [], [], [5, 6], [7], [8], [4, 9], [10]] 12 0 [Jo.Fact.eq (.slice (some ⟨b, o, none⟩) n c), Jo.Fact.eq (.int .i64 ((m : Nat) : Int)), Jo.Fact.eq (.pointer (some ⟨b, o + m * 9, none⟩)), Jo.q9 e D s M E D' s' M' E', Jo.Fact.num α, Jo.Fact.eq (.slice (some ⟨b, o, none⟩) n c), Jo.Fact.eq (.int .i64 ((j : Nat) : Int)), Jo.Fact.eq (.pointer (some ⟨b, o + j * 9, none⟩)), Jo.q9 e2 G g P Q G' g' P' Q', Jo.Fact.num β, Jo.qi s0, Jo.qb true] (by kernel_rfl) (by kernel_rfl) (by decide) rfl ?_ ?_
            · iterate 2 (refine Jo.jm rfl ?_ ?_; rotate_left)
              refine Jo.jm rfl ?_ ?_
              · rintro wj hJ _ rfl _ rfl K hK; simp only [Jo.z] at hK ⊢; go_simp
                exact hK.out _ _ (by first | rfl | simp) (br _ _)
              refine Jo.jm rfl ?_ ?_
              · rintro wj hJ _ rfl K hK; simp only [Jo.z] at hK ⊢; have cx0 := (hJ.cell (block_lt_of_cell x0)).trans x0; have cx1 := (hJ.cell (block_lt_of_cell x1)).trans x1; have cx2 := (hJ.cell (block_lt_of_cell x2)).trans x2; have cx3 := (hJ.cell (block_lt_of_cell x3)).trans x3; have cx4 := (hJ.cell (block_lt_of_cell x4)).trans x4; have cx5 := (hJ.cell (block_lt_of_cell x5)).trans x5; have cx6 := (hJ.cell (block_lt_of_cell x6)).trans x6
                have cx7 := (hJ.cell (block_lt_of_cell x7)).trans x7; have cx8 := (hJ.cell (block_lt_of_cell x8)).trans x8; go_simp; exact hK.out _ _ rfl (br _ _)
              refine Jo.jm rfl ?_ ?_
              · rintro wj hJ _ rfl K hK; simp only [Jo.z] at hK ⊢; go_simp; refine (jvWidth hM hM' HX.out N1.out HA.out).mono ?_; rintro ee wk ⟨K21, s21, M21, E21, rfl, q21, B⟩; exact hK.out _ _ ⟨K21, s21, M21, E21, rfl, q21⟩ B
              iterate 2 (refine Jo.jm rfl ?_ ?_; rotate_left)
              refine Jo.jm rfl ?_ ?_
              · rintro wj hJ _ rfl _ rfl K hK; simp only [Jo.z] at hK ⊢; go_simp
                exact hK.out _ _ (by first | rfl | simp) (br _ _)
              refine Jo.jm rfl ?_ ?_
              · rintro wj hJ _ rfl K hK; simp only [Jo.z] at hK ⊢; have cy0 := (hJ.cell (block_lt_of_cell y0)).trans y0; have cy1 := (hJ.cell (block_lt_of_cell y1)).trans y1; have cy2 := (hJ.cell (block_lt_of_cell y2)).trans y2; have cy3 := (hJ.cell (block_lt_of_cell y3)).trans y3; have cy4 := (hJ.cell (block_lt_of_cell y4)).trans y4; have cy5 := (hJ.cell (block_lt_of_cell y5)).trans y5; have cy6 := (hJ.cell (block_lt_of_cell y6)).trans y6
                have cy7 := (hJ.cell (block_lt_of_cell y7)).trans y7; have cy8 := (hJ.cell (block_lt_of_cell y8)).trans y8; go_simp; exact hK.out _ _ rfl (br _ _)
              refine Jo.jm rfl ?_ ?_
              · rintro wj hJ _ rfl K hK; simp only [Jo.z] at hK ⊢; go_simp; refine (jvWidth hP hP' HY.out N2.out HBB.out).mono ?_; rintro ee wk ⟨K22, s22, M22, E22, rfl, q22, B⟩; exact hK.out _ _ ⟨K22, s22, M22, E22, rfl, q22⟩ B
              refine Jo.jm rfl ?_ ?_
              · rintro wj hJ _ ⟨K21, s21, M21, E21, rfl, q21⟩ _ ⟨K22, s22, M22, E22, rfl, q22⟩ K hK; simp only [Jo.z] at hK ⊢; go_simp; refine (yCmp (z := s0) q21.top q22.top (by rw [q21.rk, q22.rk]; exact HS.out)).mono ?_; rintro ee wk ⟨rfl, B⟩; exact hK.out _ _ rfl B
              refine Jo.jm rfl ?_ ?_
              · rintro wj hJ _ rfl K hK; simp only [Jo.z] at hK ⊢; go_simp
                exact hK.out _ _ (by first | rfl | rw [hgt] | simp [hgt]) (br _ _)
              exact Jo.Steps.nil
              all_goals (rintro wj hJ; (repeat rintro _ rfl); intro K hK; simp only [Jo.z] at hK ⊢; go_simp; exact hK.out _ _ rfl (br _ _))
            rintro w9 hJ _ rfl _ rfl _ _ _ rfl _ ⟨K21, s21, M21, E21, rfl, _⟩ _ rfl _ rfl _ _ _ rfl _ ⟨K22, s22, M22, E22, rfl, _⟩ _ rfl _ rfl -; simp only [Jo.z]; replace HB := Hqb HB hJ; refine Jo.jdone (by kernel_rfl) ?_; clear x0 x1 x2 x3 x4 x5 x6 x7 x8 y0 y1 y2 y3 y4 y5 y6 y7 y8; go_wp2
            go_roundw
            case rel => exact ⟨m, hlt, by rw [hsc], by go_num, HB.out⟩
            case measure => simp [intOf]; omega
          · go_upto_region 8 with (fail)
            refine Jo.rk [0, 1, 2, 3, 4, 5, 6, 7, 8, 9, 10, 11] [some 20, some 21, some 22, some 23, some 24, some 25, some 26, some 27, some 28, some 29, some 30, some 31] [[], [], [0, 1], [2], [3], [], [], [5, 6], [7], [8], [4, 9], [10]] 12 0 [Jo.Fact.eq (.slice (some ⟨b, o, none⟩) n c), Jo.Fact.eq (.int .i64 ((m : Nat) : Int)), Jo.Fact.eq (.pointer (some ⟨b, o + m * 9, none⟩)), Jo.q9 e D s M E D' s' M' E', Jo.Fact.num α, Jo.Fact.eq (.slice (some ⟨b, o, none⟩) n c), Jo.Fact.eq (.int .i64 ((j : Nat) : Int)), Jo.Fact.eq (.pointer (some ⟨b, o + j * 9, none⟩)), Jo.q9 e2 G g P Q G' g' P' Q', Jo.Fact.num β, Jo.qi s0, Jo.qb false] (by kernel_rfl) (by kernel_rfl) (by decide) rfl ?_ ?_
            · iterate 2 (refine Jo.jm rfl ?_ ?_; rotate_left)
              refine Jo.jm rfl ?_ ?_
              · rintro wj hJ _ rfl _ rfl K hK; simp only [Jo.z] at hK ⊢; go_simp
                exact hK.out _ _ (by first | rfl | simp) (br _ _)
              refine Jo.jm rfl ?_ ?_
              · rintro wj hJ _ rfl K hK; simp only [Jo.z] at hK ⊢; have cx0 := (hJ.cell (block_lt_of_cell x0)).trans x0; have cx1 := (hJ.cell (block_lt_of_cell x1)).trans x1; have cx2 := (hJ.cell (block_lt_of_cell x2)).trans x2; have cx3 := (hJ.cell (block_lt_of_cell x3)).trans x3; have cx4 := (hJ.cell (block_lt_of_cell x4)).trans x4; have cx5 := (hJ.cell (block_lt_of_cell x5)).trans x5; have cx6 := (hJ.cell (block_lt_of_cell x6)).trans x6
                have cx7 := (hJ.cell (block_lt_of_cell x7)).trans x7; have cx8 := (hJ.cell (block_lt_of_cell x8)).trans x8; go_simp; exact hK.out _ _ rfl (br _ _)
              refine Jo.jm rfl ?_ ?_
              · rintro wj hJ _ rfl K hK; simp only [Jo.z] at hK ⊢; go_simp; refine (jvWidth hM hM' HX.out N1.out HA.out).mono ?_; rintro ee wk ⟨K21, s21, M21, E21, rfl, q21, B⟩; exact hK.out _ _ ⟨K21, s21, M21, E21, rfl, q21⟩ B
              iterate 2 (refine Jo.jm rfl ?_ ?_; rotate_left)
              refine Jo.jm rfl ?_ ?_
              · rintro wj hJ _ rfl _ rfl K hK; simp only [Jo.z] at hK ⊢; go_simp
                exact hK.out _ _ (by first | rfl | simp) (br _ _)
              refine Jo.jm rfl ?_ ?_
              · rintro wj hJ _ rfl K hK; simp only [Jo.z] at hK ⊢; have cy0 := (hJ.cell (block_lt_of_cell y0)).trans y0; have cy1 := (hJ.cell (block_lt_of_cell y1)).trans y1; have cy2 := (hJ.cell (block_lt_of_cell y2)).trans y2; have cy3 := (hJ.cell (block_lt_of_cell y3)).trans y3; have cy4 := (hJ.cell (block_lt_of_cell y4)).trans y4; have cy5 := (hJ.cell (block_lt_of_cell y5)).trans y5; have cy6 := (hJ.cell (block_lt_of_cell y6)).trans y6
                have cy7 := (hJ.cell (block_lt_of_cell y7)).trans y7; have cy8 := (hJ.cell (block_lt_of_cell y8)).trans y8; go_simp; exact hK.out _ _ rfl (br _ _)
              refine Jo.jm rfl ?_ ?_
              · rintro wj hJ _ rfl K hK; simp only [Jo.z] at hK ⊢; go_simp; refine (jvWidth hP hP' HY.out N2.out HBB.out).mono ?_; rintro ee wk ⟨K22, s22, M22, E22, rfl, q22, B⟩; exact hK.out _ _ ⟨K22, s22, M22, E22, rfl, q22⟩ B
              refine Jo.jm rfl ?_ ?_
              · rintro wj hJ _ ⟨K21, s21, M21, E21, rfl, q21⟩ _ ⟨K22, s22, M22, E22, rfl, q22⟩ K hK; simp only [Jo.z] at hK ⊢; go_simp; refine (yCmp (z := s0) q21.top q22.top (by rw [q21.rk, q22.rk]; exact HS.out)).mono ?_; rintro ee wk ⟨rfl, B⟩; exact hK.out _ _ rfl B
              refine Jo.jm rfl ?_ ?_
              · rintro wj hJ _ rfl K hK; simp only [Jo.z] at hK ⊢; go_simp
                exact hK.out _ _ (by first | rfl | rw [hgt] | simp [hgt]) (br _ _)
              exact Jo.Steps.nil
              all_goals (rintro wj hJ; (repeat rintro _ rfl); intro K hK; simp only [Jo.z] at hK ⊢; go_simp; exact hK.out _ _ rfl (br _ _))
            rintro w9 hJ _ rfl _ rfl _ _ _ rfl _ ⟨K21, s21, M21, E21, rfl, _⟩ _ rfl _ rfl _ _ _ rfl _ ⟨K22, s22, M22, E22, rfl, _⟩ _ rfl _ rfl -; simp only [Jo.z]; replace HB := Hqb HB hJ; refine Jo.jdone (by kernel_rfl) ?_; clear x0 x1 x2 x3 x4 x5 x6 x7 x8 y0 y1 y2 y3 y4 y5 y6 y7 y8; go_wp2
            go_roundw
            case rel => exact ⟨m, hlt, by rw [hsc], by go_num, HB.out⟩
            case measure => simp [intOf]; omega
        · have hm : k + 1 = n := by omega
          rw [hm]
          have tlt : decide ((n : Int) < (n : Int)) = false := by simp
          have hr2 : ((j : Nat) : Int) = r := by rw [← HP.out, ← hm, Nat.add_sub_cancel, hjj]
          replace HB := Lib.hid (bt HB0.out HB.out); subst hr2; go_wp2
          go_ret
          exact ⟨rfl, HB.out⟩
  · have hr2 : -1 = r := by rw [← hr, bxWidest_neg (.inl he)]
    subst hr2; clear hr hN he
    go_enter Tryz.func10, Tryz.ntmps10
    go_wp2_with fail
    refine (jxEmpty h HE.out).mono ?_; rintro ee w2 ⟨rfl, B⟩; clear h; go_wp2
    go_ret
    exact ⟨rfl, B⟩
theorem jxSplit_no {w : World} {A : Option Addr} {n c : Nat} {i : Int} (hi : i < 0 ∨ (n : Int) ≤ i) : Calls Tryz.prog 7 #[.slice A n c, .int .i64 i] w (PL2 w [] []) := by
  by_cases h0 : i < 0
  · have t0 : decide (i < 0) = true := decide_eq_true h0
    go_enter Tryz.func7, Tryz.ntmps7
    go_wp2
    go_ret2
    exact ⟨none, 0, none, 0, rfl, Ia.nil _ _, Ia.nil _ _, Below.refl _ _⟩
  · have t0 : decide (i < 0) = false := decide_eq_false h0
    have p0 : 0 ≤ i := by omega
    have p1 : (n : Int) ≤ i := by omega
    have t1 : decide ((n : Int) ≤ i) = true := decide_eq_true p1
    go_enter Tryz.func7, Tryz.ntmps7
    go_wp2
    go_ret2
    exact ⟨none, 0, none, 0, rfl, Ia.nil _ _, Ia.nil _ _, Below.refl _ _⟩
theorem jxSplit {w : World} {A : Option Addr} {n c : Nat} {r : List V9} {i : Nat} {l1 l2 : List Sp} (h : Iq w A n c r) (hn : n ≤ 100000) (hN : NearS ((r.map rkV).getD i none)) (hi : i < n) (h1 : bxLo (r.map rkV) i = l1) (h2 : bxHi (r.map rkV) i = l2) : Calls Tryz.prog 7 #[.slice A n c, .int .i64 ((i : Nat) : Int)] w (PL2 w l1 l2) := by
  have t0 : decide (((i : Nat) : Int) < 0) = false := by simp
  have t1 : decide ((n : Int) ≤ ((i : Nat) : Int)) = false := by simp; omega
  have i1 : ((i : Nat) : Int) < n := by omega
  have i2 : (0 : Int) ≤ ((i : Nat) : Int) := by omega
  have p0 := i2
  have p1 : ¬ (n : Int) ≤ ((i : Nat) : Int) := by omega
  have hrl := h.1; have HNS := Lib.hid hN; clear hN
  obtain ⟨a0, rfl⟩ : ∃ a0, A = some a0 := by
    obtain ⟨b, o, e, _⟩ := h.2.2.2.2 (by omega); exact ⟨_, e⟩
  have H1 := Lib.hid h1; have H2 := Lib.hid h2; have HTOP := Lib.hid h.2.2.2.1; clear h1 h2
  go_enter Tryz.func7, Tryz.ntmps7
  go_upto_region 4 with (at_builtin; refine wpList_io rfl _ _ rfl rfl rfl (Io.nil w w.heap.size) h (by omega) (Nat.le_refl _) ?_; intro A1 c1 w2 N1 G1 at1)
  rw [Nat.zero_add, List.nil_append] at N1
  have HB := Lib.hid ((Below.refl w.heap.size w).grown G1 (Nat.le_refl _) (fun k hk => by cases hk))
  replace h := h.below HB.out; clear G1 at1
  go_upto_region 5 with (at_builtin; refine wpList_io rfl _ _ rfl rfl rfl (Io.nil w2 w2.heap.size) h (by omega) (Nat.le_refl _) ?_; intro A2 c2 w3 N2 G2 at2)
  rw [Nat.zero_add, List.nil_append] at N2; have hz2 := HB.out.size; have M1 := N1.own_lt; have M2 := N2.own_lt
  have B := (Below.refl w2.heap.size w2).grown G2 (Nat.le_refl _) (fun k hk => by cases hk)
  replace N1 := N1.below B; replace h := h.below B; replace HB := Hqb HB B; clear B G2 at2; obtain ⟨v, hv⟩ : ∃ v, r[i]? = some v := ⟨r[i], List.getElem?_eq_getElem (by omega)⟩; have ht := HTOP.out v (List.mem_of_getElem? hv); obtain ⟨e, D, s, M, E, D', s', M', E'⟩ := v; obtain ⟨b, o, ea, x0, x1, x2, x3, x4, x5, x6, x7, x8⟩ := h.at hi hv
  cases ea
  obtain ⟨x, hx⟩ : ∃ x, rkI e D s M E D' s' M' E' = x := ⟨_, rfl⟩
  have hxl : (r.map rkV).getD i none = x := by
    rw [List.getD_eq_getElem?_getD, List.getElem?_map, hv]; exact hx
  obtain ⟨y, hy⟩ : ∃ y, loI x = y := ⟨_, rfl⟩; obtain ⟨z, hz⟩ : ∃ z, hiI x = z := ⟨_, rfl⟩; have HY := Lib.hid hy; have HZ := Lib.hid hz; have HX := Lib.hid hx; have HXL := Lib.hid hxl; clear hx hy hz hxl h
  go_wp2_with fail
  refine (jvSplit ht.1 ht.2 HX.out (by rw [← HXL.out]; exact HNS.out) HY.out HZ.out).mono ?_; rintro ee w40 ⟨e1, K1, s1, M1', E1, K1b, s1b, M1b, E1b, e2, K2, s2, M2', E2, K2b, s2b, M2b, E2b, rfl, v1, v2, B⟩; clear x0 x1 x2 x3 x4 x5 x6 x7 x8; replace N1 := N1.below B; replace N2 := N2.below B; replace HB := Hqb HB B; have hz3 := B.size; clear B
  go_upto_region 6 with (fail)
  have e4X9 : (World.alloc w40 (.cells #[.bool e1, .int .i64 K1, .bool s1, .int .u64 M1', .int .i64 E1, .int .i64 K1b, .bool s1b, .int .u64 M1b, .int .i64 E1b] 34)).heap.size = w40.heap.size + 1 := by simp
  have lX8 := Nat.le_refl (World.heap w40).size; replace N1 := N1.below (bel1 _ (.cells #[.bool e1, .int .i64 K1, .bool s1, .int .u64 M1', .int .i64 E1, .int .i64 K1b, .bool s1b, .int .u64 M1b, .int .i64 E1b] 34)); replace N2 := N2.below (bel1 _ (.cells #[.bool e1, .int .i64 K1, .bool s1, .int .u64 M1', .int .i64 E1, .int .i64 K1b, .bool s1b, .int .u64 M1b, .int .i64 E1b] 34)); replace HB := Lib.hid (bt HB.out (bel1 _ (.cells #[.bool e1, .int .i64 K1, .bool s1, .int .u64 M1', .int .i64 E1, .int .i64 K1b, .bool s1b, .int .u64 M1b, .int .i64 E1b] 34)))
  have X8 := Bo.new w40 #[.bool e1, .int .i64 K1, .bool s1, .int .u64 M1', .int .i64 E1, .int .i64 K1b, .bool s1b, .int .u64 M1b, .int .i64 E1b] 34; generalize hWn : World.alloc w40 (.cells #[.bool e1, .int .i64 K1, .bool s1, .int .u64 M1', .int .i64 E1, .int .i64 K1b, .bool s1b, .int .u64 M1b, .int .i64 E1b] 34) = w41 at *; clear hWn; have lX9 := Nat.le_refl (World.heap w41).size; have nX9X8 := X8.lt
  generalize hWn : w41.alloc _ = w4 at *; obtain ⟨X9, BW⟩ := Bo.nw hWn; clear hWn; replace X8 := X8.below BW; replace N1 := N1.below BW; replace N2 := N2.below BW; replace HB := Hqb HB BW; clear BW; rw [e4X9] at X9; clear lX8 lX9 e4X9; have xX8 := X8.cell; have xX9 := X9.cell; obtain ⟨g1, cap1, cur1, rfl, X1, hs1, hc1⟩ := N1.form (by omega)
  obtain ⟨g2, cap2, cur2, rfl, X2, hs2, hc2⟩ := N2.form (by omega); have hg1 := M1 g1 rfl; have hg2 := M2 g2 rfl
  have hne : g1 ≠ g2 := by omega
  have hne' : g2 ≠ g1 := by omega
  have ha1 : g1 ≠ w40.heap.size := by omega
  have ha2 : g1 ≠ w40.heap.size + 1 := by omega
  have ha3 : g2 ≠ w40.heap.size := by omega
  have ha4 : g2 ≠ w40.heap.size + 1 := by omega
  have hb1 : w40.heap.size ≠ g1 := by omega
  have hb2 : w40.heap.size + 1 ≠ g1 := by omega
  have hb3 : w40.heap.size ≠ g2 := by omega
  have hb4 : w40.heap.size + 1 ≠ g2 := by omega
  have HV := Lib.hid hv; obtain ⟨b1, o1, e1', y0, y1, y2, y3, y4, y5, y6, y7, y8⟩ := (N1.iq (by omega)).at hi hv
  cases e1'
  simp only [Nat.zero_add] at y0 y1 y2 y3 y4 y5 y6 y7 y8; have yz0 := X1.frozen (i * 9); have yz1 := X1.frozen (i * 9 + 1); have yz2 := X1.frozen (i * 9 + 2); have yz3 := X1.frozen (i * 9 + 3); have yz4 := X1.frozen (i * 9 + 4); have yz5 := X1.frozen (i * 9 + 5); have yz6 := X1.frozen (i * 9 + 6); have yz7 := X1.frozen (i * 9 + 7); have yz8 := X1.frozen (i * 9 + 8); obtain ⟨b2, o2, e2', u0, u1, u2, u3, u4, u5, u6, u7, u8⟩ := (N2.iq (by omega)).at hi hv
  cases e2'
  simp only [Nat.zero_add] at u0 u1 u2 u3 u4 u5 u6 u7 u8; have uz0 := X2.frozen (i * 9); have uz1 := X2.frozen (i * 9 + 1); have uz2 := X2.frozen (i * 9 + 2); have uz3 := X2.frozen (i * 9 + 3); have uz4 := X2.frozen (i * 9 + 4); have uz5 := X2.frozen (i * 9 + 5); have uz6 := X2.frozen (i * 9 + 6); have uz7 := X2.frozen (i * 9 + 7); have uz8 := X2.frozen (i * 9 + 8); clear hv
  go_upto_region 8 with (fail)
  clear xX8 xX9 X8 X9; clear y0 y1 y2 y3 y4 y5 y6 y7 y8 u0 u1 u2 u3 u4 u5 u6 u7 u8 yz0 yz1 yz2 yz3 yz4 yz5 yz6 yz7 yz8 uz0 uz1 uz2 uz3 uz4 uz5 uz6 uz7 uz8; have Q1 := N1.set hi (e := e1) (K := K1) (s := s1) (E := E1) (K' := K1b) (s' := s1b) (E' := E1b) v1.top.1 v1.top.2; have G1 := grown_set9 (w := w4) (g := g1) (i := i * 9) (v0 := .bool e1) (v1 := .int .i64 K1) (v2 := .bool s1) (v3 := .int .u64 M1') (v4 := .int .i64 E1) (v5 := .int .i64 K1b) (v6 := .bool s1b) (v7 := .int .u64 M1b) (v8 := .int .i64 E1b)
  replace N2 := N2.kept G1 (.inr (fun c => hne' (Option.some.inj c)))
  have hz4 := HB.out.size
  replace HB := Lib.hid (HB.out.grown G1 hz4 (fun k hk => by cases hk; exact hg1.1))
  clear N1 X1 X2 G1; generalize hw5 : (World.setCell (World.setCell (World.setCell (World.setCell (World.setCell (World.setCell (World.setCell (World.setCell (World.setCell w4 ⟨g1, i * 9, none⟩ (.bool e1)) ⟨g1, i * 9 + 1, none⟩ (.int .i64 K1)) ⟨g1, i * 9 + 2, none⟩ (.bool s1)) ⟨g1, i * 9 + 3, none⟩ (.int .u64 M1')) ⟨g1, i * 9 + 4, none⟩ (.int .i64 E1)) ⟨g1, i * 9 + 5, none⟩ (.int .i64 K1b)) ⟨g1, i * 9 + 6, none⟩ (.bool s1b)) ⟨g1, i * 9 + 7, none⟩ (.int .u64 M1b)) ⟨g1, i * 9 + 8, none⟩ (.int .i64 E1b)) = w5 at *
  clear hw5; have Q2 := N2.set hi (e := e2) (K := K2) (s := s2) (E := E2) (K' := K2b) (s' := s2b) (E' := E2b) v2.top.1 v2.top.2; have G2 := grown_set9 (w := w5) (g := g2) (i := i * 9) (v0 := .bool e2) (v1 := .int .i64 K2) (v2 := .bool s2) (v3 := .int .u64 M2') (v4 := .int .i64 E2) (v5 := .int .i64 K2b) (v6 := .bool s2b) (v7 := .int .u64 M2b) (v8 := .int .i64 E2b)
  replace Q1 := Q1.kept G2 (.inr (fun c => hne (Option.some.inj c)))
  have hz5 := HB.out.size
  replace HB := Lib.hid (HB.out.grown G2 hz5 (fun k hk => by cases hk; omega))
  clear N2 G2; generalize hw6 : (World.setCell (World.setCell (World.setCell (World.setCell (World.setCell (World.setCell (World.setCell (World.setCell (World.setCell w5 ⟨g2, i * 9, none⟩ (.bool e2)) ⟨g2, i * 9 + 1, none⟩ (.int .i64 K2)) ⟨g2, i * 9 + 2, none⟩ (.bool s2)) ⟨g2, i * 9 + 3, none⟩ (.int .u64 M2')) ⟨g2, i * 9 + 4, none⟩ (.int .i64 E2)) ⟨g2, i * 9 + 5, none⟩ (.int .i64 K2b)) ⟨g2, i * 9 + 6, none⟩ (.bool s2b)) ⟨g2, i * 9 + 7, none⟩ (.int .u64 M2b)) ⟨g2, i * 9 + 8, none⟩ (.int .i64 E2b)) = w6 at *
  clear hw6
  have hl1 : bxFair ((r.set i (e1, K1, s1, M1', E1, K1b, s1b, M1b, E1b)).map rkV) = l1 := by
    rw [List.map_set, show rkV (e1, K1, s1, M1', E1, K1b, s1b, M1b, E1b) = y from v1.rk, ← HY.out, ← HXL.out]
    exact H1.out
  have hl2 : bxFair ((r.set i (e2, K2, s2, M2', E2, K2b, s2b, M2b, E2b)).map rkV) = l2 := by
    rw [List.map_set, show rkV (e2, K2, s2, M2', E2, K2b, s2b, M2b, E2b) = z from v2.rk, ← HZ.out, ← HXL.out]
    exact H2.out
  have n1 : l1.length = n := by rw [← hl1, bxFair_len, List.length_map, List.length_set, hrl]
  have n2 : l2.length = n := by rw [← hl2, bxFair_len, List.length_map, List.length_set, hrl]
  have HL1 := Lib.hid hl1; have HL2 := Lib.hid hl2; have HN1 := Lib.hid n1; have HN2 := Lib.hid n2; clear hl1 hl2 n1 n2 H1 H2 HX HXL HY HZ HV M1 M2; have hz6 := HB.out.size
  go_wp2_with fail
  refine (jxFair (Q1.iq (by omega)).il hn HL1.out).mono ?_; rintro ee w7 ⟨A7, c7, rfl, R1, B⟩; replace Q2 := Q2.below B; have hz7 := B.size; replace HB := Hqb HB B; clear B Q1
  go_wp2_with fail
  refine (jxFair (Q2.iq (by omega)).il hn HL2.out).mono ?_; rintro ee w8 ⟨A8, c8, rfl, R2, B⟩; replace R1 := R1.below B; replace HB := Hqb HB B; clear B Q2; go_wp2
  go_ret2
  exact ⟨A7, c7, A8, c8, by rw [HN1.out, HN2.out]; rfl, by rw [HN1.out]; exact R1.lower hz6, by rw [HN2.out]; exact R2.lower (by omega), HB.out⟩
def fewV : V9 → Bool
  | (_, D, _, _, E, G, _, _, Q) => fewq D E && fewq G Q
theorem fewV_fz {v : V9} (ht : topV v) (h : fewV v = true) : FzI (rkV v) 1600 := by
  obtain ⟨e, D, s, M, E, D', s', M', E'⟩ := v; exact rkI_fz ht.1 ht.2 h
theorem few_take {r : List V9} {k : Nat} {v : V9} (hv : r[k]? = some v) : (r.take (k + 1)).all fewV = ((r.take k).all fewV && fewV v) := by
  rw [List.take_add_one, hv, List.all_append]
  simp
theorem lxFew {w : World} {A : Option Addr} {n c : Nat} {r : List V9} {q : Bool} (h : Iq w A n c r) (h0 : decide ((20 : Int) < (n : Int)) = false) (hq : r.all fewV = q) : Calls Tryz.prog 5 #[.slice A n c] w (PB w q) := by
  have hrl := h.1; have hcap := h.2.1; have hbig := h.2.2.1; have hD0 := h; have HQ := Lib.hid hq; clear h hq
  go_enter Tryz.func5, Tryz.ntmps5
  go_wp2
  go_loopw [3] (fun i wr => ∃ k, k ≤ n ∧ i = .int .i64 ((k : Nat) : Int) ∧ (r.take k).all fewV = true ∧ Below w.heap.size w wr) (fun i _ => n - (intOf i).toNat)
  case atStart => exact ⟨0, Nat.zero_le _, rfl, rfl, Below.refl _ _⟩
  case round =>
    obtain ⟨k, hk, rfl, hE, hB⟩ := hrel; have HB := Lib.hid hB; have HE := Lib.hid hE; clear hB hE
    by_cases hlt : k < n
    · have tlt : decide ((k : Int) < (n : Int)) = true := by simp; omega
      have h := hD0.below HB.out; obtain ⟨v, hv⟩ : ∃ v, r[k]? = some v := ⟨r[k], List.getElem?_eq_getElem (by omega)⟩; have hs := few_take hv; have hmem := List.mem_of_getElem? hv; obtain ⟨e, D, s, M, E, D', s', M', E'⟩ := v; obtain ⟨b, o, rfl, x0, x1, x2, x3, x4, x5, x6, x7, x8⟩ := h.at hlt hv; clear h hD0 hv; rw [HE.out, Bool.true_and] at hs
      have i1 : (k : Int) < n := by omega
      have i2 : (0 : Int) ≤ k := by omega
      obtain ⟨p, hp⟩ : ∃ p, (fewq D E && fewq D' E') = p := ⟨_, rfl⟩
      rw [show fewV (e, D, s, M, E, D', s', M', E') = p from hp] at hs
      have HP := Lib.hid hp; have HS := Lib.hid hs; have HM := Lib.hid hmem; clear hp hs hmem
      go_wp2_with fail
      refine (kvFew9 HP.out).mono ?_; rintro ee w3 ⟨rfl, B⟩; have HB2 := Hqb HB B; clear B HB x0 x1 x2 x3 x4 x5 x6 x7 x8
      cases p
      · have hq2 : false = q := by
          rw [← HQ.out]
          exact (List.all_eq_false.2 ⟨_, HM.out, by show ¬ (fewq D E && fewq D' E') = true; rw [HP.out]; exact Bool.false_ne_true⟩).symm
        subst hq2; go_wp2
        go_ret
        exact ⟨rfl, HB2.out⟩
      · go_wp2
        go_roundw
        case rel => exact ⟨k + 1, by omega, by go_num, HS.out, HB2.out⟩
        case measure => simp [intOf]; omega
    · obtain rfl : k = n := by omega
      have tlt : decide ((k : Int) < (k : Int)) = false := by simp
      have hq2 : true = q := by rw [← HQ.out, ← HE.out, List.take_of_length_le (by omega)]
      subst hq2; go_wp2
      go_ret
      exact ⟨rfl, HB.out⟩
theorem lxFew_no {w : World} {A : Option Addr} {n c : Nat} (h0 : decide ((20 : Int) < (n : Int)) = true) : Calls Tryz.prog 5 #[.slice A n c] w (PB w false) := by
  go_enter Tryz.func5, Tryz.ntmps5
  go_wp2
  go_ret
  exact ⟨rfl, Below.refl _ _⟩
end Go.Proofs.YtpnmphofengoeaaGreatDoor
