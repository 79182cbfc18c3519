/-
 Contracts that the proof rests on.
-/
import Derived.Test.YtnbliijpjcmbjaaGreatDoorYPbf
namespace Go.Proofs.YtnbliijpjcmbjaaGreatDoor
set_option maxHeartbeats 8000000
open Go.RowKit
set_option linter.unusedVariables false
set_option linter.unusedSimpArgs false
set_option maxRecDepth 100000
theorem Na.stn {w w' : World} {base n c g : Nat} {A : Option Addr} {l : List Int} {a b : Array Value} {T : TypeId} (h : Na w base A n c l) (S : StN w w' g a b T) (hT : (T == 24) = false) : Na w' base A n c l := by
 obtain ⟨r, h1, h2⟩ := h; refine ⟨r, ⟨h1.1, ?_⟩, h2⟩
 rcases h1.2 with h3 | ⟨g0, cap, cur, hv, hg, hh, q⟩
 · exact .inl h3
 · refine .inr ⟨g0, cap, cur, hv, hg, ?_, q⟩
   rw [S.2.2.1 g0 (fun e => ?_)]
   · exact hh
   · subst e
     have hb : w.heap[g0]? = some (.cells a T (0, 0)) := S.1
     rw [hh] at hb
     simp at hb
     rw [← hb.2] at hT
     simp at hT
theorem Bo.grownN {w w' : World} {base n c g : Nat} {A : Option Addr} {l : List Int} {a : Array Value} {T : TypeId} (X : Bo w g a T) (h : Na w base A n c l) (hT : (T == 24) = false) (G : w.grownBy w' (ownA A)) : Bo w' g a T := by
 refine X.keep (G.block g X.lt (fun e => ?_))
 obtain ⟨r, h1, h2⟩ := h
 rcases h1.2 with ⟨h3, _⟩ | ⟨g0, cap, cur, hv, hg, hh, q⟩
 · injection h3 with h4
   subst h4
   cases e
 · injection hv with h4
   subst h4
   cases e
   have hb := X
   unfold Bo at hb
   rw [hh] at hb
   simp at hb
   rw [← hb.2] at hT
   simp at hT
theorem ne_row {A A2 B B2 : Option Addr} {s1 s2 : Nat} (hne : ∀ k, ownA A = some k → ownA B ≠ some k) (a1 : ownA A2 = ownA A ∨ ownA A2 = some s1) (a2 : ownA B2 = ownA B ∨ ownA B2 = some s2) (lB : ∀ k, ownA B = some k → k < s1) (lA : ∀ k, ownA A2 = some k → k < s2) : ∀ k, ownA A2 = some k → ownA B2 ≠ some k := by
 intro k h c
 have hk := lA k h
 rcases a2 with e | e
 · rw [e] at c; have hb := lB k c
   rcases a1 with f | f
   · rw [f] at h; exact hne k h c
   · rw [f] at h
     injection h with h
     omega
 · rw [e] at c
   injection c with c
   omega
theorem own_ne {A B : Option Addr} (hne : ∀ k, ownA A = some k → ownA B ≠ some k) : ownA B = none ∨ ownA B ≠ ownA A := by
 rcases h : ownA B with _ | k
 · exact .inl rfl
 · exact .inr (fun c => hne k c.symm h)
theorem own_ne' {A B : Option Addr} (hne : ∀ k, ownA A = some k → ownA B ≠ some k) : ownA A = none ∨ ownA A ≠ ownA B := by
 rcases h : ownA A with _ | k
 · exact .inl rfl
 · exact .inr (fun c => hne k h c.symm)
def EInv (w : World) (A B : Option Addr) (m c d : Nat) (la lb : List Int) (wr : World) : Prop :=
 Na wr w.heap.size A m c la ∧ Na wr w.heap.size B m d lb ∧ (∀ k, ownA A = some k → ownA B ≠ some k) ∧ Below w.heap.size w wr
theorem kvEnds {w : World} {A : Option Addr} {n c m : Nat} {l : List Sp} (h : Il8 w A n c l) (hm : (lowL l).length = m) : Calls Tryz.prog 66 #[.slice A n c] w (fun e w' => ∃ A1 c1 B1 d1, e = .returned (.tuple #[.slice A1 m c1, .slice B1 m d1]) ∧ Nl w' A1 m c1 (lowL l) ∧ Nl w' B1 m d1 (highL l) ∧ Below w.heap.size w w') := by
 have HM := Lib.hid hm; have HLn := Lib.hid h.1; have hcap := h.2.1; have hbig := h.2.2.1; have hD0 := h; clear hm h
 go_enter Tryz.func66, Tryz.ntmps66
 go_wp2
 go_loopw [2, 3, 8] (fun va vb i wr => ∃ k A1 B1 m1 c1 d1, k ≤ n ∧ m1 ≤ k ∧ va = .slice A1 m1 c1 ∧ vb = .slice B1 m1 d1 ∧ i = .int .i64 ((k : Nat) : Int) ∧ EInv w A1 B1 m1 c1 d1 (lowL (l.take k)) (highL (l.take k)) wr) (fun _ _ i _ => n - (intOf i).toNat)
 case atStart => exact ⟨0, _, _, _, _, _, Nat.zero_le _, Nat.zero_le _, rfl, rfl, rfl, Na.nil _ _, Na.nil _ _, (fun k h => by cases h), Below.refl _ _⟩
 case round =>
   obtain ⟨k, A1, B1, m1, c1, d1, hk, hmk, rfl, rfl, rfl, N1, N2, hne, hB⟩ := hrel; have HB := Lib.hid hB; clear hB
   by_cases hlt : k < n
   · have tlt : decide ((k : Int) < (n : Int)) = true := by simp; omega
     have h := hD0.below HB.out; obtain ⟨b, o, rfl, hcell⟩ := h.2.2.2 (by omega); obtain ⟨e, D, s, M, E, D', s', M', E', x0, x1, x2, x3, x4, x5, x6, x7, x8, hM, hM', hx⟩ := hcell k hlt; clear hcell h hD0
     have i1 : (k : Int) < n := by omega
     have i2 : (0 : Int) ≤ k := by omega
     have hsl := lowL_take (l := l) (k := k) (by rw [HLn.out]; exact hlt); have hsh := highL_take (l := l) (k := k) (by rw [HLn.out]; exact hlt); rw [← hx] at hsl hsh; generalize lowL (l.take k) = la at *; generalize highL (l.take k) = lb at *; obtain ⟨x, hX⟩ : ∃ x, rkI e D s M E D' s' M' E' = x := ⟨_, rfl⟩; rw [hX] at hsl hsh; have HX := Lib.hid hX; have HSL := Lib.hid hsl; have HSH := Lib.hid hsh
     have HNE := Lib.hid hne; clear hsl hsh hX hx hne; have hsz := HB.out.size
     go_upto_region 4 with (fail)
     clear x0 x1 x2 x3 x4 x5 x6 x7 x8; have lX5 := Nat.le_refl (World.heap wr).size; generalize hWn : wr.alloc _ = w3 at *; obtain ⟨X5, BW⟩ := Bo.nw hWn; clear hWn; replace N1 := N1.below BW; replace N2 := N2.below BW; replace HB := Hqb HB BW; clear BW; clear lX5; have xX5 := X5.cell
     go_wp2_with fail
     refine (kvOrE hM hM' HX.out).mono ?_; rintro ee w4 ⟨e1, K1, s1, M1, E1, K1b, s1b, M1b, E1b, rfl, v1, B⟩; clear xX5; replace X5 := X5.below B; replace N1 := N1.below B; replace N2 := N2.below B; replace HB := Hqb HB B; clear B; clear HX hM hM'; have xX5 := X5.cell; have zX50 := X5.frozen
     go_upto_region 5 with (fail)
     clear xX5 zX50; generalize hS : ((((((((w4.setCell _ _).setCell _ _).setCell _ _).setCell _ _).setCell _ _).setCell _ _).setCell _ _).setCell _ _).setCell _ _ = w5 at *; have SX := StN.of9 X5 hS; replace N1 := N1.stn SX (by decide); replace N2 := N2.stn SX (by decide); replace HB := Lib.hid (SX.below HB.out hsz); replace X5 := SX.box; clear SX hS
     rcases x with _ | ⟨xa, xb⟩
     · obtain ⟨rfl, y1, y1b⟩ := v1; have hsl2 := HSL.out; have hsh2 := HSH.out
       have hl0 : la ++ lo1 none = la := List.append_nil la
       have hh0 : lb ++ hi1 none = lb := List.append_nil lb
       rw [hl0] at hsl2; rw [hh0] at hsh2; clear HSL HSH hl0 hh0
       obtain ⟨_, rfl, rfl, rfl, rfl, rfl, rfl, rfl, rfl⟩ := (show Ci true K1 s1 M1 E1 K1b s1b M1b E1b none from ⟨rfl, y1, y1b⟩).uniq Ci.none
       clear y1 y1b; refine Jo.rk [0, 1, 2] [some 14, some 15, some 16] [[], [], [0, 1]] 3 0 [Jo.q9 true 0 false 0 0 0 false 0 0, Jo.q9 true 0 false 0 0 0 false 0 0, Jo.qb false] (by kernel_rfl) (by kernel_rfl) (by decide) rfl ?_ ?_
       · refine Jo.jm rfl ?_ ?_
         · rintro wj hJ K hK; simp only [Jo.z] at hK ⊢; have xX5 := (X5.below hJ).cell; go_simp; exact hK.out _ _ rfl (br _ _)
         refine Jo.jm rfl ?_ ?_
         · rintro wj hJ K hK; simp only [Jo.z] at hK ⊢; go_simp; refine (kvNoneE).mono ?_; rintro ee wk ⟨rfl, B⟩; exact hK.out _ _ rfl B
         refine Jo.jm rfl ?_ ?_
         · rintro wj hJ _ rfl _ rfl K hK; simp only [Jo.z] at hK ⊢; go_simp
           repeat' split
           all_goals exact hK.out _ _ (congrArg Value.bool (by first | rfl | (exfalso; simp_all) | simp_all)) (br _ _)
         exact Jo.Steps.nil
       rintro w6 hJ _ rfl _ rfl _ rfl -; simp only [Jo.z]; replace X5 := X5.below hJ; replace N1 := N1.below hJ; replace N2 := N2.below hJ; replace HB := Hqb HB hJ; refine Jo.jdone (by kernel_rfl) ?_; go_wp2
       go_roundw
       case rel => exact ⟨k + 1, _, _, _, _, _, by omega, by omega, rfl, rfl, by go_num, by rw [hsl2]; exact N1, by rw [hsh2]; exact N2, HNE.out, HB.out⟩
       case measure => simp [intOf]; omega
     · obtain ⟨rfl, a1, b1, o1, o1l, o1h⟩ := v1
       have hsl2 : _ = la ++ [xa] := HSL.out
       have hsh2 : _ = lb ++ [xb] := HSH.out
       clear HSL HSH o1 o1l o1h; refine Jo.rk [0, 1, 2] [some 14, some 15, some 16] [[], [], [0, 1]] 3 0 [Jo.q9 false K1 s1 M1 E1 K1b s1b M1b E1b, Jo.q9 true 0 false 0 0 0 false 0 0, Jo.qb true] (by kernel_rfl) (by kernel_rfl) (by decide) rfl ?_ ?_
       · refine Jo.jm rfl ?_ ?_
         · rintro wj hJ K hK; simp only [Jo.z] at hK ⊢; have xX5 := (X5.below hJ).cell; go_simp; exact hK.out _ _ rfl (br _ _)
         refine Jo.jm rfl ?_ ?_
         · rintro wj hJ K hK; simp only [Jo.z] at hK ⊢; go_simp; refine (kvNoneE).mono ?_; rintro ee wk ⟨rfl, B⟩; exact hK.out _ _ rfl B
         refine Jo.jm rfl ?_ ?_
         · rintro wj hJ _ rfl _ rfl K hK; simp only [Jo.z] at hK ⊢; go_simp
           repeat' split
           all_goals exact hK.out _ _ (congrArg Value.bool (by first | rfl | (exfalso; simp_all) | simp_all)) (br _ _)
         exact Jo.Steps.nil
       rintro w6 hJ _ rfl _ rfl _ rfl -; simp only [Jo.z]; replace X5 := X5.below hJ; replace N1 := N1.below hJ; replace N2 := N2.below hJ; replace HB := Hqb HB hJ; refine Jo.jdone (by kernel_rfl) ?_; have xX5 := X5.cell
       go_wp2_with (at_builtin; refine wpList_na rfl _ _ rfl rfl rfl (N1.below (bel1 _ _)) a1 (Bo.new _ _ _) (by omega) (Nat.le_trans HB.out.size (bel1 _ _).size) ?_)
       intro A2 d2 w7 N1' G1 at1
       clear xX5; have hB2 := bt HB.out (bel1 _ (.cells #[.int .i64 K1, .bool s1, .int .u64 M1, .int .i64 E1] 24)); have N1b := N1.below (bel1 _ (.cells #[.int .i64 K1, .bool s1, .int .u64 M1, .int .i64 E1] 24)); have N2b := N2.below (bel1 _ (.cells #[.int .i64 K1, .bool s1, .int .u64 M1, .int .i64 E1] 24)); replace X5 := (X5.below (bel1 _ (.cells #[.int .i64 K1, .bool s1, .int .u64 M1, .int .i64 E1] 24))).grownN N1b (by decide) G1
       replace HB := Lib.hid (hB2.grown G1 hB2.size (fun k hk => (N1b.own_lt k hk).1))
       have l1 : ∀ k, ownA B1 = some k → k < w6.heap.size + 1 := fun k hk => by
         have := (N2b.own_lt k hk).2
         simpa using this
       replace N2 := N2b.kept G1 (own_ne HNE.out); clear N1 N1b N2b G1 hB2; have xX5 := X5.cell
       go_wp2_with (at_builtin; refine wpList_na rfl _ _ rfl rfl rfl (N2.below (bel1 _ _)) b1 (Bo.new _ _ _) (by omega) (Nat.le_trans HB.out.size (bel1 _ _).size) ?_)
       intro B2 d3 w8 N2' G2 at2
       clear xX5; have hB2 := bt HB.out (bel1 _ (.cells #[.int .i64 K1b, .bool s1b, .int .u64 M1b, .int .i64 E1b] 24)); have N2b := N2.below (bel1 _ (.cells #[.int .i64 K1b, .bool s1b, .int .u64 M1b, .int .i64 E1b] 24)); have N1b := N1'.below (bel1 _ (.cells #[.int .i64 K1b, .bool s1b, .int .u64 M1b, .int .i64 E1b] 24))
       have lA : ∀ k, ownA A2 = some k → k < w7.heap.size + 1 := fun k hk => by
         have := (N1b.own_lt k hk).2
         simpa using this
       have hne2 : ∀ k, ownA A2 = some k → ownA B2 ≠ some k := ne_row HNE.out at1 at2 l1 lA
       have hne1 : ∀ k, ownA A2 = some k → ownA B1 ≠ some k := ne_row HNE.out at1 (.inl rfl) l1 lA
       replace HB := Lib.hid (hB2.grown G2 hB2.size (fun k hk => (N2b.own_lt k hk).1))
       replace N1' := N1b.kept G2 (own_ne' hne1)
       clear N1b N2b G2 hB2 hne1 X5 N2 l1 lA at1 at2; go_wp2
       go_roundw
       case rel => exact ⟨k + 1, _, _, _, _, _, by omega, by omega, rfl, rfl, by go_num, by rw [hsl2]; exact N1', by rw [hsh2]; exact N2', hne2, HB.out⟩
       case measure => simp [intOf]; omega
   · obtain rfl : k = n := by omega
     have tlt : decide ((k : Int) < (k : Int)) = false := by simp
     have e1 : l.take k = l := List.take_of_length_le (by rw [HLn.out]; omega)
     rw [e1] at N1 N2
     obtain rfl : m1 = m := by rw [← HM.out]; exact N1.len.symm
     have M1 := N1.nl (by omega); have M2 := N2.nl (by omega); clear N1 N2; go_wp2
     go_ret2
     exact ⟨_, _, _, _, rfl, M1, M2, HB.out⟩
theorem kvMeet {w : World} {A : Option Addr} {n c : Nat} {l : List Sp} {z : Sp} (h : Il8 w A n c l) (hr : meetL l = z) : Calls Tryz.prog 37 #[.slice A n c] w (PV w z) := by
 obtain ⟨m, hm⟩ : ∃ m, (lowL l).length = m := ⟨_, rfl⟩; have hln := h.1; have hle := len_lo l; have hok := h.ok; have HM := Lib.hid hm
 go_enter Tryz.func37, Tryz.ntmps37
 go_upto_region 1 with (fail)
 generalize hW1 : w.alloc _ = w1 at *; obtain ⟨XR, HB⟩ := Bo.en1 hW1; replace h := h.below HB.out; clear hW1
 go_wp2_with fail
 refine (kvEnds h HM.out).mono ?_; rintro ee w2 ⟨A1, c1, B1, d1, rfl, N1, N2, B⟩; replace XR := XR.below B; replace h := h.below B; replace HB := Hqb HB B; clear B; clear h
 by_cases hl : m < n
 · rw [meet_no (by omega)] at hr
   obtain rfl : none = z := hr
   have tl : decide ((m : Int) < (n : Int)) = true := by simp; omega
   clear hm hle hln hok
   go_wp2_with fail
   refine (kvNoneE).mono ?_; rintro ee w3 ⟨rfl, B⟩; replace XR := XR.below B; replace N1 := N1.below B; replace N2 := N2.below B; replace HB := Hqb HB B; clear B; clear N1 N2; have xXR := XR.cell; have zXR0 := XR.frozen; go_wp2; clear xXR zXR0; have SX := StN.mk9 XR (.bool true) (.int .i64 0) (.bool false) (.int .u64 0) (.int .i64 0) (.int .i64 0) (.bool false) (.int .u64 0) (.int .i64 0)
   exact bodyPost_ret (by simp [results, Tryz.results37, go_sem, SX.box.cell]) rfl ⟨_, _, _, _, _, _, _, _, _, rfl, Ci.none, (SX.below HB.out (by omega))⟩
 · have hr2 := (meet_some (by omega)).symm.trans hr
   have tl : decide ((m : Int) < (n : Int)) = false := by simp; omega
   clear hr; obtain ⟨u, hu⟩ : ∃ u, mxp (lowL l) = u := ⟨_, rfl⟩; obtain ⟨v, hv⟩ : ∃ v, mnp (highL l) = v := ⟨_, rfl⟩; rw [hu, hv] at hr2; have HU := Lib.hid hu; have HVV := Lib.hid hv; have HR := Lib.hid hr2; clear hu hv hr2 hm hle hln hok
   go_wp2_with fail
   refine (nMost N1 HU.out).mono ?_; rintro ee w3 ⟨K1, s1, M1, E1, rfl, q1, B⟩; replace XR := XR.below B; replace N1 := N1.below B; replace N2 := N2.below B; replace HB := Hqb HB B; clear B
   go_wp2_with fail
   refine (nLeast N2 HVV.out).mono ?_; rintro ee w4 ⟨K2, s2, M2, E2, rfl, q2, B⟩; replace XR := XR.below B; replace N1 := N1.below B; replace N2 := N2.below B; replace HB := Hqb HB B; clear B
   go_wp2_with fail
   refine (kvMake q1.top q2.top q1.rk q2.rk HR.out).mono ?_; rintro ee w5 ⟨e3, K3, s3, M3, E3, K3b, s3b, M3b, E3b, rfl, v3, B⟩; replace XR := XR.below B; replace N1 := N1.below B; replace N2 := N2.below B; replace HB := Hqb HB B; clear B; clear N1 N2; have xXR := XR.cell; have zXR0 := XR.frozen; go_wp2; clear xXR zXR0
   have SX := StN.mk9 XR (.bool e3) (.int .i64 K3) (.bool s3) (.int .u64 M3) (.int .i64 E3) (.int .i64 K3b) (.bool s3b) (.int .u64 M3b) (.int .i64 E3b); exact bodyPost_ret (by simp [results, Tryz.results37, go_sem, SX.box.cell]) rfl ⟨_, _, _, _, _, _, _, _, _, rfl, v3, (SX.below HB.out (by omega))⟩
theorem kvHull {w : World} {A : Option Addr} {n c : Nat} {l : List Sp} {z : Sp} (h : Il8 w A n c l) (hr : hullL l = z) : Calls Tryz.prog 49 #[.slice A n c] w (PV w z) := by
 obtain ⟨m, hm⟩ : ∃ m, (lowL l).length = m := ⟨_, rfl⟩; have hln := h.1; have hle := len_lo l; have hok := h.ok; have HM := Lib.hid hm
 go_enter Tryz.func49, Tryz.ntmps49
 go_upto_region 1 with (fail)
 generalize hW1 : w.alloc _ = w1 at *; obtain ⟨XR, HB⟩ := Bo.en1 hW1; replace h := h.below HB.out; clear hW1
 go_wp2_with fail
 refine (kvEnds h HM.out).mono ?_; rintro ee w2 ⟨A1, c1, B1, d1, rfl, N1, N2, B⟩; replace XR := XR.below B; replace h := h.below B; replace HB := Hqb HB B; clear B; clear h; have hr2 := (hull_ends hok).symm.trans hr; clear hr; obtain ⟨u, hu⟩ : ∃ u, mnp (lowL l) = u := ⟨_, rfl⟩; obtain ⟨v, hv⟩ : ∃ v, mxp (highL l) = v := ⟨_, rfl⟩; rw [hu, hv] at hr2; have HU := Lib.hid hu; have HVV := Lib.hid hv
 have HR := Lib.hid hr2; clear hu hv hr2 hm hle hln hok
 go_wp2_with fail
 refine (nLeast N1 HU.out).mono ?_; rintro ee w3 ⟨K1, s1, M1, E1, rfl, q1, B⟩; replace XR := XR.below B; replace N1 := N1.below B; replace N2 := N2.below B; replace HB := Hqb HB B; clear B
 go_wp2_with fail
 refine (nMost N2 HVV.out).mono ?_; rintro ee w4 ⟨K2, s2, M2, E2, rfl, q2, B⟩; replace XR := XR.below B; replace N1 := N1.below B; replace N2 := N2.below B; replace HB := Hqb HB B; clear B
 go_wp2_with fail
 refine (kvMake q1.top q2.top q1.rk q2.rk HR.out).mono ?_; rintro ee w5 ⟨e3, K3, s3, M3, E3, K3b, s3b, M3b, E3b, rfl, v3, B⟩; replace XR := XR.below B; replace N1 := N1.below B; replace N2 := N2.below B; replace HB := Hqb HB B; clear B; clear N1 N2; have xXR := XR.cell; have zXR0 := XR.frozen; go_wp2; clear xXR zXR0
 have SX := StN.mk9 XR (.bool e3) (.int .i64 K3) (.bool s3) (.int .u64 M3) (.int .i64 E3) (.int .i64 K3b) (.bool s3b) (.int .u64 M3b) (.int .i64 E3b); exact bodyPost_ret (by simp [results, Tryz.results49, go_sem, SX.box.cell]) rfl ⟨_, _, _, _, _, _, _, _, _, rfl, v3, (SX.below HB.out (by omega))⟩
def Rw (e : Bool) (K : Int) (s : Bool) (M E K' : Int) (s' : Bool) (M' E' : Int) (x : Sp) : Prop := M < 18446744073709551616 ∧ M' < 18446744073709551616 ∧ rkI e K s M E K' s' M' E' = x
theorem Ci.rw {e : Bool} {K M E K' M' E' : Int} {s s' : Bool} {x : Sp} (h : Ci e K s M E K' s' M' E' x) : Rw e K s M E K' s' M' E' x := ⟨h.top.1, h.top.2, h.rk⟩
def Jo.Fact.il8 (n : Nat) (l : List Sp) : Jo.Fact := ⟨fun v w => ∃ A c, v = .slice A n c ∧ Il8 w A n c l, fun v w w' h b => by
 obtain ⟨A, c, e, h⟩ := h; exact ⟨A, c, e, h.below b⟩⟩
theorem Il8.lit1 {W : World} {h : Nat} {K1 M1 E1 G1 P1 Q1 : Int} {e1 s1 g1 : Bool} {x1 : Sp} (hg : W.heap.size = h) (v1 : Rw e1 K1 s1 M1 E1 G1 g1 P1 Q1 x1) :
   Il8 (W.alloc (.cells #[.bool e1, .int .i64 K1, .bool s1, .int .u64 M1, .int .i64 E1, .int .i64 G1, .bool g1, .int .u64 P1, .int .i64 Q1] 26)) (some ⟨h, 0, none⟩) 1 1 [x1] := by
 subst hg; have hh := heap_alloc_new W (.cells #[.bool e1, .int .i64 K1, .bool s1, .int .u64 M1, .int .i64 E1, .int .i64 G1, .bool g1, .int .u64 P1, .int .i64 Q1] 26)
 refine ⟨rfl, Nat.le_refl _, by decide, fun _ => ⟨_, 0, rfl, fun k hk => ?_⟩⟩
 obtain rfl : k = 0 := by omega
 exact ⟨e1, K1, s1, M1, E1, G1, g1, P1, Q1, by rw [cell_of_row _ _ _ _ _ _ hh]; rfl, by rw [cell_of_row _ _ _ _ _ _ hh]; rfl, by rw [cell_of_row _ _ _ _ _ _ hh]; rfl, by rw [cell_of_row _ _ _ _ _ _ hh]; rfl, by rw [cell_of_row _ _ _ _ _ _ hh]; rfl, by rw [cell_of_row _ _ _ _ _ _ hh]; rfl, by rw [cell_of_row _ _ _ _ _ _ hh]; rfl, by rw [cell_of_row _ _ _ _ _ _ hh]; rfl, by rw [cell_of_row _ _ _ _ _ _ hh]; rfl, v1.1, v1.2.1, v1.2.2⟩
theorem Il8.lit2 {W : World} {h : Nat} {K1 M1 E1 G1 P1 Q1 K2 M2 E2 G2 P2 Q2 : Int} {e1 s1 g1 e2 s2 g2 : Bool} {x1 x2 : Sp} (hg : W.heap.size = h) (v1 : Rw e1 K1 s1 M1 E1 G1 g1 P1 Q1 x1) (v2 : Rw e2 K2 s2 M2 E2 G2 g2 P2 Q2 x2) :
   Il8 (W.alloc (.cells #[.bool e1, .int .i64 K1, .bool s1, .int .u64 M1, .int .i64 E1, .int .i64 G1, .bool g1, .int .u64 P1, .int .i64 Q1, .bool e2, .int .i64 K2, .bool s2, .int .u64 M2, .int .i64 E2, .int .i64 G2, .bool g2, .int .u64 P2, .int .i64 Q2] 26)) (some ⟨h, 0, none⟩) 2 2 [x1, x2] := by
 subst hg; have hh := heap_alloc_new W (.cells #[.bool e1, .int .i64 K1, .bool s1, .int .u64 M1, .int .i64 E1, .int .i64 G1, .bool g1, .int .u64 P1, .int .i64 Q1, .bool e2, .int .i64 K2, .bool s2, .int .u64 M2, .int .i64 E2, .int .i64 G2, .bool g2, .int .u64 P2, .int .i64 Q2] 26)
 refine ⟨rfl, Nat.le_refl _, by decide, fun _ => ⟨_, 0, rfl, fun k hk => ?_⟩⟩
 rcases (by omega : k = 0 ∨ k = 1) with rfl | rfl
 · exact ⟨e1, K1, s1, M1, E1, G1, g1, P1, Q1, by rw [cell_of_row _ _ _ _ _ _ hh]; rfl, by rw [cell_of_row _ _ _ _ _ _ hh]; rfl, by rw [cell_of_row _ _ _ _ _ _ hh]; rfl, by rw [cell_of_row _ _ _ _ _ _ hh]; rfl, by rw [cell_of_row _ _ _ _ _ _ hh]; rfl, by rw [cell_of_row _ _ _ _ _ _ hh]; rfl, by rw [cell_of_row _ _ _ _ _ _ hh]; rfl, by rw [cell_of_row _ _ _ _ _ _ hh]; rfl, by rw [cell_of_row _ _ _ _ _ _ hh]; rfl, v1.1, v1.2.1, v1.2.2⟩
 · exact ⟨e2, K2, s2, M2, E2, G2, g2, P2, Q2, by rw [cell_of_row _ _ _ _ _ _ hh]; rfl, by rw [cell_of_row _ _ _ _ _ _ hh]; rfl, by rw [cell_of_row _ _ _ _ _ _ hh]; rfl, by rw [cell_of_row _ _ _ _ _ _ hh]; rfl, by rw [cell_of_row _ _ _ _ _ _ hh]; rfl, by rw [cell_of_row _ _ _ _ _ _ hh]; rfl, by rw [cell_of_row _ _ _ _ _ _ hh]; rfl, by rw [cell_of_row _ _ _ _ _ _ hh]; rfl, by rw [cell_of_row _ _ _ _ _ _ hh]; rfl, v2.1, v2.2.1, v2.2.2⟩
theorem kvOf {w : World} {a b oa ob : Int} {x : Sp} (a1 : -9223372036854775808 ≤ a) (a2 : a ≤ 9223372036854775807) (b1 : -9223372036854775808 ≤ b) (b2 : b ≤ 9223372036854775807) (ha : sgi (decide (a < 0)) (lo a.natAbs 0) = oa) (hb : sgi (decide (b < 0)) (lo b.natAbs 0) = ob) (hx : mkI oa ob = x) : Calls Tryz.prog 35 #[.int .i64 a, .int .i64 b] w (PV w x) := by
 have HA := Lib.hid ha; have HBB := Lib.hid hb; have HX := Lib.hid hx; clear ha hb hx
 go_enter Tryz.func35, Tryz.ntmps35
 go_upto_region 1 with (fail)
 generalize hW1 : w.alloc _ = w1 at *; obtain ⟨XR, HB⟩ := Bo.en1 hW1; clear hW1
 go_wp2_with fail
 refine (nOf _ a1 a2 HA.out).mono ?_; rintro ee w2 ⟨K1, s1, M1, E1, rfl, q1, B⟩; replace XR := XR.below B; replace HB := Hqb HB B; clear B
 go_wp2_with fail
 refine (nOf _ b1 b2 HBB.out).mono ?_; rintro ee w3 ⟨K2, s2, M2, E2, rfl, q2, B⟩; replace XR := XR.below B; replace HB := Hqb HB B; clear B
 go_wp2_with fail
 refine (kvMake q1.top q2.top q1.rk q2.rk HX.out).mono ?_; rintro ee w4 ⟨e3, K3, s3, M3, E3, K3b, s3b, M3b, E3b, rfl, v3, B⟩; replace XR := XR.below B; replace HB := Hqb HB B; clear B; have xXR := XR.cell; have zXR0 := XR.frozen; go_wp2; clear xXR zXR0; have SX := StN.mk9 XR (.bool e3) (.int .i64 K3) (.bool s3) (.int .u64 M3) (.int .i64 E3) (.int .i64 K3b) (.bool s3b) (.int .u64 M3b) (.int .i64 E3b)
 exact bodyPost_ret (by simp [results, Tryz.results35, go_sem, SX.box.cell]) rfl ⟨_, _, _, _, _, _, _, _, _, rfl, v3, (SX.below HB.out (by omega))⟩
theorem ci_some {e : Bool} {D M E D' M' E' : Int} {s s' : Bool} {a b : Int} (hM : LQ M) (hM' : LQ M') (h : rkI e D s M E D' s' M' E' = some (a, b)) : Ci e D s M E D' s' M' E' (some (a, b)) := by
 rw [← h]; refine mayI_ci hM hM' ?_
 cases hm : mayI e D s M E D' s' M' E'
 · rw [mayI_no hm] at h
   cases h
 · rfl
theorem fkEmpty {w : World} {A : Option Addr} {n c : Nat} {l : List Sp} {r : Bool} (h : Il8 w A n c l) (hr : gone l = r) : Calls Tryz.prog 60 #[.slice A n c] w (PB w r) := by
 have HR := Lib.hid hr; have HLn := Lib.hid h.1; have hcap := h.2.1; have hbig := h.2.2.1; have hD0 := h; clear hr h
 go_enter Tryz.func60, Tryz.ntmps60
 go_wp2
 go_loopw [7] (fun i wr => ∃ k : Nat, k ≤ n ∧ i = .int .i64 k ∧ (∀ j, j < k → l.getD j none ≠ none) ∧ Below w.heap.size w wr) (fun i _ => n - (intOf i).toNat)
 case atStart => exact ⟨0, Nat.zero_le _, rfl, fun j h => absurd h (Nat.not_lt_zero _), Below.refl _ _⟩
 case round =>
   obtain ⟨k, hk, rfl, hU, hB⟩ := hrel; have HU := Lib.hid hU; have HB := Lib.hid hB; clear hU hB
   by_cases hlt : k < n
   · have tlt : decide ((k : Int) < (n : Int)) = true := by simp; omega
     have h := hD0.below HB.out; obtain ⟨b, o, rfl, hcell⟩ := h.2.2.2 (by omega); obtain ⟨e, D, s, M, E, D', s', M', E', x0, x1, x2, x3, x4, x5, x6, x7, x8, hM, hM', hx⟩ := hcell k hlt; clear hcell h hD0
     have i1 : (k : Int) < n := by omega
     have i2 : (0 : Int) ≤ k := by omega
     have hyes : l.getD k none = none → r = true := fun e => HR.out.symm.trans (gone_at (by rw [HLn.out]; exact hlt) e)
     have hnx : l.getD k none ≠ none → ∀ j, j < k + 1 → l.getD j none ≠ none := fun e j hj => by
       by_cases c : j = k
       · rw [c]; exact e
       · exact HU.out j (by omega)
     rw [← hx] at hyes hnx; clear hx HR HU
     cases e
     · go_upto_region 4 with (fail)
       clear x0 x1 x2 x3 x4 x5 x6 x7 x8; have lX4 := Nat.le_refl (World.heap wr).size; generalize hWn : wr.alloc _ = w3 at *; obtain ⟨X4, BW⟩ := Bo.nw hWn; clear hWn; replace HB := Hqb HB BW; clear BW; clear lX4; have hm0 := mayI_no (e := false) (K := D) (s := s) (M := M) (E := E) (K' := D') (s' := s') (M' := M') (E' := E')
       cases hm : mayI false D s M E D' s' M' E'
       · obtain rfl := hyes (hm0 hm)
         have HMY := Lib.hid hm; clear hyes hnx hm hm0; have xX4 := X4.cell
         go_wp2_with fail
         refine (kvMay hM hM' HMY.out).mono ?_; rintro ee w4 ⟨rfl, B⟩; clear xX4; replace X4 := X4.below B; replace HB := Hqb HB B; clear B; clear HMY; go_wp2
         go_ret
         exact ⟨rfl, HB.out⟩
       · have HN : Hid (∀ j, j < k + 1 → l.getD j none ≠ none) := Lib.hid (hnx (of_decide_eq_true hm))
         have HMY := Lib.hid hm; clear hyes hnx hm hm0; have xX4 := X4.cell
         go_wp2_with fail
         refine (kvMay hM hM' HMY.out).mono ?_; rintro ee w4 ⟨rfl, B⟩; clear xX4; replace X4 := X4.below B; replace HB := Hqb HB B; clear B; clear HMY; go_wp2
         go_roundw
         case rel => exact ⟨k + 1, by omega, by go_num, HN.out, HB.out⟩
         case measure => simp [intOf]; omega
     · go_upto_region 4 with (fail)
       clear x0 x1 x2 x3 x4 x5 x6 x7 x8; have lX4 := Nat.le_refl (World.heap wr).size; generalize hWn : wr.alloc _ = w3 at *; obtain ⟨X4, BW⟩ := Bo.nw hWn; clear hWn; replace HB := Hqb HB BW; clear BW; clear lX4
       obtain rfl := hyes rkI_t
       clear hyes hnx; have xX4 := X4.cell; go_wp2
       go_ret
       exact ⟨rfl, HB.out⟩
   · obtain rfl : k = n := by omega
     have tlt : decide ((k : Int) < (k : Int)) = false := by simp
     obtain rfl : false = r := (gone_no (fun j hj => HU.out j (by rw [HLn.out] at hj; exact hj))).symm.trans HR.out
     clear HU HR; go_wp2
     go_ret
     exact ⟨rfl, HB.out⟩
theorem fkNeg {w : World} {e : Bool} {D M E D' M' E' : Int} {s s' : Bool} {x z : Sp} (hM : LQ M) (hM' : LQ M') (hx : rkI e D s M E D' s' M' E' = x) (hr : negI x = z) : Calls Tryz.prog 50 #[VI e D s M E D' s' M' E'] w (PV w z) := by
 delta VI
 obtain ⟨p, hp⟩ : ∃ p, gone [x] = p := ⟨_, rfl⟩; have HP := Lib.hid hp; have HX := Lib.hid hx; clear hx hp
 go_enter Tryz.func50, Tryz.ntmps50
 go_upto_region 1 with (fail)
 generalize hW1 : (w.alloc _).alloc _ = w1 at *; obtain ⟨X1, XR, HB⟩ := Bo.en2 hW1; clear hW1; have xX1 := X1.cell
 go_wp2_with fail
 refine (fkEmpty (Il8.lit1 rfl ⟨hM, hM', HX.out⟩) HP.out).mono ?_; rintro ee w2 ⟨rfl, B⟩; replace B := bt (bel1 _ (.cells #[.bool e, .int .i64 D, .bool s, .int .u64 M, .int .i64 E, .int .i64 D', .bool s', .int .u64 M', .int .i64 E'] 26)) B; clear xX1; replace X1 := X1.below B; replace XR := XR.below B; replace HB := Hqb HB B; clear B
 rcases x with _ | ⟨xa, xb⟩
 · obtain rfl : true = p := HP.out
   obtain rfl : none = z := hr
   clear HP
   go_wp2_with fail
   refine (kvNoneE).mono ?_; rintro ee w3 ⟨rfl, B⟩; replace X1 := X1.below B; replace XR := XR.below B; replace HB := Hqb HB B; clear B; have xXR := XR.cell; have zXR0 := XR.frozen; go_wp2; clear xXR zXR0; have SX := StN.mk9 XR (.bool true) (.int .i64 0) (.bool false) (.int .u64 0) (.int .i64 0) (.int .i64 0) (.bool false) (.int .u64 0) (.int .i64 0)
   exact bodyPost_ret (by simp [results, Tryz.results50, go_sem, SX.box.cell]) rfl ⟨_, _, _, _, _, _, _, _, _, rfl, Ci.none, (SX.below HB.out (by omega))⟩
 · obtain ⟨rfl, a1, b1, o1, o1l, o1h⟩ := ci_some hM hM' HX.out
   obtain rfl : false = p := HP.out
   obtain ⟨u, hu⟩ : ∃ u, -xb = u := ⟨_, rfl⟩; obtain ⟨l, hl⟩ : ∃ l, -xa = l := ⟨_, rfl⟩
   have hr2 : mkI u l = z := by rw [← hu, ← hl]; exact hr
   have HU : Hid (-rk D' s' M' E' = u) := Lib.hid (by rw [b1.rk]; exact hu)
   have HL : Hid (-rk D s M E = l) := Lib.hid (by rw [a1.rk]; exact hl)
   have HR := Lib.hid hr2; clear hu hl hr hr2 o1 o1l o1h HX HP; have xX1 := X1.cell
   go_upto_region 3 with (fail)
   clear xX1; refine Jo.rk [0, 1, 2, 3, 4, 5, 6] [some 7, some 8, some 9, some 10, some 11, some 12, some 13, none] [[], [0], [1], [], [3], [4], [2, 5], []] 8 1 [Jo.qp w.heap.size 5, Jo.q4 D' s' M' E', Jo.Fact.num u, Jo.qp w.heap.size 1, Jo.q4 D s M E, Jo.Fact.num l, Jo.Fact.iv z, Jo.Fact.any] (by kernel_rfl) (by kernel_rfl) (by decide) rfl ?_ ?_
   · iterate 2 (refine Jo.jm rfl ?_ ?_; rotate_left)
     refine Jo.jm rfl ?_ ?_
     · rintro wj hJ _ rfl K hK; simp only [Jo.z] at hK ⊢; go_simp; refine (nNeg b1.top HU.out).mono ?_; rintro ee wk ⟨K2, s2, M2, E2, rfl, q2, B⟩; exact hK.out _ _ ⟨K2, s2, M2, E2, rfl, q2⟩ B
     iterate 2 (refine Jo.jm rfl ?_ ?_; rotate_left)
     refine Jo.jm rfl ?_ ?_
     · rintro wj hJ _ rfl K hK; simp only [Jo.z] at hK ⊢; go_simp; refine (nNeg a1.top HL.out).mono ?_; rintro ee wk ⟨K3, s3, M3, E3, rfl, q3, B⟩; exact hK.out _ _ ⟨K3, s3, M3, E3, rfl, q3⟩ B
     refine Jo.jm rfl ?_ ?_
     · rintro wj hJ _ ⟨K2, s2, M2, E2, rfl, q2⟩ _ ⟨K3, s3, M3, E3, rfl, q3⟩ K hK; simp only [Jo.z] at hK ⊢; go_simp; refine (kvMake q2.top q3.top q2.rk q3.rk HR.out).mono ?_; rintro ee wk ⟨e4, K4, s4, M4, E4, K4b, s4b, M4b, E4b, rfl, v4, B⟩; exact hK.out _ _ ⟨e4, K4, s4, M4, E4, K4b, s4b, M4b, E4b, rfl, v4⟩ B
     exact Jo.Steps.nil
     all_goals (rintro wj hJ; (repeat rintro _ rfl); intro K hK; simp only [Jo.z] at hK ⊢; have xX1 := (X1.below hJ).cell; go_simp; exact hK.out _ _ rfl (br _ _))
   rintro w8 hJ _ _ _ rfl _ ⟨K2, s2, M2, E2, rfl, q2⟩ _ _ _ rfl _ ⟨K3, s3, M3, E3, rfl, q3⟩ _ ⟨e4, K4, s4, M4, E4, K4b, s4b, M4b, E4b, rfl, v4⟩ -; simp only [Jo.z]; replace X1 := X1.below hJ; replace XR := XR.below hJ; replace HB := Hqb HB hJ; have xXR := XR.cell; have zXR0 := XR.frozen
   refine Jo.jnext (i := 7) (o := ⟨none, _, _, _, _, _⟩) (by kernel_rfl) rfl (fun K hK => ?_)
   go_simp; refine hK.out _ _ ?_; clear hK K xXR zXR0; have SX := StN.mk9 XR (.bool e4) (.int .i64 K4) (.bool s4) (.int .u64 M4) (.int .i64 E4) (.int .i64 K4b) (.bool s4b) (.int .u64 M4b) (.int .i64 E4b); refine Jo.jdone (by kernel_rfl) ?_; go_wp2; exact bodyPost_ret (by simp [results, Tryz.results50, go_sem, SX.box.cell]) rfl ⟨_, _, _, _, _, _, _, _, _, rfl, v4, (SX.below HB.out (by omega))⟩
def DnQ (A B r : Int) : Prop := -19342822337206103650074625 ≤ r ∧ r ≤ 19342822337206103650074624 ∧ (-19342822337206103650074625 < r → vr r * B ≤ A) ∧ (r < 19342822337206103650074624 → A < vr (r + 1) * B)
def UpQ (A B r : Int) : Prop := DnQ (-A) B (-r)
def Sid (up : Bool) (A B r : Int) : Prop := if up = true then UpQ A B r else DnQ A B r
theorem sid_f {A B r : Int} : Sid false A B r = DnQ A B r := if_neg (by decide)
theorem sid_t {A B r : Int} : Sid true A B r = UpQ A B r := if_pos rfl
theorem DnQ.mono {A B C D r t : Int} (hB : 0 < B) (hD : 0 < D) (h : DnQ A B r) (k : DnQ C D t) (hAC : A * D ≤ C * B) : r ≤ t := by
 obtain ⟨h1, h2, h3, h4⟩ := h; obtain ⟨k1, k2, k3, k4⟩ := k
 rcases Int.lt_or_le t r with q | q
 · exfalso
   have a := h3 (by omega); have b := k4 (by omega)
   have c : vr (t + 1) ≤ vr r := vr_le (by omega)
   have a2 : vr r * B * D ≤ A * D := Int.mul_le_mul_of_nonneg_right a (Int.le_of_lt hD)
   have b2 : C * B < vr (t + 1) * D * B := Int.mul_lt_mul_of_pos_right b hB
   have c2 : vr (t + 1) * (D * B) ≤ vr r * (D * B) := Int.mul_le_mul_of_nonneg_right c (Int.le_of_lt (Int.mul_pos hD hB))
   rw [Int.mul_assoc, Int.mul_comm B D] at a2; rw [Int.mul_assoc] at b2
   omega
 · exact q
theorem DnQ.uniq {A B r t : Int} (hB : 0 < B) (h : DnQ A B r) (k : DnQ A B t) : r = t := by
 have a := h.mono hB hB k (Int.le_refl _); have b := k.mono hB hB h (Int.le_refl _)
 omega
theorem Sid.uniq {up : Bool} {A B r t : Int} (hB : 0 < B) (h : Sid up A B r) (k : Sid up A B t) : r = t := by
 cases up
 · rw [sid_f] at h k; exact h.uniq hB k
 · rw [sid_t] at h k
   have := DnQ.uniq hB h k
   omega
theorem Sid.mono {up : Bool} {A B C D r t : Int} (hB : 0 < B) (hD : 0 < D) (h : Sid up A B r) (k : Sid up C D t) (hAC : A * D ≤ C * B) : r ≤ t := by
 cases up
 · rw [sid_f] at h k; exact h.mono hB hD k hAC
 · rw [sid_t] at h k
   have := DnQ.mono hD hB k h (by rw [Int.neg_mul, Int.neg_mul]; omega)
   omega
theorem Sid.neg {up : Bool} {A B r : Int} (h : Sid up A B r) : Sid (!up) (-A) B (-r) := by
 cases up
 · rw [sid_f] at h
   rw [show (!false) = true from rfl, sid_t]
   unfold UpQ
   rw [Int.neg_neg, Int.neg_neg]; exact h
 · rw [sid_t] at h
   rw [show (!true) = false from rfl, sid_f]
   exact h
theorem sid_sgi {s up : Bool} {A B r : Int} (h : Sid (up != s) A B r) : Sid up (sgi s A) B (sgi s r) := by
 cases s
 · rw [wsg_f, wsg_f]
   cases up <;> exact h
 · rw [wsg_t, wsg_t]
   have h2 : Sid (!up) A B r := by cases up <;> exact h
   have := h2.neg
   rwa [Bool.not_not] at this
theorem Sid.bd {up : Bool} {A B r : Int} (h : Sid up A B r) : -19342822337206103650074625 ≤ r ∧ r ≤ 19342822337206103650074625 := by
 cases up
 · rw [sid_f] at h
   have := h.1; have := h.2.1
   omega
 · rw [sid_t] at h
   have := h.1; have := h.2.1
   omega
theorem last_yes (p : Nat → Prop) (h0 : p 0) : ∀ n, ¬ p n → ∃ k, k < n ∧ p k ∧ ¬ p (k + 1)
 | 0, h => absurd h0 h
 | n + 1, h => by
   by_cases q : p n
   · exact ⟨n, Nat.lt_succ_self _, q, h⟩
   · obtain ⟨k, a, b, c⟩ := last_yes p h0 n q; exact ⟨k, Nat.lt_succ_of_lt a, b, c⟩
theorem dnq_ex (A : Int) {B : Int} (hB : 0 < B) : ∃ r, DnQ A B r := by
 obtain ⟨n, hn⟩ : ∃ n : Nat, (n : Int) = 38685644674412207300149250 := ⟨38685644674412207300149250, rfl⟩
 obtain ⟨k, hk, a, b⟩ := last_yes (fun k => k = 0 ∨ ((k : Int) ≤ 38685644674412207300149249 ∧ vr ((k : Int) - 19342822337206103650074625) * B ≤ A)) (.inl rfl) n (by omega)
 refine ⟨(k : Int) - 19342822337206103650074625, by omega, by omega, fun h => ?_, fun h => ?_⟩
 · rcases a with a | a
   · omega
   · exact a.2
 · have c : ¬ vr (((k + 1 : Nat) : Int) - 19342822337206103650074625) * B ≤ A := fun c => b (.inr ⟨by omega, c⟩)
   rw [show ((k + 1 : Nat) : Int) - 19342822337206103650074625 = (k : Int) - 19342822337206103650074625 + 1 by omega] at c
   omega
theorem sid_ex (up : Bool) (A : Int) {B : Int} (hB : 0 < B) : ∃ r, Sid up A B r := by
 cases up
 · obtain ⟨r, h⟩ := dnq_ex A hB; exact ⟨r, by rw [sid_f]; exact h⟩
 · obtain ⟨r, h⟩ := dnq_ex (-A) hB; refine ⟨-r, ?_⟩; rw [sid_t]
   unfold UpQ
   rw [Int.neg_neg]; exact h
theorem DnQ.of_dn {X A B a b r : Int} (hB : 0 < B) (h : Dn X r) (h1 : a < X) (h2 : X < b) (h3 : a * B < A) (h4 : A < b * B) (hs : ∀ s, ¬ (a < vr s ∧ vr s < b)) : DnQ A B r := by
 obtain ⟨d1, d2, d3, d4⟩ := h
 refine ⟨d1, d2, fun k => ?_, fun k => ?_⟩
 · have e := d3 k; have n := hs r
   have l : vr r ≤ a := by omega
   have := Int.mul_le_mul_of_nonneg_right l (Int.le_of_lt hB)
   omega
 · have e := d4 k; have n := hs (r + 1)
   have l : b ≤ vr (r + 1) := by omega
   have := Int.mul_le_mul_of_nonneg_right l (Int.le_of_lt hB)
   omega
theorem DnQ.of_eq {X A B r : Int} (hB : 0 < B) (h : Dn X r) (e : X * B = A) : DnQ A B r := by
 obtain ⟨d1, d2, d3, d4⟩ := h; subst e
 exact ⟨d1, d2, fun k => Int.mul_le_mul_of_nonneg_right (d3 k) (Int.le_of_lt hB), fun k => Int.mul_lt_mul_of_pos_right (d4 k) hB⟩
theorem sid_of {P : Int × Int} {A B a b : Int} (up : Bool) (hP : Nf P) (hB : 0 < B) (h1 : a < vl P) (h2 : vl P < b) (h3 : a * B < A) (h4 : A < b * B) (hs : ∀ s, ¬ (a < vr s ∧ vr s < b)) : Sid up A B (rnd up P.1 P.2) := by
 obtain ⟨p1, p2⟩ := rnd_spec hP
 cases up
 · rw [sid_f]; exact DnQ.of_dn hB p1 h1 h2 h3 h4 hs
 · rw [sid_t]
   refine DnQ.of_dn (a := -b) (b := -a) hB p2 (by omega) (by omega) (by rw [Int.neg_mul]; omega) (by rw [Int.neg_mul]; omega) (fun s => ?_)
   have := hs (-s)
   rw [vr_neg] at this
   omega
theorem sid_eq {P : Int × Int} {A B : Int} (up : Bool) (hP : Nf P) (hB : 0 < B) (e : vl P * B = A) : Sid up A B (rnd up P.1 P.2) := by
 obtain ⟨p1, p2⟩ := rnd_spec hP
 cases up
 · rw [sid_f]; exact DnQ.of_eq hB p1 e
 · rw [sid_t]; exact DnQ.of_eq hB p2 (by rw [Int.neg_mul]; omega)
theorem no_placeQ {i : Int} {u : Nat} (hi : 9223372036854775808 ≤ i) (s : Int) : ¬ (2 * i * 2 ^ u < vr s ∧ vr s < (2 * i + 2) * 2 ^ u) := by
 rintro ⟨h1, h2⟩; have hu := p2pos u
 have hpos : 0 < vr s := Int.lt_of_le_of_lt (Int.mul_nonneg (by omega) (Int.le_of_lt hu)) h1
 have hs : 0 < s := by
   rcases Int.lt_or_le 0 s with q | q
   · exact q
   · exfalso
     have := vr_le q
     rw [show vr 0 = 0 from rfl] at this
     omega
 have e0 : vr s = ((s - 1) % 9223372036854775808 + 9223372036854775808) * 2 ^ ((s - 1) / 9223372036854775808 - 1048576 + KK).toNat := by
   unfold vr vp
   rw [if_neg (by omega), if_neg (by omega)]
 obtain ⟨M, hM⟩ : ∃ M, (s - 1) % 9223372036854775808 + 9223372036854775808 = M := ⟨_, rfl⟩; obtain ⟨t, ht⟩ : ∃ t, ((s - 1) / 9223372036854775808 - 1048576 + (KK : Int)).toNat = t := ⟨_, rfl⟩; rw [hM, ht] at e0
 have hMl : M < 18446744073709551616 := by omega
 rw [e0] at h1 h2; clear e0 hM ht hs hpos
 rcases Nat.lt_or_ge u t with q | q
 · obtain ⟨d, rfl⟩ : ∃ d, t = u + 1 + d := ⟨t - (u + 1), by omega⟩
   have e1 : M * 2 ^ (u + 1 + d) = M * 2 ^ d * 2 * 2 ^ u := by
     rw [Int.pow_add, Int.pow_succ]; generalize (2 : Int) ^ u = U; generalize (2 : Int) ^ d = D; rw [Int.mul_assoc M D 2, Int.mul_assoc M, Int.mul_comm U 2, Int.mul_comm (2 * U) D, Int.mul_assoc D 2 U]
   rw [e1] at h1 h2; have a1 := Int.lt_of_mul_lt_mul_right h1 (Int.le_of_lt hu); have a2 := Int.lt_of_mul_lt_mul_right h2 (Int.le_of_lt hu)
   omega
 · obtain ⟨d, rfl⟩ : ∃ d, u = t + d := ⟨u - t, by omega⟩
   have ht := p2pos t; have hd := p2pos d; rw [Int.pow_add] at h1
   have l1 : (2 : Int) ^ t * 1 ≤ 2 ^ t * 2 ^ d := Int.mul_le_mul_of_nonneg_left hd (Int.le_of_lt ht)
   rw [Int.mul_one] at l1
   have l2 : 2 * i * (2 : Int) ^ t ≤ 2 * i * (2 ^ t * 2 ^ d) := Int.mul_le_mul_of_nonneg_left l1 (by omega)
   have a1 := Int.lt_of_mul_lt_mul_right (Int.lt_of_le_of_lt l2 h1) (Int.le_of_lt ht)
   omega
theorem mk_vlB {z e : Int} (h : z.natAbs < 2 ^ 500000) (h1 : -3000000 ≤ e) (h2 : e ≤ 3000000) : vl (mk z e) = z * 2 ^ (e + KK).toNat := by
 obtain ⟨η, hη⟩ : ∃ η : Nat, η = 4000000 := ⟨_, rfl⟩; refine (mk_fit (h := η) (by omega) (by omega) ?_).2; obtain ⟨κ, hκ⟩ : ∃ κ : Nat, κ = 500000 := ⟨_, rfl⟩; rw [← hκ] at h
 have := Nat.mul_lt_mul_of_pos_right h (Nat.pow_pos (n := (e + (η : Int)).toNat) (show 0 < 2 by decide))
 rw [← Nat.pow_add] at this; exact Nat.lt_of_lt_of_le this (Nat.pow_le_pow_right (by decide) (by omega))
def stk (q r : Nat) : Nat := 2 * q + if r = 0 then 0 else 1
theorem quo_big {α β n : Nat} (hβ : 0 < β) (hn : 70 + blen β ≤ n) (ha : α ≠ 0) : 9223372036854775808 ≤ α * 2 ^ n / β := by
 rw [Nat.le_div_iff_mul_le hβ]; have l1 := blen_lt β
 have l2 : 2 ^ 69 * β ≤ 2 ^ 69 * 2 ^ blen β := Nat.mul_le_mul_left _ (Nat.le_of_lt l1)
 rw [← Nat.pow_add] at l2
 have l3 : 2 ^ (69 + blen β) ≤ 2 ^ n := Nat.pow_le_pow_right (by decide) (by omega)
 have l4 : 1 * 2 ^ n ≤ α * 2 ^ n := Nat.mul_le_mul_right _ (by omega)
 omega
theorem quo_side {α β : Nat} {e : Int} {n κ : Nat} (up : Bool) (hβ : 0 < β) (hq0 : α ≠ 0 → 9223372036854775808 ≤ α * 2 ^ n / β) (hκ : κ = 500000) (hs : stk (α * 2 ^ n / β) (α * 2 ^ n % β) < 2 ^ κ) (h1 : -2900000 ≤ e - n) (h2 : e ≤ 2900000) :
   Sid up ((α : Int) * 2 ^ (e + KK).toNat) (β : Int) (rnd up (mk ((stk (α * 2 ^ n / β) (α * 2 ^ n % β) : Nat) : Int) (e - n - 1)).1 (mk ((stk (α * 2 ^ n / β) (α * 2 ^ n % β) : Nat) : Int) (e - n - 1)).2) := by
 have hk := KK_eq
 have hb0 : (0 : Int) < (β : Int) := by omega
 have nf := mk_nf ((stk (α * 2 ^ n / β) (α * 2 ^ n % β) : Nat) : Int) (e - n - 1); have ev := mk_vlB (z := ((stk (α * 2 ^ n / β) (α * 2 ^ n % β) : Nat) : Int)) (e := e - n - 1) (by rw [Int.natAbs_natCast, ← hκ]; exact hs) (by omega) (by omega); obtain ⟨u, hu⟩ : ∃ u : Nat, (e - n - 1 + (KK : Int)).toNat = u := ⟨_, rfl⟩
 have e1 : (e + (KK : Int)).toNat = n + (1 + u) := by omega
 rw [hu] at ev
 rw [e1, Int.pow_add, Int.pow_add, show (2 : Int) ^ 1 = 2 from rfl, ← Int.mul_assoc]
 have hd := Nat.div_add_mod (α * 2 ^ n) β; have hm := Nat.mod_lt (α * 2 ^ n) hβ; have hpu := p2pos u
 have hcast : ((α * 2 ^ n : Nat) : Int) = (α : Int) * 2 ^ n := by push_cast; rfl
 by_cases ha : α = 0
 · subst ha
   have e2 : stk (0 * 2 ^ n / β) (0 * 2 ^ n % β) = 0 := by
     rw [Nat.zero_mul, Nat.zero_div, Nat.zero_mod]
     rfl
   rw [e2] at ev nf ⊢; refine sid_eq up nf hb0 ?_; rw [ev]
   show (((0 : Nat) : Int)) * 2 ^ u * (β : Int) = ((0 : Nat) : Int) * 2 ^ n * (2 * 2 ^ u)
   rw [show (((0 : Nat) : Int)) = 0 from rfl, Int.zero_mul, Int.zero_mul, Int.zero_mul, Int.zero_mul]
 · have hq := hq0 ha; clear hq0; clear hs; rw [← hcast]; clear hcast; generalize α * 2 ^ n = X at ev nf hd hm hq ⊢; generalize X / β = q at ev nf hd hq ⊢; generalize X % β = r at ev nf hd hm ⊢
   have hdI : (β : Int) * (q : Int) + (r : Int) = (X : Int) := by exact_mod_cast hd
   by_cases hr : r = 0
   · have e3 : stk q r = 2 * q := by
       unfold stk
       rw [if_pos hr]
       omega
     rw [e3] at ev nf ⊢; refine sid_eq up nf hb0 ?_; rw [ev, ← hdI, hr]
     show (((2 * q : Nat)) : Int) * 2 ^ u * (β : Int) = ((β : Int) * (q : Int) + ((0 : Nat) : Int)) * (2 * 2 ^ u)
     push_cast
     generalize (2 : Int) ^ u = U; rw [Int.add_zero, Int.mul_assoc, Int.mul_comm U, Int.mul_assoc 2, ← Int.mul_assoc (q : Int), Int.mul_comm (q : Int), Int.mul_left_comm]
   · have e3 : stk q r = 2 * q + 1 := by
       unfold stk
       rw [if_neg hr]
     rw [e3] at ev nf ⊢
     have c1 : (((2 * q + 1 : Nat)) : Int) = 2 * (q : Int) + 1 := by omega
     have c2 : (2 * (q : Int) * 2 ^ u) * (β : Int) = (β : Int) * (q : Int) * (2 * 2 ^ u) := by
       generalize (2 : Int) ^ u = U; rw [Int.mul_right_comm, Int.mul_comm 2 (q : Int), Int.mul_assoc (q : Int) 2, Int.mul_comm 2 (β : Int), ← Int.mul_assoc (q : Int), Int.mul_comm (q : Int), Int.mul_assoc]
     have c3 : ((2 * (q : Int) + 2) * 2 ^ u) * (β : Int) = ((β : Int) * (q : Int) + (β : Int)) * (2 * 2 ^ u) := by
       rw [show 2 * (q : Int) + 2 = 2 * ((q : Int) + 1) by omega, show (β : Int) * (q : Int) + (β : Int) = (β : Int) * ((q : Int) + 1) by rw [Int.mul_add, Int.mul_one]]
       generalize (2 : Int) ^ u = U; generalize (q : Int) + 1 = p; rw [Int.mul_right_comm, Int.mul_comm 2 p, Int.mul_assoc p 2, Int.mul_comm 2 (β : Int), ← Int.mul_assoc p, Int.mul_comm p, Int.mul_assoc]
     have h2u : (0 : Int) < 2 * 2 ^ u := by omega
     refine sid_of up nf hb0 (a := 2 * (q : Int) * 2 ^ u) (b := (2 * (q : Int) + 2) * 2 ^ u) ?_ ?_ ?_ ?_ (no_placeQ (by omega))
     · rw [ev, c1]; exact Int.mul_lt_mul_of_pos_right (by omega) hpu
     · rw [ev, c1]; exact Int.mul_lt_mul_of_pos_right (by omega) hpu
     · rw [c2]; exact Int.mul_lt_mul_of_pos_right (by omega) h2u
     · rw [c3]; exact Int.mul_lt_mul_of_pos_right (by omega) h2u
end Go.Proofs.YtnbliijpjcmbjaaGreatDoor
