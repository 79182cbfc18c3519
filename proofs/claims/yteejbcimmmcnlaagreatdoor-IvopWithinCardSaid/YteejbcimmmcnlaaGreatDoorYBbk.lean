/-
  Contracts and words that the statement's proof rests on, several texts in one: Ch, Cj, Fr, Ic.
-/
import Derived.Below
import Derived.BigQuiet
import Derived.Carry
import Derived.Deep.DeepCutAuto
import Derived.Deep.Draws
import Derived.Deep.MidRow
import Derived.Deep.QuietTactic
import Derived.Deep.RegionHeld3
import Derived.Deep.RegionWith
import Derived.IntWalk
import Derived.Laws.CopyOwn
import Derived.Laws.MakeOwn
import Derived.Laws.OwnMore
import Derived.Laws.Rows
import Derived.Lib.BitFns
import Derived.Lib.Hide
import Derived.Maps.AppendAt
import Derived.StillTailTactics
import Derived.Test.YteejbcimmmcnlaaGreatDoorRows
import Derived.WalkKit
import Derived.WalkLawsBesides
import Derived.WalkSpells
import Derived.Test.YteejbcimmmcnlaaGreatDoorYBag
import Derived.Test.YteejbcimmmcnlaaGreatDoorYBah
import Derived.Test.YteejbcimmmcnlaaGreatDoorYBai
import Derived.Test.YteejbcimmmcnlaaGreatDoorYBaj
import Derived.Test.YteejbcimmmcnlaaGreatDoorYBam
import Derived.Test.YteejbcimmmcnlaaGreatDoorYBaz
import Derived.Test.YteejbcimmmcnlaaGreatDoorYBbh
import Derived.Test.YteejbcimmmcnlaaGreatDoorYBbi
import Derived.Test.YteejbcimmmcnlaaGreatDoorYBbj
/-
  What iv's ends, Meet and Hull do.
-/
namespace Go.Proofs.YteejbcimmmcnlaaGreatDoor
open Go.RowKit
set_option linter.unusedVariables false
set_option linter.unusedSimpArgs false
set_option maxRecDepth 100000

theorem Na.stn {w w' : World} {base n c g : Nat} {A : Option Addr} {l : List Int} {a b : Array Value} {T : TypeId} (h : Na w base A n c l) (S : StN w w' g a b T) (hT : (T == 24) = false) : Na w' base A n c l := by
  obtain ⟨r, h1, h2⟩ := h; refine ⟨r, ⟨h1.1, ?_⟩, h2⟩
  rcases h1.2 with h3 | ⟨g0, cap, cur, hv, hg, hh, q⟩
  · exact .inl h3
  · refine .inr ⟨g0, cap, cur, hv, hg, ?_, q⟩
    rw [S.2.2.1 g0 (fun e => ?_)]
    · exact hh
    · subst e
      have hb : w.heap[g0]? = some (.cells a T (0, 0)) := S.1
      rw [hh] at hb
      simp at hb
      rw [← hb.2] at hT
      simp at hT
theorem Bo.grownN {w w' : World} {base n c g : Nat} {A : Option Addr} {l : List Int} {a : Array Value} {T : TypeId} (X : Bo w g a T) (h : Na w base A n c l) (hT : (T == 24) = false) (G : w.grownBy w' (ownA A)) : Bo w' g a T := by
  refine X.keep (G.block g X.lt (fun e => ?_))
  obtain ⟨r, h1, h2⟩ := h
  rcases h1.2 with ⟨h3, _⟩ | ⟨g0, cap, cur, hv, hg, hh, q⟩
  · injection h3 with h4
    subst h4
    cases e
  · injection hv with h4
    subst h4
    cases e
    have hb := X
    unfold Bo at hb
    rw [hh] at hb
    simp at hb
    rw [← hb.2] at hT
    simp at hT
theorem ne_row {A A2 B B2 : Option Addr} {s1 s2 : Nat} (hne : ∀ k, ownA A = some k → ownA B ≠ some k) (a1 : ownA A2 = ownA A ∨ ownA A2 = some s1) (a2 : ownA B2 = ownA B ∨ ownA B2 = some s2) (lB : ∀ k, ownA B = some k → k < s1) (lA : ∀ k, ownA A2 = some k → k < s2) : ∀ k, ownA A2 = some k → ownA B2 ≠ some k := by
  intro k h c
  have hk := lA k h
  rcases a2 with e | e
  · rw [e] at c; have hb := lB k c
    rcases a1 with f | f
    · rw [f] at h; exact hne k h c
    · rw [f] at h
      injection h with h
      omega
  · rw [e] at c
    injection c with c
    omega
theorem own_ne {A B : Option Addr} (hne : ∀ k, ownA A = some k → ownA B ≠ some k) : ownA B = none ∨ ownA B ≠ ownA A := by
  rcases h : ownA B with _ | k
  · exact .inl rfl
  · exact .inr (fun c => hne k c.symm h)
theorem own_ne' {A B : Option Addr} (hne : ∀ k, ownA A = some k → ownA B ≠ some k) : ownA A = none ∨ ownA A ≠ ownA B := by
  rcases h : ownA A with _ | k
  · exact .inl rfl
  · exact .inr (fun c => hne k h c.symm)
/-- Behind k rounds: both rows of ends. -/
def EInv (w : World) (A B : Option Addr) (m c d : Nat) (la lb : List Int) (wr : World) : Prop :=
  Na wr w.heap.size A m c la ∧ Na wr w.heap.size B m d lb ∧ (∀ k, ownA A = some k → ownA B ≠ some k) ∧ Below w.heap.size w wr
set_option maxHeartbeats 8000000 in
theorem kvEnds {w : World} {A : Option Addr} {n c m : Nat} {l : List Sp} (h : Il8 w A n c l) (hm : (lowL l).length = m) : Calls Tryz.prog 83 #[.slice A n c] w (fun e w' => ∃ A1 c1 B1 d1, e = .returned (.tuple #[.slice A1 m c1, .slice B1 m d1]) ∧ Nl w' A1 m c1 (lowL l) ∧ Nl w' B1 m d1 (highL l) ∧ Below w.heap.size w w') := by
  have HM := Lib.hid hm; have HLn := Lib.hid h.1; have hcap := h.2.1; have hbig := h.2.2.1; have hD0 := h; clear hm h
  go_enter Tryz.func83, Tryz.ntmps83
  go_wp2
  go_loopw [2, 3, 8] (fun va vb i wr => ∃ k A1 B1 m1 c1 d1, k ≤ n ∧ m1 ≤ k ∧ va = .slice A1 m1 c1 ∧ vb = .slice B1 m1 d1 ∧ i = .int .i64 ((k : Nat) : Int) ∧ EInv w A1 B1 m1 c1 d1 (lowL (l.take k)) (highL (l.take k)) wr) (fun _ _ i _ => n - (intOf i).toNat)
  case atStart => exact ⟨0, _, _, _, _, _, Nat.zero_le _, Nat.zero_le _, rfl, rfl, rfl, Na.nil _ _, Na.nil _ _, (fun k h => by cases h), Below.refl _ _⟩
  case round =>
    obtain ⟨k, A1, B1, m1, c1, d1, hk, hmk, rfl, rfl, rfl, N1, N2, hne, hB⟩ := hrel; have HB := Lib.hid hB; clear hB
    by_cases hlt : k < n
    · have tlt : decide ((k : Int) < (n : Int)) = true := by simp; omega
      have h := hD0.below HB.out; obtain ⟨b, o, rfl, hcell⟩ := h.2.2.2 (by omega); obtain ⟨e, D, s, M, E, D', s', M', E', x0, x1, x2, x3, x4, x5, x6, x7, x8, hM, hM', hx⟩ := hcell k hlt; clear hcell h hD0
      have i1 : (k : Int) < n := by omega
      have i2 : (0 : Int) ≤ k := by omega
      have hsl := lowL_take (l := l) (k := k) (by rw [HLn.out]; exact hlt); have hsh := highL_take (l := l) (k := k) (by rw [HLn.out]; exact hlt); rw [← hx] at hsl hsh; generalize lowL (l.take k) = la at *; generalize highL (l.take k) = lb at *; obtain ⟨x, hX⟩ : ∃ x, rkI e D s M E D' s' M' E' = x := ⟨_, rfl⟩; rw [hX] at hsl hsh; have HX := Lib.hid hX; have HSL := Lib.hid hsl; have HSH := Lib.hid hsh
      have HNE := Lib.hid hne; clear hsl hsh hX hx hne; have hsz := HB.out.size
      go_upto_region 4 with (fail)
      clear x0 x1 x2 x3 x4 x5 x6 x7 x8; have lX5 := Nat.le_refl (World.heap wr).size; generalize hWn : wr.alloc _ = w3 at *; obtain ⟨X5, BW⟩ := Bo.nw hWn; clear hWn; replace N1 := N1.below BW; replace N2 := N2.below BW; replace HB := Lib.hid (bt HB.out BW); clear BW; clear lX5; obtain ⟨xX50, xX51, xX52, xX53, xX54, xX55, xX56, xX57, xX58⟩ := X5.u9
      go_wp2_with fail
      refine (kvOrE hM hM' HX.out).mono ?_; rintro ee w4 ⟨e1, K1, s1, M1, E1, K1b, s1b, M1b, E1b, rfl, v1, B⟩; clear xX50 xX51 xX52 xX53 xX54 xX55 xX56 xX57 xX58; replace X5 := X5.below B; replace N1 := N1.below B; replace N2 := N2.below B; replace HB := Lib.hid (bt HB.out B); clear B; clear HX hM hM'; obtain ⟨xX50, xX51, xX52, xX53, xX54, xX55, xX56, xX57, xX58⟩ := X5.u9; have zX50 := X5.frozen
      go_upto_region 5 with (fail)
      clear xX50 zX50 xX51 xX52 xX53 xX54 xX55 xX56 xX57 xX58; generalize hS : ((((((((w4.setCell _ _).setCell _ _).setCell _ _).setCell _ _).setCell _ _).setCell _ _).setCell _ _).setCell _ _).setCell _ _ = w5 at *; have SX := StN.of9 X5 hS; replace N1 := N1.stn SX (by decide); replace N2 := N2.stn SX (by decide); replace HB := Lib.hid (SX.below HB.out hsz); replace X5 := SX.box; clear SX hS
      rcases x with _ | ⟨xa, xb⟩
      · obtain ⟨rfl, y1, y1b⟩ := v1; have hsl2 := HSL.out; have hsh2 := HSH.out
        have hl0 : la ++ lo1 none = la := List.append_nil la
        have hh0 : lb ++ hi1 none = lb := List.append_nil lb
        rw [hl0] at hsl2; rw [hh0] at hsh2; clear HSL HSH hl0 hh0
        obtain ⟨_, rfl, rfl, rfl, rfl, rfl, rfl, rfl, rfl⟩ := (show Ci true K1 s1 M1 E1 K1b s1b M1b E1b none from ⟨rfl, y1, y1b⟩).uniq Ci.none
        clear y1 y1b; refine Jo.rk [0, 1, 2] [some 14, some 15, some 16] [[], [], [0, 1]] 3 0 [Jo.q9 true 0 false 0 0 0 false 0 0, Jo.q9 true 0 false 0 0 0 false 0 0, Jo.qb false] (by kernel_rfl) (by kernel_rfl) (by decide) rfl ?_ ?_
        · refine Jo.jm rfl ?_ ?_
          · rintro wj hJ K hK; simp only [Jo.z] at hK ⊢; obtain ⟨xX50, xX51, xX52, xX53, xX54, xX55, xX56, xX57, xX58⟩ := (X5.below hJ).u9; go_simp; exact hK.out _ _ rfl (br _ _)
          refine Jo.jm rfl ?_ ?_
          · rintro wj hJ K hK; simp only [Jo.z] at hK ⊢; go_simp; refine (kvNoneE).mono ?_; rintro ee wk ⟨rfl, B⟩; exact hK.out _ _ rfl B
          refine Jo.jm rfl ?_ ?_
          · rintro wj hJ _ rfl _ rfl K hK; simp only [Jo.z] at hK ⊢; go_simp
            repeat' split
            all_goals exact hK.out _ _ (congrArg Value.bool (by first | rfl | (exfalso; simp_all) | simp_all)) (br _ _)
          exact Jo.Steps.nil
        rintro w6 hJ _ rfl _ rfl _ rfl -; simp only [Jo.z]; replace X5 := X5.below hJ; replace N1 := N1.below hJ; replace N2 := N2.below hJ; replace HB := Lib.hid (bt HB.out hJ); refine Jo.jdone (by kernel_rfl) ?_; go_wp2
        go_roundw
        case rel => exact ⟨k + 1, _, _, _, _, _, by omega, by omega, rfl, rfl, by go_num, by rw [hsl2]; exact N1, by rw [hsh2]; exact N2, HNE.out, HB.out⟩
        case measure => simp [intOf]; omega
      · obtain ⟨rfl, a1, b1, o1, o1l, o1h⟩ := v1
        have hsl2 : _ = la ++ [xa] := HSL.out
        have hsh2 : _ = lb ++ [xb] := HSH.out
        clear HSL HSH o1 o1l o1h; refine Jo.rk [0, 1, 2] [some 14, some 15, some 16] [[], [], [0, 1]] 3 0 [Jo.q9 false K1 s1 M1 E1 K1b s1b M1b E1b, Jo.q9 true 0 false 0 0 0 false 0 0, Jo.qb true] (by kernel_rfl) (by kernel_rfl) (by decide) rfl ?_ ?_
        · refine Jo.jm rfl ?_ ?_
          · rintro wj hJ K hK; simp only [Jo.z] at hK ⊢; obtain ⟨xX50, xX51, xX52, xX53, xX54, xX55, xX56, xX57, xX58⟩ := (X5.below hJ).u9; go_simp; exact hK.out _ _ rfl (br _ _)
          refine Jo.jm rfl ?_ ?_
          · rintro wj hJ K hK; simp only [Jo.z] at hK ⊢; go_simp; refine (kvNoneE).mono ?_; rintro ee wk ⟨rfl, B⟩; exact hK.out _ _ rfl B
          refine Jo.jm rfl ?_ ?_
          · rintro wj hJ _ rfl _ rfl K hK; simp only [Jo.z] at hK ⊢; go_simp
            repeat' split
            all_goals exact hK.out _ _ (congrArg Value.bool (by first | rfl | (exfalso; simp_all) | simp_all)) (br _ _)
          exact Jo.Steps.nil
        rintro w6 hJ _ rfl _ rfl _ rfl -; simp only [Jo.z]; replace X5 := X5.below hJ; replace N1 := N1.below hJ; replace N2 := N2.below hJ; replace HB := Lib.hid (bt HB.out hJ); refine Jo.jdone (by kernel_rfl) ?_; obtain ⟨xX50, xX51, xX52, xX53, xX54, xX55, xX56, xX57, xX58⟩ := X5.u9
        go_wp2_with (at_builtin; refine wpList_na rfl _ _ rfl rfl rfl (N1.below (bel1 _ _)) a1 (Bo.new _ _ _) (by omega) (Nat.le_trans HB.out.size (bel1 _ _).size) ?_)
        intro A2 d2 w7 N1' G1 at1
        clear xX50 xX51 xX52 xX53 xX54 xX55 xX56 xX57 xX58; have hB2 := bt HB.out (bel1 _ (.cells #[.int .i64 K1, .bool s1, .int .u64 M1, .int .i64 E1] 24)); have N1b := N1.below (bel1 _ (.cells #[.int .i64 K1, .bool s1, .int .u64 M1, .int .i64 E1] 24)); have N2b := N2.below (bel1 _ (.cells #[.int .i64 K1, .bool s1, .int .u64 M1, .int .i64 E1] 24)); replace X5 := (X5.below (bel1 _ (.cells #[.int .i64 K1, .bool s1, .int .u64 M1, .int .i64 E1] 24))).grownN N1b (by decide) G1
        replace HB := Lib.hid (hB2.grown G1 hB2.size (fun k hk => (N1b.own_lt k hk).1))
        have l1 : ∀ k, ownA B1 = some k → k < w6.heap.size + 1 := fun k hk => by
          have := (N2b.own_lt k hk).2
          simpa using this
        replace N2 := N2b.kept G1 (own_ne HNE.out); clear N1 N1b N2b G1 hB2; obtain ⟨xX50, xX51, xX52, xX53, xX54, xX55, xX56, xX57, xX58⟩ := X5.u9
        go_wp2_with (at_builtin; refine wpList_na rfl _ _ rfl rfl rfl (N2.below (bel1 _ _)) b1 (Bo.new _ _ _) (by omega) (Nat.le_trans HB.out.size (bel1 _ _).size) ?_)
        intro B2 d3 w8 N2' G2 at2
        clear xX50 xX51 xX52 xX53 xX54 xX55 xX56 xX57 xX58; have hB2 := bt HB.out (bel1 _ (.cells #[.int .i64 K1b, .bool s1b, .int .u64 M1b, .int .i64 E1b] 24)); have N2b := N2.below (bel1 _ (.cells #[.int .i64 K1b, .bool s1b, .int .u64 M1b, .int .i64 E1b] 24)); have N1b := N1'.below (bel1 _ (.cells #[.int .i64 K1b, .bool s1b, .int .u64 M1b, .int .i64 E1b] 24))
        have lA : ∀ k, ownA A2 = some k → k < w7.heap.size + 1 := fun k hk => by
          have := (N1b.own_lt k hk).2
          simpa using this
        have hne2 : ∀ k, ownA A2 = some k → ownA B2 ≠ some k := ne_row HNE.out at1 at2 l1 lA
        have hne1 : ∀ k, ownA A2 = some k → ownA B1 ≠ some k := ne_row HNE.out at1 (.inl rfl) l1 lA
        replace HB := Lib.hid (hB2.grown G2 hB2.size (fun k hk => (N2b.own_lt k hk).1))
        replace N1' := N1b.kept G2 (own_ne' hne1)
        clear N1b N2b G2 hB2 hne1 X5 N2 l1 lA at1 at2; go_wp2
        go_roundw
        case rel => exact ⟨k + 1, _, _, _, _, _, by omega, by omega, rfl, rfl, by go_num, by rw [hsl2]; exact N1', by rw [hsh2]; exact N2', hne2, HB.out⟩
        case measure => simp [intOf]; omega
    · obtain rfl : k = n := by omega
      have tlt : decide ((k : Int) < (k : Int)) = false := by simp
      have e1 : l.take k = l := List.take_of_length_le (by rw [HLn.out]; omega)
      rw [e1] at N1 N2
      obtain rfl : m1 = m := by rw [← HM.out]; exact N1.len.symm
      have M1 := N1.nl (by omega); have M2 := N2.nl (by omega); clear N1 N2; go_wp2
      go_ret2
      exact ⟨_, _, _, _, rfl, M1, M2, HB.out⟩
set_option maxHeartbeats 4000000 in
theorem kvMeet {w : World} {A : Option Addr} {n c : Nat} {l : List Sp} {z : Sp} (h : Il8 w A n c l) (hr : meetL l = z) : Calls Tryz.prog 69 #[.slice A n c] w (PV w z) := by
  obtain ⟨m, hm⟩ : ∃ m, (lowL l).length = m := ⟨_, rfl⟩; have hln := h.1; have hle := len_lo l; have hok := h.ok; have HM := Lib.hid hm
  go_enter Tryz.func69, Tryz.ntmps69
  go_upto_region 1 with (fail)
  generalize hW1 : w.alloc _ = w1 at *; obtain ⟨XR, HB⟩ := Bo.en1 hW1; replace h := h.below HB.out; clear hW1
  go_wp2_with fail
  refine (kvEnds h HM.out).mono ?_; rintro ee w2 ⟨A1, c1, B1, d1, rfl, N1, N2, B⟩; replace XR := XR.below B; replace h := h.below B; replace HB := Lib.hid (bt HB.out B); clear B; clear h
  by_cases hl : m < n
  · rw [meet_no (by omega)] at hr
    obtain rfl : none = z := hr
    have tl : decide ((m : Int) < (n : Int)) = true := by simp; omega
    clear hm hle hln hok
    go_wp2_with fail
    refine (kvNoneE).mono ?_; rintro ee w3 ⟨rfl, B⟩; replace XR := XR.below B; replace N1 := N1.below B; replace N2 := N2.below B; replace HB := Lib.hid (bt HB.out B); clear B; clear N1 N2; obtain ⟨xXR0, xXR1, xXR2, xXR3, xXR4, xXR5, xXR6, xXR7, xXR8⟩ := XR.u9; have zXR0 := XR.frozen; go_wp2; clear xXR0 zXR0 xXR1 xXR2 xXR3 xXR4 xXR5 xXR6 xXR7 xXR8; have SX := StN.mk9 XR (.bool true) (.int .i64 0) (.bool false) (.int .u64 0) (.int .i64 0) (.int .i64 0) (.bool false) (.int .u64 0) (.int .i64 0)
    exact bodyPost_ret (by simp [results, Tryz.results69, go_sem, SX.box.cell]) rfl ⟨_, _, _, _, _, _, _, _, _, rfl, Ci.none, (SX.below HB.out (by omega))⟩
  · have hr2 := (meet_some (by omega)).symm.trans hr
    have tl : decide ((m : Int) < (n : Int)) = false := by simp; omega
    clear hr; obtain ⟨u, hu⟩ : ∃ u, mxp (lowL l) = u := ⟨_, rfl⟩; obtain ⟨v, hv⟩ : ∃ v, mnp (highL l) = v := ⟨_, rfl⟩; rw [hu, hv] at hr2; have HU := Lib.hid hu; have HVV := Lib.hid hv; have HR := Lib.hid hr2; clear hu hv hr2 hm hle hln hok
    go_wp2_with fail
    refine (nMost N1 HU.out).mono ?_; rintro ee w3 ⟨K1, s1, M1, E1, rfl, q1, B⟩; replace XR := XR.below B; replace N1 := N1.below B; replace N2 := N2.below B; replace HB := Lib.hid (bt HB.out B); clear B
    go_wp2_with fail
    refine (nLeast N2 HVV.out).mono ?_; rintro ee w4 ⟨K2, s2, M2, E2, rfl, q2, B⟩; replace XR := XR.below B; replace N1 := N1.below B; replace N2 := N2.below B; replace HB := Lib.hid (bt HB.out B); clear B
    go_wp2_with fail
    refine (kvMake q1.top q2.top q1.rk q2.rk HR.out).mono ?_; rintro ee w5 ⟨e3, K3, s3, M3, E3, K3b, s3b, M3b, E3b, rfl, v3, B⟩; replace XR := XR.below B; replace N1 := N1.below B; replace N2 := N2.below B; replace HB := Lib.hid (bt HB.out B); clear B; clear N1 N2; obtain ⟨xXR0, xXR1, xXR2, xXR3, xXR4, xXR5, xXR6, xXR7, xXR8⟩ := XR.u9; have zXR0 := XR.frozen; go_wp2; clear xXR0 zXR0 xXR1 xXR2 xXR3 xXR4 xXR5 xXR6 xXR7 xXR8
    have SX := StN.mk9 XR (.bool e3) (.int .i64 K3) (.bool s3) (.int .u64 M3) (.int .i64 E3) (.int .i64 K3b) (.bool s3b) (.int .u64 M3b) (.int .i64 E3b); exact bodyPost_ret (by simp [results, Tryz.results69, go_sem, SX.box.cell]) rfl ⟨_, _, _, _, _, _, _, _, _, rfl, v3, (SX.below HB.out (by omega))⟩
set_option maxHeartbeats 4000000 in
theorem kvHull {w : World} {A : Option Addr} {n c : Nat} {l : List Sp} {z : Sp} (h : Il8 w A n c l) (hr : hullL l = z) : Calls Tryz.prog 37 #[.slice A n c] w (PV w z) := by
  obtain ⟨m, hm⟩ : ∃ m, (lowL l).length = m := ⟨_, rfl⟩; have hln := h.1; have hle := len_lo l; have hok := h.ok; have HM := Lib.hid hm
  go_enter Tryz.func37, Tryz.ntmps37
  go_upto_region 1 with (fail)
  generalize hW1 : w.alloc _ = w1 at *; obtain ⟨XR, HB⟩ := Bo.en1 hW1; replace h := h.below HB.out; clear hW1
  go_wp2_with fail
  refine (kvEnds h HM.out).mono ?_; rintro ee w2 ⟨A1, c1, B1, d1, rfl, N1, N2, B⟩; replace XR := XR.below B; replace h := h.below B; replace HB := Lib.hid (bt HB.out B); clear B; clear h; have hr2 := (hull_ends hok).symm.trans hr; clear hr; obtain ⟨u, hu⟩ : ∃ u, mnp (lowL l) = u := ⟨_, rfl⟩; obtain ⟨v, hv⟩ : ∃ v, mxp (highL l) = v := ⟨_, rfl⟩; rw [hu, hv] at hr2; have HU := Lib.hid hu; have HVV := Lib.hid hv
  have HR := Lib.hid hr2; clear hu hv hr2 hm hle hln hok
  go_wp2_with fail
  refine (nLeast N1 HU.out).mono ?_; rintro ee w3 ⟨K1, s1, M1, E1, rfl, q1, B⟩; replace XR := XR.below B; replace N1 := N1.below B; replace N2 := N2.below B; replace HB := Lib.hid (bt HB.out B); clear B
  go_wp2_with fail
  refine (nMost N2 HVV.out).mono ?_; rintro ee w4 ⟨K2, s2, M2, E2, rfl, q2, B⟩; replace XR := XR.below B; replace N1 := N1.below B; replace N2 := N2.below B; replace HB := Lib.hid (bt HB.out B); clear B
  go_wp2_with fail
  refine (kvMake q1.top q2.top q1.rk q2.rk HR.out).mono ?_; rintro ee w5 ⟨e3, K3, s3, M3, E3, K3b, s3b, M3b, E3b, rfl, v3, B⟩; replace XR := XR.below B; replace N1 := N1.below B; replace N2 := N2.below B; replace HB := Lib.hid (bt HB.out B); clear B; clear N1 N2; obtain ⟨xXR0, xXR1, xXR2, xXR3, xXR4, xXR5, xXR6, xXR7, xXR8⟩ := XR.u9; have zXR0 := XR.frozen; go_wp2; clear xXR0 zXR0 xXR1 xXR2 xXR3 xXR4 xXR5 xXR6 xXR7 xXR8
  have SX := StN.mk9 XR (.bool e3) (.int .i64 K3) (.bool s3) (.int .u64 M3) (.int .i64 E3) (.int .i64 K3b) (.bool s3b) (.int .u64 M3b) (.int .i64 E3b); exact bodyPost_ret (by simp [results, Tryz.results37, go_sem, SX.box.cell]) rfl ⟨_, _, _, _, _, _, _, _, _, rfl, v3, (SX.below HB.out (by omega))⟩
end Go.Proofs.YteejbcimmmcnlaaGreatDoor

/-
  What every statement of layer 8 begins with: the chapter's examples.
-/
namespace Go.Proofs.YteejbcimmmcnlaaGreatDoor
open Go.RowKit
set_option linter.unusedVariables false
set_option linter.unusedSimpArgs false
set_option maxRecDepth 100000

/-- The cells of some interval, and what it is taken for. -/
def Rw (e : Bool) (K : Int) (s : Bool) (M E K' : Int) (s' : Bool) (M' E' : Int) (x : Sp) : Prop := M < 18446744073709551616 ∧ M' < 18446744073709551616 ∧ rkI e K s M E K' s' M' E' = x
theorem Ci.rw {e : Bool} {K M E K' M' E' : Int} {s s' : Bool} {x : Sp} (h : Ci e K s M E K' s' M' E' x) : Rw e K s M E K' s' M' E' x := ⟨h.top.1, h.top.2, h.rk⟩
def Jo.Fact.il8 (n : Nat) (l : List Sp) : Jo.Fact := ⟨fun v w => ∃ A c, v = .slice A n c ∧ Il8 w A n c l, fun v w w' h b => by
  obtain ⟨A, c, e, h⟩ := h; exact ⟨A, c, e, h.below b⟩⟩
theorem Il8.lit1 {W : World} {h : Nat} {K1 M1 E1 G1 P1 Q1 : Int} {e1 s1 g1 : Bool} {x1 : Sp} (hg : W.heap.size = h) (v1 : Rw e1 K1 s1 M1 E1 G1 g1 P1 Q1 x1) :
    Il8 (W.alloc (.cells #[.bool e1, .int .i64 K1, .bool s1, .int .u64 M1, .int .i64 E1, .int .i64 G1, .bool g1, .int .u64 P1, .int .i64 Q1] 26)) (some ⟨h, 0, none⟩) 1 1 [x1] := by
  subst hg; have hh := heap_alloc_new W (.cells #[.bool e1, .int .i64 K1, .bool s1, .int .u64 M1, .int .i64 E1, .int .i64 G1, .bool g1, .int .u64 P1, .int .i64 Q1] 26)
  refine ⟨rfl, Nat.le_refl _, by decide, fun _ => ⟨_, 0, rfl, fun k hk => ?_⟩⟩
  obtain rfl : k = 0 := by omega
  exact ⟨e1, K1, s1, M1, E1, G1, g1, P1, Q1, by rw [cell_of_row _ _ _ _ _ _ hh]; rfl, by rw [cell_of_row _ _ _ _ _ _ hh]; rfl, by rw [cell_of_row _ _ _ _ _ _ hh]; rfl, by rw [cell_of_row _ _ _ _ _ _ hh]; rfl, by rw [cell_of_row _ _ _ _ _ _ hh]; rfl, by rw [cell_of_row _ _ _ _ _ _ hh]; rfl, by rw [cell_of_row _ _ _ _ _ _ hh]; rfl, by rw [cell_of_row _ _ _ _ _ _ hh]; rfl, by rw [cell_of_row _ _ _ _ _ _ hh]; rfl, v1.1, v1.2.1, v1.2.2⟩
theorem Il8.lit2 {W : World} {h : Nat} {K1 M1 E1 G1 P1 Q1 K2 M2 E2 G2 P2 Q2 : Int} {e1 s1 g1 e2 s2 g2 : Bool} {x1 x2 : Sp} (hg : W.heap.size = h) (v1 : Rw e1 K1 s1 M1 E1 G1 g1 P1 Q1 x1) (v2 : Rw e2 K2 s2 M2 E2 G2 g2 P2 Q2 x2) :
    Il8 (W.alloc (.cells #[.bool e1, .int .i64 K1, .bool s1, .int .u64 M1, .int .i64 E1, .int .i64 G1, .bool g1, .int .u64 P1, .int .i64 Q1, .bool e2, .int .i64 K2, .bool s2, .int .u64 M2, .int .i64 E2, .int .i64 G2, .bool g2, .int .u64 P2, .int .i64 Q2] 26)) (some ⟨h, 0, none⟩) 2 2 [x1, x2] := by
  subst hg; have hh := heap_alloc_new W (.cells #[.bool e1, .int .i64 K1, .bool s1, .int .u64 M1, .int .i64 E1, .int .i64 G1, .bool g1, .int .u64 P1, .int .i64 Q1, .bool e2, .int .i64 K2, .bool s2, .int .u64 M2, .int .i64 E2, .int .i64 G2, .bool g2, .int .u64 P2, .int .i64 Q2] 26)
  refine ⟨rfl, Nat.le_refl _, by decide, fun _ => ⟨_, 0, rfl, fun k hk => ?_⟩⟩
  rcases (by omega : k = 0 ∨ k = 1) with rfl | rfl
  · exact ⟨e1, K1, s1, M1, E1, G1, g1, P1, Q1, by rw [cell_of_row _ _ _ _ _ _ hh]; rfl, by rw [cell_of_row _ _ _ _ _ _ hh]; rfl, by rw [cell_of_row _ _ _ _ _ _ hh]; rfl, by rw [cell_of_row _ _ _ _ _ _ hh]; rfl, by rw [cell_of_row _ _ _ _ _ _ hh]; rfl, by rw [cell_of_row _ _ _ _ _ _ hh]; rfl, by rw [cell_of_row _ _ _ _ _ _ hh]; rfl, by rw [cell_of_row _ _ _ _ _ _ hh]; rfl, by rw [cell_of_row _ _ _ _ _ _ hh]; rfl, v1.1, v1.2.1, v1.2.2⟩
  · exact ⟨e2, K2, s2, M2, E2, G2, g2, P2, Q2, by rw [cell_of_row _ _ _ _ _ _ hh]; rfl, by rw [cell_of_row _ _ _ _ _ _ hh]; rfl, by rw [cell_of_row _ _ _ _ _ _ hh]; rfl, by rw [cell_of_row _ _ _ _ _ _ hh]; rfl, by rw [cell_of_row _ _ _ _ _ _ hh]; rfl, by rw [cell_of_row _ _ _ _ _ _ hh]; rfl, by rw [cell_of_row _ _ _ _ _ _ hh]; rfl, by rw [cell_of_row _ _ _ _ _ _ hh]; rfl, by rw [cell_of_row _ _ _ _ _ _ hh]; rfl, v2.1, v2.2.1, v2.2.2⟩
set_option maxHeartbeats 1000000 in
theorem kvOf {w : World} {a b oa ob : Int} {x : Sp} (a1 : -9223372036854775808 ≤ a) (a2 : a ≤ 9223372036854775807) (b1 : -9223372036854775808 ≤ b) (b2 : b ≤ 9223372036854775807) (ha : sgi (decide (a < 0)) (lo a.natAbs 0) = oa) (hb : sgi (decide (b < 0)) (lo b.natAbs 0) = ob) (hx : mkI oa ob = x) : Calls Tryz.prog 40 #[.int .i64 a, .int .i64 b] w (PV w x) := by
  have HA := Lib.hid ha; have HBB := Lib.hid hb; have HX := Lib.hid hx; clear ha hb hx
  go_enter Tryz.func40, Tryz.ntmps40
  go_upto_region 1 with (fail)
  generalize hW1 : w.alloc _ = w1 at *; obtain ⟨XR, HB⟩ := Bo.en1 hW1; clear hW1
  go_wp2_with fail
  refine (nOf _ a1 a2 HA.out).mono ?_; rintro ee w2 ⟨K1, s1, M1, E1, rfl, q1, B⟩; replace XR := XR.below B; replace HB := Lib.hid (bt HB.out B); clear B
  go_wp2_with fail
  refine (nOf _ b1 b2 HBB.out).mono ?_; rintro ee w3 ⟨K2, s2, M2, E2, rfl, q2, B⟩; replace XR := XR.below B; replace HB := Lib.hid (bt HB.out B); clear B
  go_wp2_with fail
  refine (kvMake q1.top q2.top q1.rk q2.rk HX.out).mono ?_; rintro ee w4 ⟨e3, K3, s3, M3, E3, K3b, s3b, M3b, E3b, rfl, v3, B⟩; replace XR := XR.below B; replace HB := Lib.hid (bt HB.out B); clear B; obtain ⟨xXR0, xXR1, xXR2, xXR3, xXR4, xXR5, xXR6, xXR7, xXR8⟩ := XR.u9; have zXR0 := XR.frozen; go_wp2; clear xXR0 zXR0 xXR1 xXR2 xXR3 xXR4 xXR5 xXR6 xXR7 xXR8; have SX := StN.mk9 XR (.bool e3) (.int .i64 K3) (.bool s3) (.int .u64 M3) (.int .i64 E3) (.int .i64 K3b) (.bool s3b) (.int .u64 M3b) (.int .i64 E3b)
  exact bodyPost_ret (by simp [results, Tryz.results40, go_sem, SX.box.cell]) rfl ⟨_, _, _, _, _, _, _, _, _, rfl, v3, (SX.below HB.out (by omega))⟩
end Go.Proofs.YteejbcimmmcnlaaGreatDoor

/-
  Whether one of some intervals is taken for the empty one; what ivop.Neg does.
-/
namespace Go.Proofs.YteejbcimmmcnlaaGreatDoor
open Go.RowKit
set_option linter.unusedVariables false
set_option linter.unusedSimpArgs false
set_option maxRecDepth 100000

theorem ci_some {e : Bool} {D M E D' M' E' : Int} {s s' : Bool} {a b : Int} (hM : M < 18446744073709551616) (hM' : M' < 18446744073709551616) (h : rkI e D s M E D' s' M' E' = some (a, b)) : Ci e D s M E D' s' M' E' (some (a, b)) := by
  rw [← h]; refine mayI_ci hM hM' ?_
  cases hm : mayI e D s M E D' s' M' E'
  · rw [mayI_no hm] at h
    cases h
  · rfl
set_option maxHeartbeats 4000000 in
theorem fkEmpty {w : World} {A : Option Addr} {n c : Nat} {l : List Sp} {r : Bool} (h : Il8 w A n c l) (hr : gone l = r) : Calls Tryz.prog 43 #[.slice A n c] w (PB w r) := by
  have HR := Lib.hid hr; have HLn := Lib.hid h.1; have hcap := h.2.1; have hbig := h.2.2.1; have hD0 := h; clear hr h
  go_enter Tryz.func43, Tryz.ntmps43
  go_wp2
  go_loopw [7] (fun i wr => ∃ k : Nat, k ≤ n ∧ i = .int .i64 k ∧ (∀ j, j < k → l.getD j none ≠ none) ∧ Below w.heap.size w wr) (fun i _ => n - (intOf i).toNat)
  case atStart => exact ⟨0, Nat.zero_le _, rfl, fun j h => absurd h (Nat.not_lt_zero _), Below.refl _ _⟩
  case round =>
    obtain ⟨k, hk, rfl, hU, hB⟩ := hrel; have HU := Lib.hid hU; have HB := Lib.hid hB; clear hU hB
    by_cases hlt : k < n
    · have tlt : decide ((k : Int) < (n : Int)) = true := by simp; omega
      have h := hD0.below HB.out; obtain ⟨b, o, rfl, hcell⟩ := h.2.2.2 (by omega); obtain ⟨e, D, s, M, E, D', s', M', E', x0, x1, x2, x3, x4, x5, x6, x7, x8, hM, hM', hx⟩ := hcell k hlt; clear hcell h hD0
      have i1 : (k : Int) < n := by omega
      have i2 : (0 : Int) ≤ k := by omega
      have hyes : l.getD k none = none → r = true := fun e => HR.out.symm.trans (gone_at (by rw [HLn.out]; exact hlt) e)
      have hnx : l.getD k none ≠ none → ∀ j, j < k + 1 → l.getD j none ≠ none := fun e j hj => by
        by_cases c : j = k
        · rw [c]; exact e
        · exact HU.out j (by omega)
      rw [← hx] at hyes hnx; clear hx HR HU
      cases e
      · go_upto_region 4 with (fail)
        clear x0 x1 x2 x3 x4 x5 x6 x7 x8; have lX4 := Nat.le_refl (World.heap wr).size; generalize hWn : wr.alloc _ = w3 at *; obtain ⟨X4, BW⟩ := Bo.nw hWn; clear hWn; replace HB := Lib.hid (bt HB.out BW); clear BW; clear lX4; have hm0 := mayI_no (e := false) (K := D) (s := s) (M := M) (E := E) (K' := D') (s' := s') (M' := M') (E' := E')
        cases hm : mayI false D s M E D' s' M' E'
        · obtain rfl := hyes (hm0 hm)
          have HMY := Lib.hid hm; clear hyes hnx hm hm0; obtain ⟨xX40, xX41, xX42, xX43, xX44, xX45, xX46, xX47, xX48⟩ := X4.u9
          go_wp2_with fail
          refine (kvMay hM hM' HMY.out).mono ?_; rintro ee w4 ⟨rfl, B⟩; clear xX40 xX41 xX42 xX43 xX44 xX45 xX46 xX47 xX48; replace X4 := X4.below B; replace HB := Lib.hid (bt HB.out B); clear B; clear HMY; go_wp2
          go_ret
          exact ⟨rfl, HB.out⟩
        · have HN : Hid (∀ j, j < k + 1 → l.getD j none ≠ none) := Lib.hid (hnx (of_decide_eq_true hm))
          have HMY := Lib.hid hm; clear hyes hnx hm hm0; obtain ⟨xX40, xX41, xX42, xX43, xX44, xX45, xX46, xX47, xX48⟩ := X4.u9
          go_wp2_with fail
          refine (kvMay hM hM' HMY.out).mono ?_; rintro ee w4 ⟨rfl, B⟩; clear xX40 xX41 xX42 xX43 xX44 xX45 xX46 xX47 xX48; replace X4 := X4.below B; replace HB := Lib.hid (bt HB.out B); clear B; clear HMY; go_wp2
          go_roundw
          case rel => exact ⟨k + 1, by omega, by go_num, HN.out, HB.out⟩
          case measure => simp [intOf]; omega
      · go_upto_region 4 with (fail)
        clear x0 x1 x2 x3 x4 x5 x6 x7 x8; have lX4 := Nat.le_refl (World.heap wr).size; generalize hWn : wr.alloc _ = w3 at *; obtain ⟨X4, BW⟩ := Bo.nw hWn; clear hWn; replace HB := Lib.hid (bt HB.out BW); clear BW; clear lX4
        obtain rfl := hyes rkI_t
        clear hyes hnx; obtain ⟨xX40, xX41, xX42, xX43, xX44, xX45, xX46, xX47, xX48⟩ := X4.u9; go_wp2
        go_ret
        exact ⟨rfl, HB.out⟩
    · obtain rfl : k = n := by omega
      have tlt : decide ((k : Int) < (k : Int)) = false := by simp
      obtain rfl : false = r := (gone_no (fun j hj => HU.out j (by rw [HLn.out] at hj; exact hj))).symm.trans HR.out
      clear HU HR; go_wp2
      go_ret
      exact ⟨rfl, HB.out⟩
set_option maxHeartbeats 4000000 in
theorem fkNeg {w : World} {e : Bool} {D M E D' M' E' : Int} {s s' : Bool} {x z : Sp} (hM : M < 18446744073709551616) (hM' : M' < 18446744073709551616) (hx : rkI e D s M E D' s' M' E' = x) (hr : negI x = z) : Calls Tryz.prog 16 #[.agg #[.bool e, .int .i64 D, .bool s, .int .u64 M, .int .i64 E, .int .i64 D', .bool s', .int .u64 M', .int .i64 E']] w (PV w z) := by
  obtain ⟨p, hp⟩ : ∃ p, gone [x] = p := ⟨_, rfl⟩; have HP := Lib.hid hp; have HX := Lib.hid hx; clear hx hp
  go_enter Tryz.func16, Tryz.ntmps16
  go_upto_region 1 with (fail)
  generalize hW1 : (w.alloc _).alloc _ = w1 at *; obtain ⟨X1, XR, HB⟩ := Bo.en2 hW1; clear hW1; obtain ⟨xX10, xX11, xX12, xX13, xX14, xX15, xX16, xX17, xX18⟩ := X1.u9
  go_wp2_with fail
  refine (fkEmpty (Il8.lit1 rfl ⟨hM, hM', HX.out⟩) HP.out).mono ?_; rintro ee w2 ⟨rfl, B⟩; replace B := bt (bel1 _ (.cells #[.bool e, .int .i64 D, .bool s, .int .u64 M, .int .i64 E, .int .i64 D', .bool s', .int .u64 M', .int .i64 E'] 26)) B; clear xX10 xX11 xX12 xX13 xX14 xX15 xX16 xX17 xX18; replace X1 := X1.below B; replace XR := XR.below B; replace HB := Lib.hid (bt HB.out B); clear B
  rcases x with _ | ⟨xa, xb⟩
  · obtain rfl : true = p := HP.out
    obtain rfl : none = z := hr
    clear HP
    go_wp2_with fail
    refine (kvNoneE).mono ?_; rintro ee w3 ⟨rfl, B⟩; replace X1 := X1.below B; replace XR := XR.below B; replace HB := Lib.hid (bt HB.out B); clear B; obtain ⟨xXR0, xXR1, xXR2, xXR3, xXR4, xXR5, xXR6, xXR7, xXR8⟩ := XR.u9; have zXR0 := XR.frozen; go_wp2; clear xXR0 zXR0 xXR1 xXR2 xXR3 xXR4 xXR5 xXR6 xXR7 xXR8; have SX := StN.mk9 XR (.bool true) (.int .i64 0) (.bool false) (.int .u64 0) (.int .i64 0) (.int .i64 0) (.bool false) (.int .u64 0) (.int .i64 0)
    exact bodyPost_ret (by simp [results, Tryz.results16, go_sem, SX.box.cell]) rfl ⟨_, _, _, _, _, _, _, _, _, rfl, Ci.none, (SX.below HB.out (by omega))⟩
  · obtain ⟨rfl, a1, b1, o1, o1l, o1h⟩ := ci_some hM hM' HX.out
    obtain rfl : false = p := HP.out
    obtain ⟨u, hu⟩ : ∃ u, -xb = u := ⟨_, rfl⟩; obtain ⟨l, hl⟩ : ∃ l, -xa = l := ⟨_, rfl⟩
    have hr2 : mkI u l = z := by rw [← hu, ← hl]; exact hr
    have HU : Hid (-rk D' s' M' E' = u) := Lib.hid (by rw [b1.rk]; exact hu)
    have HL : Hid (-rk D s M E = l) := Lib.hid (by rw [a1.rk]; exact hl)
    have HR := Lib.hid hr2; clear hu hl hr hr2 o1 o1l o1h HX HP; obtain ⟨xX10, xX11, xX12, xX13, xX14, xX15, xX16, xX17, xX18⟩ := X1.u9
    go_upto_region 3 with (fail)
    clear xX10 xX11 xX12 xX13 xX14 xX15 xX16 xX17 xX18; refine Jo.rk [0, 1, 2, 3, 4, 5, 6] [some 7, some 8, some 9, some 10, some 11, some 12, some 13, none] [[], [0], [1], [], [3], [4], [2, 5], []] 8 1 [Jo.qp w.heap.size 5, Jo.q4 D' s' M' E', Jo.Fact.num u, Jo.qp w.heap.size 1, Jo.q4 D s M E, Jo.Fact.num l, Jo.Fact.iv z, Jo.Fact.any] (by kernel_rfl) (by kernel_rfl) (by decide) rfl ?_ ?_
    · refine Jo.jm rfl ?_ ?_
      · rintro wj hJ K hK; simp only [Jo.z] at hK ⊢; go_simp; exact hK.out _ _ rfl (br _ _)
      refine Jo.jm rfl ?_ ?_
      · rintro wj hJ _ rfl K hK; simp only [Jo.z] at hK ⊢; obtain ⟨xX15, xX16, xX17, xX18⟩ := (X1.below hJ).v9; go_simp; exact hK.out _ _ rfl (br _ _)
      refine Jo.jm rfl ?_ ?_
      · rintro wj hJ _ rfl K hK; simp only [Jo.z] at hK ⊢; go_simp; refine (nNeg b1.top HU.out).mono ?_; rintro ee wk ⟨K2, s2, M2, E2, rfl, q2, B⟩; exact hK.out _ _ ⟨K2, s2, M2, E2, rfl, q2⟩ B
      refine Jo.jm rfl ?_ ?_
      · rintro wj hJ K hK; simp only [Jo.z] at hK ⊢; go_simp; exact hK.out _ _ rfl (br _ _)
      refine Jo.jm rfl ?_ ?_
      · rintro wj hJ _ rfl K hK; simp only [Jo.z] at hK ⊢; obtain ⟨xX11, xX12, xX13, xX14⟩ := (X1.below hJ).w9; go_simp; exact hK.out _ _ rfl (br _ _)
      refine Jo.jm rfl ?_ ?_
      · rintro wj hJ _ rfl K hK; simp only [Jo.z] at hK ⊢; go_simp; refine (nNeg a1.top HL.out).mono ?_; rintro ee wk ⟨K3, s3, M3, E3, rfl, q3, B⟩; exact hK.out _ _ ⟨K3, s3, M3, E3, rfl, q3⟩ B
      refine Jo.jm rfl ?_ ?_
      · rintro wj hJ _ ⟨K2, s2, M2, E2, rfl, q2⟩ _ ⟨K3, s3, M3, E3, rfl, q3⟩ K hK; simp only [Jo.z] at hK ⊢; go_simp; refine (kvMake q2.top q3.top q2.rk q3.rk HR.out).mono ?_; rintro ee wk ⟨e4, K4, s4, M4, E4, K4b, s4b, M4b, E4b, rfl, v4, B⟩; exact hK.out _ _ ⟨e4, K4, s4, M4, E4, K4b, s4b, M4b, E4b, rfl, v4⟩ B
      exact Jo.Steps.nil
    rintro w8 hJ _ _ _ rfl _ ⟨K2, s2, M2, E2, rfl, q2⟩ _ _ _ rfl _ ⟨K3, s3, M3, E3, rfl, q3⟩ _ ⟨e4, K4, s4, M4, E4, K4b, s4b, M4b, E4b, rfl, v4⟩ -; simp only [Jo.z]; replace X1 := X1.below hJ; replace XR := XR.below hJ; replace HB := Lib.hid (bt HB.out hJ); obtain ⟨xXR0, xXR1, xXR2, xXR3, xXR4, xXR5, xXR6, xXR7, xXR8⟩ := XR.u9; have zXR0 := XR.frozen
    refine Jo.jnext (i := 7) (o := ⟨none, _, _, _, _, _⟩) (by kernel_rfl) rfl (fun K hK => ?_)
    go_simp; refine hK.out _ _ ?_; clear hK K xXR0 zXR0 xXR1 xXR2 xXR3 xXR4 xXR5 xXR6 xXR7 xXR8; have SX := StN.mk9 XR (.bool e4) (.int .i64 K4) (.bool s4) (.int .u64 M4) (.int .i64 E4) (.int .i64 K4b) (.bool s4b) (.int .u64 M4b) (.int .i64 E4b); refine Jo.jdone (by kernel_rfl) ?_; go_wp2; exact bodyPost_ret (by simp [results, Tryz.results16, go_sem, SX.box.cell]) rfl ⟨_, _, _, _, _, _, _, _, _, rfl, v4, (SX.below HB.out (by omega))⟩
end Go.Proofs.YteejbcimmmcnlaaGreatDoor

/-
  Quotients, roots, ratios of numbers by the document's way: what they are by worth alone. Plain arithmetic; no Go text.
-/
namespace Go.Proofs.YteejbcimmmcnlaaGreatDoor
open Go.RowKit
set_option linter.unusedVariables false

theorem rnd_sgi {σ up : Bool} {z e : Int} : rnd up (mk (sgi σ z) e).1 (mk (sgi σ z) e).2 = sgi σ (rnd (up != σ) (mk z e).1 (mk z e).2) := by
  cases σ
  · rw [wsg_f, wsg_f]
    cases up <;> rfl
  · rw [wsg_t, wsg_t, mk_neg]; have h := rnd_turn (mk_nf z e) (!up); rw [Bool.not_not] at h; rw [h]
    cases up <;> rfl
theorem Sid.cross {up : Bool} {A B C D r : Int} (hB : 0 < B) (hD : 0 < D) (h : Sid up A B r) (e : A * D = C * B) : Sid up C D r := by
  obtain ⟨t, ht⟩ := sid_ex up C hD; have a := h.mono hB hD ht (Int.le_of_eq e); have b := ht.mono hD hB h (Int.le_of_eq e.symm)
  have c : r = t := by omega
  rw [c]; exact ht
/-- The place of a ratio of whole numbers. -/
def Rq (up : Bool) (z y r : Int) : Prop := if y = 0 then r = sgi (!up) TP else Sid up (sgi (decide (y < 0)) z * 2 ^ KK) (sgi (decide (y < 0)) y) r
theorem rq_some {up : Bool} {z y r : Int} (hy : y ≠ 0) : Rq up z y r ↔ Sid up (sgi (decide (y < 0)) z * 2 ^ KK) (sgi (decide (y < 0)) y) r := by
  unfold Rq
  rw [if_neg hy]
theorem Rq.mono {up : Bool} {z y z' y' r t : Int} (hy : 0 < y) (hy' : 0 < y') (h : Rq up z y r) (k : Rq up z' y' t) (hle : z * y' ≤ z' * y) : r ≤ t := by
  have a := (rq_some (by omega)).1 h; have b := (rq_some (by omega)).1 k; rw [decide_eq_false (by omega), wsg_f, wsg_f] at a b; refine a.mono hy hy' b ?_
  have := Int.mul_le_mul_of_nonneg_right hle (Int.le_of_lt (p2pos KK))
  rw [Int.mul_right_comm z, Int.mul_right_comm z']; exact this
/-- The quotient of two finite numbers. -/
theorem div_side {up s t : Bool} {M1 E1 M2 E2 x y : Int} {α β v w : Nat} {r : Int} (q1 : Fq 1 s M1 E1 x) (q2 : Fq 1 t M2 E2 y) (hM1 : M1 = (α : Int) * 2 ^ v) (hM2 : M2 = (β : Int) * 2 ^ w) (hβ : 0 < β) (hv : v < 64) (hw : w < 64)
    (h : Sid up (sgi (s != t) ((α : Int) * 2 ^ (E1 - E2 + v - w + (KK : Int)).toNat)) (β : Int) r) : Qt up x y r := by
  obtain ⟨a1, a2, a3, a4, a5, a6, a7, a8, a9⟩ := fq_vr q1; obtain ⟨b1, b2, b3, b4, b5, b6, b7, b8, b9⟩ := fq_vr q2; have hk := KK_eq; have ix := infp_fin a5 a6; have iy := infp_fin b5 b6
  refine (qt_fin b7 (by rw [iy]; rintro (c | c); exact a7 c; cases c) ix).2 ?_
  rw [b9, a8, b8, sgi_sgi]
  have hB : (0 : Int) < M2 * 2 ^ (E2 + KK).toNat := Int.mul_pos (by omega) (p2pos _)
  refine h.cross (by omega) hB ?_
  have e1 : sgi t (sgi s (M1 * 2 ^ (E1 + (KK : Int)).toNat)) = sgi (s != t) (M1 * 2 ^ (E1 + (KK : Int)).toNat) := by
    cases s <;> cases t
    · rfl
    · rfl
    · rfl
    · rw [show (true != true) = false from rfl, wsg_f, wsg_t, wsg_t, Int.neg_neg]
  rw [e1, sgi_mul, sgi_mul, sgi_mul]
  congr 1
  rw [hM1, hM2]
  have p1 : (2 : Int) ^ (E1 - E2 + v - w + (KK : Int)).toNat * (2 ^ w * 2 ^ (E2 + (KK : Int)).toNat) = 2 ^ v * 2 ^ (E1 + (KK : Int)).toNat * 2 ^ KK := by
    rw [← Int.pow_add, ← Int.pow_add, ← Int.pow_add, ← Int.pow_add]
    congr 1
    omega
  have four : ∀ α β a b c d e f : Int, a * (b * c) = d * e * f → α * a * (β * b * c) = α * d * e * f * β := fun α β a b c d e f h => by
    have h1 : α * a * (β * b * c) = α * β * (a * (b * c)) := by
      rw [Int.mul_assoc β b c, Int.mul_assoc α a, ← Int.mul_assoc a β, Int.mul_comm a β, Int.mul_assoc β a, ← Int.mul_assoc α β]
    have h2 : α * d * e * f * β = α * β * (d * e * f) := by
      rw [Int.mul_assoc α d e, Int.mul_assoc α (d * e) f, Int.mul_right_comm α]
    rw [h1, h2, h]
  exact four _ _ _ _ _ _ _ _ p1
/-- The root of a number above nought. -/
theorem root_fin {up : Bool} {M E x : Int} {α v : Nat} {r : Int} (q : Fq 1 false M E x) (hM : M = (α : Int) * 2 ^ v) (hv : v < 64) (h : Rt up ((α : Int) * 2 ^ (E + v + 2 * (KK : Int)).toNat) r) : Rt up (vr x * 2 ^ KK) r := by
  obtain ⟨a1, a2, a3, a4, a5, a6, a7, a8, a9⟩ := fq_vr q; have hk := KK_eq
  have e : vr x * 2 ^ KK = (α : Int) * 2 ^ (E + v + 2 * (KK : Int)).toNat := by
    have ex : v + ((E + (KK : Int)).toNat + KK) = (E + v + 2 * (KK : Int)).toNat := by omega
    rw [a8, wsg_f, hM, Int.mul_assoc, Int.mul_assoc, ← Int.pow_add, ← Int.pow_add, ex]
  rw [e]; exact h
end Go.Proofs.YteejbcimmmcnlaaGreatDoor
