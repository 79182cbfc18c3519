/-
 Contracts that the proof rests on.
-/
import Derived.Test.YtmmallhniijdfaaGreatDoorYAbd
import Derived.Test.YtmmallhniijdfaaGreatDoorYAbe
namespace Go.Proofs.YtmmallhniijdfaaGreatDoor
open Go.RowKit
set_option linter.unusedVariables false
set_option linter.unusedSimpArgs false
set_option maxRecDepth 100000
def AInv (w : World) (n : Int) (R : Int × Nat) (gp go gb gs : Nat) (s7 : Bool) (A7 : Option Addr) (n7 c7 k gt : Nat) (wr : World) : Prop := ∃ (s p T : Int) (s4 : Bool) (A4 : Option Addr) (n4 c4 : Nat) (s5 : Bool) (A5 : Option Addr) (n5 c5 : Nat) (s6 : Bool) (A6 : Option Addr) (n6 c6 : Nat),
 Bo wr w.heap.size #[.bool false, .slice none 0 0] 25 ∧ Bo wr gs #[.bool s4, .slice A4 n4 c4] 25 ∧ Bo wr gt #[.bool s5, .slice A5 n5 c5] 25 ∧ Bo wr gp #[.bool s6, .slice A6 n6 c6] 25 ∧ Bo wr go #[.int .i64 (2 * (k : Int) + 3)] 3 ∧ Bo wr gb #[.bool s7, .slice A7 n7 c7] 25 ∧
 Wn wr s4 A4 n4 c4 s ∧ Wn wr s5 A5 n5 c5 T ∧ Wn wr s6 A6 n6 c6 (p * (n * n)) ∧ Wn wr s7 A7 n7 c7 n ∧ n4 ≤ 1000 * k ∧ n5 ≤ 8 ∧ n6 ≤ 10 ∧ k ≤ 100 ∧ w.heap.size < gt ∧ gs ≠ gt ∧ (2 : Int) ^ (2 * k + 1) ≤ p ∧ p ≤ SC * 1000000 ∧ invG n (200 - k) k s p = R ∧ SC.fdiv (p * (2 * (k : Int) + 1)) = T ∧ Duo gp go w wr
def PAl (w : World) (gp go : Nat) (R : Int × Nat) (e : Ending) (w' : World) : Prop := ∃ s A m c, e = .returned (.tuple #[.agg #[.bool s, .slice A m c], .int .i64 (R.2 : Int)]) ∧ Wn w' s A m c R.1 ∧ m ≤ 200000 ∧ R.2 ≤ 100 ∧ Duo gp go w w'
theorem pow_pos2 {k : Nat} {p : Int} (h : (2 : Int) ^ (2 * k + 1) ≤ p) : 0 < p := Int.lt_of_lt_of_le (Int.pow_pos (by decide)) h
theorem next_bd {p n T : Int} {k : Nat} (hp : (2 : Int) ^ (2 * k + 1) ≤ p) (hT : SC.fdiv (p * (2 * (k : Int) + 1)) = T) (h1 : 2 ≤ n) (h2 : n ≤ 1000) (hc : T ≠ 0) : p * (n * n) ≤ SC * 1000000 := by
 have a := pow_pos2 hp; have b := term_le a hT hc
 have d : n * n ≤ 1000 * 1000 := Int.mul_le_mul h2 h2 (by omega) (by decide)
 exact Int.mul_le_mul b (by omega) (Int.mul_nonneg (by omega) (by omega)) (by decide)
theorem sum_step {R : Int × Nat} {n p s T : Int} {k f : Nat} (h : invG n f (k + 1) (if k % 2 = 1 then s + -T else s + T) p = R) : (k % 2 = 1 → invG n f (k + 1) (s - T) p = R) ∧ (¬ k % 2 = 1 → invG n f (k + 1) (s + T) p = R) := by
 constructor <;> intro c
 · rw [if_pos c] at h; exact h
 · rw [if_neg c] at h; exact h
set_option maxHeartbeats 8000000 in
theorem cAlt {w : World} {gp go gb : Nat} {s6 s7 : Bool} {A6 A7 : Option Addr} {n6 c6 n7 c7 : Nat} {n : Int} {R : Int × Nat} (XP : Bo w gp #[.bool s6, .slice A6 n6 c6] 25) (XO : Bo w go #[.int .i64 1] 3) (XB : Bo w gb #[.bool s7, .slice A7 n7 c7] 25) (p6 : Wn w s6 A6 n6 c6 n) (p7 : Wn w s7 A7 n7 c7 n) (k6 : n6 ≤ 2) (k7 : n7 ≤ 2) (hpo : gp ≠ go) (hpb : gp ≠ gb) (hob : go ≠ gb) (h1 : 2 ≤ n) (h2 : n ≤ 1000) (hR : invG n 200 0 0 n = R) :
   Calls Tryz.prog 20 #[.func (.func 60) #[] #[.pointer (some ⟨gp, 0, none⟩), .pointer (some ⟨go, 0, none⟩), .pointer (some ⟨gb, 0, none⟩)]] w (PAl w gp go R) := by
 have HR := Lib.hid hR; have G1 := XP.lt; have G2 := XO.lt; have G3 := XB.lt; obtain ⟨T0, hn0⟩ : ∃ T0, SC.fdiv (n * (2 * ((0 : Nat) : Int) + 1)) = T0 := ⟨_, rfl⟩; have HN0 := Lib.hid hn0; clear hn0; clear hR
 go_enter Tryz.func20, Tryz.ntmps20
 go_upto_region 1 with (fail)
 have XR := Bo.newAt w (g := w.heap.size) rfl #[.bool false, .slice none 0 0] 25
 have HB : Hid (Duo gp go w (World.alloc w (.cells #[.bool false, .slice none 0 0] 25))) := Lib.hid (.of (bel1 w (.cells #[.bool false, .slice none 0 0] 25)))
 replace XP := XP.below (bel1 w (.cells #[.bool false, .slice none 0 0] 25)); replace XO := XO.below (bel1 w (.cells #[.bool false, .slice none 0 0] 25)); replace XB := XB.below (bel1 w (.cells #[.bool false, .slice none 0 0] 25)); replace p6 := p6.below (bel1 w (.cells #[.bool false, .slice none 0 0] 25)); replace p7 := p7.below (bel1 w (.cells #[.bool false, .slice none 0 0] 25)); generalize hW1 : World.alloc w (.cells #[.bool false, .slice none 0 0] 25) = w1 at *
 clear hW1
 go_upto_region 2 with (fail)
 have lX4 := Nat.le_refl (World.heap w1).size; have nX4XP := XP.lt; have nX4XO := XO.lt; have nX4XB := XB.lt; have nX4XR := XR.lt; generalize hWn : w1.alloc _ = w2 at *; obtain ⟨X4, BW⟩ := Bo.nw hWn; clear hWn; replace XP := XP.below BW; replace XO := XO.below BW; replace XB := XB.below BW; replace XR := XR.below BW; replace p6 := p6.below BW; replace p7 := p7.below BW; replace HB := Lib.hid (HB.out.mv BW)
 clear BW; clear lX4; have ltXP := XP.lt; have ltXO := XO.lt; have ltXB := XB.lt; have ltXR := XR.lt; have ltX4 := X4.lt
 have gS : w.heap.size < w1.heap.size := nX4XR
 have gO : go < w1.heap.size := nX4XO
 have gP : gp < w1.heap.size := nX4XP
 have gB : gb < w1.heap.size := nX4XB
 clear nX4XR nX4XO nX4XP nX4XB ltXR ltXO ltXP ltXB; generalize w1.heap.size = gs at *
 have XO1 : Bo w2 go #[.int .i64 (2 * ((0 : Nat) : Int) + 1)] 3 := XO
 clear XO; have XO := XO1; clear XO1; have hsz := HB.out.size
 go_wp2_with fail
 refine (cNext (k := 0) XP XO XB p6 p7 (by omega) k7 hpo hpb hob (by decide) (by omega) (Int.le_trans h2 (by decide)) h1 h2 HN0.out).mono ?_; rintro ee w3 ⟨s15, A15, n15, c15, s16, A16, n16, c16, rfl, p15, k15, YP, p16, k16, YO, B⟩; replace XB := XB.duo B (by omega) (by omega); replace XR := XR.duo B (by omega) (by omega); replace X4 := X4.duo B (by omega) (by omega); replace p6 := p6.duo XP XO (by simp [no32]) (by simp [no32]) B
 replace p7 := p7.duo XP XO (by simp [no32]) (by simp [no32]) B; replace HB := Lib.hid (HB.out.trans B); have hszB := B.size; clear B p6 XP XO; have XP := YP; have XO := YO; clear YP YO
 go_upto_region 3 with (fail)
 have lX5 := Nat.le_refl (World.heap w3).size; have nX5XP := XP.lt; have nX5XO := XO.lt; have nX5XB := XB.lt; have nX5XR := XR.lt; have nX5X4 := X4.lt; generalize hWn : w3.alloc _ = w4 at *; obtain ⟨X5, BW⟩ := Bo.nw hWn; clear hWn; replace XP := XP.below BW; replace XO := XO.below BW; replace XB := XB.below BW; replace XR := XR.below BW; replace X4 := X4.below BW; replace p7 := p7.below BW; replace p15 := p15.below BW
 replace p16 := p16.below BW; replace HB := Lib.hid (HB.out.mv BW); clear BW; clear lX5 nX5XR nX5XP nX5XO nX5XB
 have hI0 : AInv w n R gp go gb gs s7 A7 n7 c7 0 w3.heap.size w4 := ⟨0, n, _, _, _, _, _, _, _, _, _, _, _, _, _, XR, X4, X5, XP, XO, XB, ⟨Nm.zero, rfl⟩, p15, p16, p7, Nat.zero_le _, k15, k16, by decide, by omega, by omega, by simpa using h1, Int.le_trans h2 (by decide), HR.out, HN0.out, HB.out⟩
 have HI0 := Lib.hid hI0; clear hI0 XR X4 X5 XP XO XB p7 p15 p16 HB HR HN0; go_wp2
 go_loopw [5, 6] (fun i pt wr => ∃ k gt : Nat, i = .int .i64 k ∧ pt = .pointer (some ⟨gt, 0, none⟩) ∧ AInv w n R gp go gb gs s7 A7 n7 c7 k gt wr) (fun i _ _ => 200 - (intOf i).toNat)
 case atStart => exact ⟨0, _, rfl, rfl, HI0.out⟩
 case round =>
   obtain ⟨k, gt, rfl, rfl, s, p, T, s4, A4, n4, c4, s5, A5, n5, c5, s6, A6, n6, c6, XR, X4, X5, XP, XO, XB, p4, p5, p6, p7, k4, k5, k6, hk, hgt, hst, hp, hpS, hG, hT, hB⟩ := hrel; have HB := Lib.hid hB; obtain ⟨T', hT', hd0, hT0, hz, hnz⟩ := inv_step h1 hk hp hG
   obtain rfl : T' = T := hT'.symm.trans hT
   have HT := Lib.hid hT; have HZ := Lib.hid hz; have HNZ := Lib.hid hnz
   have HNB : Hid (T' ≠ 0 → p * (n * n) ≤ SC * 1000000) := Lib.hid (fun hc => next_bd hp hT h1 h2 hc)
   clear hB HI0 hG hT hT' hz hnz hd0; have hsz := HB.out.size; have ltXP := XP.lt; have ltXO := XO.lt; have ltXB := XB.lt; have ltXR := XR.lt; have ltX4 := X4.lt; have ltX5 := X5.lt
   by_cases hc : T' = 0
   · have HS : Hid (cmpI T' 0 = 0) := Lib.hid (by rw [hc]; decide)
     have hsk := HZ.out hc; subst hsk; clear HZ HNZ HNB hp hpS; have xX5 := X5.cell
     go_wp2_with fail
     refine (wSign p5.wr HS.out).mono ?_; rintro ee w5 ⟨rfl, B⟩; clear xX5; replace XP := XP.below B; replace XO := XO.below B; replace XB := XB.below B; replace XR := XR.below B; replace X4 := X4.below B; replace X5 := X5.below B; replace p4 := p4.below B; replace p5 := p5.below B; replace p6 := p6.below B; replace p7 := p7.below B; replace HB := Lib.hid (HB.out.mv B); clear B; clear p5 p6 p7
     clear X5 XP XO XB; have xX4 := X4.cell; have xXR := XR.cell; have zXR0 := XR.frozen; go_wp2; clear xX4 xXR zXR0; generalize hS : (w5.setCell _ _).setCell _ _ = w6 at *; have SX := StN.of2 XR hS; replace X4 := X4.stn SX (by omega); replace p4 := p4.stn SX (by simp [no32]); replace HB := Lib.hid (HB.out.stn SX (by omega)); replace XR := SX.box; clear SX hS; exact bodyPost_ret (v := .tuple #[.agg #[.bool s4, .slice A4 n4 c4], .int .i64 (k : Int)]) (by simp [results, Tryz.results20, go_sem, XR.cell]) rfl ⟨s4, A4, n4, c4, rfl, p4, by omega, hk, HB.out⟩
   · have HS : Hid (cmpI T' 0 = 1) := Lib.hid (cmpI_gt (by omega))
     obtain ⟨hk1, hp1, hG1⟩ := HNZ.out hc; have HP1 := Lib.hid hp1; have HP2 := Lib.hid (HNB.out hc); obtain ⟨ho, he⟩ := sum_step hG1; have HO := Lib.hid ho; have HE := Lib.hid he
     have HW4 : Hid (IntKind.i64.wrap ((k : Int) + 1) = (k : Int) + 1) := Lib.hid (IntWalk.i64_in _ (by omega))
     have HW5 : Hid (wrap64 ((k : Int) + 1) = (k : Int) + 1) := Lib.hid (IntWalk.wrap64_in _ (by omega))
     clear HZ HNZ HNB hp1 hG1 hT0 ho he hp hpS; have xX5 := X5.cell
     go_wp2_with fail
     refine (wSign p5.wr HS.out).mono ?_; rintro ee w5 ⟨rfl, B⟩; clear xX5; replace XP := XP.below B; replace XO := XO.below B; replace XB := XB.below B; replace XR := XR.below B; replace X4 := X4.below B; replace X5 := X5.below B; replace p4 := p4.below B; replace p5 := p5.below B; replace p6 := p6.below B; replace p7 := p7.below B; replace HB := Lib.hid (HB.out.mv B); clear B
     by_cases hodd : k % 2 = 1
     · have HF := Lib.hid (HO.out hodd); clear HO HE
       have t9 : (Int.tmod (k : Int) 2 == 0) = false := by
         rw [show Int.tmod (k : Int) 2 = 1 by rw [Int.tmod_eq_emod_of_nonneg (by omega)]; omega]
         rfl
       have xX4 := X4.cell; have xX5 := X5.cell
       go_wp2_with fail
       refine (wSub p4.wr p5.wr (by omega) (by omega) rfl).mono ?_; rintro ee w6 ⟨s24, A24, n24, c24, rfl, p24, k24, B⟩; clear xX4 xX5; replace XP := XP.below B; replace XO := XO.below B; replace XB := XB.below B; replace XR := XR.below B; replace X4 := X4.below B; replace X5 := X5.below B; replace p4 := p4.below B; replace p5 := p5.below B; replace p6 := p6.below B; replace p7 := p7.below B
       replace HB := Lib.hid (HB.out.mv B); clear B; clear p4 t9 hodd; have xX4 := X4.cell; have zX40 := X4.frozen
       go_upto_region 9 with (fail)
       clear xX4 zX40; generalize hS : (w6.setCell _ _).setCell _ _ = w7 at *; have SX := StN.of2 X4 hS; replace XP := XP.stn SX (by omega); replace XO := XO.stn SX (by omega); replace XB := XB.stn SX (by omega); replace XR := XR.stn SX (by omega); replace X5 := X5.stn SX (by omega); replace p5 := p5.stn SX (by simp [no32]); replace p6 := p6.stn SX (by simp [no32]); replace p7 := p7.stn SX (by simp [no32])
       replace p24 := p24.stn SX (by simp [no32]); replace HB := Lib.hid (HB.out.stn SX (by omega)); replace X4 := SX.box; clear SX hS; have hw4 := HW4.out; have hw5 := HW5.out; have xX5 := X5.cell
       go_upto_region 4 with (fail)
       clear xX5; clear hw4 hw5 X5; have lX7 := Nat.le_refl (World.heap w7).size; have nX7XP := XP.lt; have nX7XO := XO.lt; have nX7XB := XB.lt; have nX7XR := XR.lt; have nX7X4 := X4.lt; generalize hWn : w7.alloc _ = w7a at *; obtain ⟨X7, BW⟩ := Bo.nw hWn; clear hWn; replace XP := XP.below BW; replace XO := XO.below BW; replace XB := XB.below BW; replace XR := XR.below BW; replace X4 := X4.below BW
       replace p5 := p5.below BW; replace p6 := p6.below BW; replace p7 := p7.below BW; replace p24 := p24.below BW; replace HB := Lib.hid (HB.out.mv BW); clear BW; clear lX7; have ltXP := XP.lt; have ltXO := XO.lt; have ltXB := XB.lt; have ltXR := XR.lt; have ltX4 := X4.lt; have ltX7 := X7.lt; have hsz7 := HB.out.size
       have g7 : gs < w7.heap.size := nX7X4
       have g7p : gp < w7.heap.size := nX7XP
       have g7o : go < w7.heap.size := nX7XO
       have g7b : gb < w7.heap.size := nX7XB
       have g7r : w.heap.size < w7.heap.size := nX7XR
       clear p5
       have XO1 : Bo w7a go #[.int .i64 (2 * ((k + 1 : Nat) : Int) + 1)] 3 := by
         rw [show 2 * ((k + 1 : Nat) : Int) + 1 = 2 * (k : Int) + 3 by omega]
         exact XO
       clear XO; have XO := XO1; clear XO1; obtain ⟨T2, hT2⟩ : ∃ T2, SC.fdiv (p * (n * n) * (2 * ((k + 1 : Nat) : Int) + 1)) = T2 := ⟨_, rfl⟩
       go_wp2_with fail
       refine (cNext (k := k + 1) XP XO XB p6 p7 k6 k7 hpo hpb hob (by omega) (pow_pos2 HP1.out) HP2.out h1 h2 hT2).mono ?_; rintro ee w7b ⟨s15, A15, n15, c15, s16, A16, n16, c16, rfl, p15, k15, YP, p16, k16, YO, B⟩; replace XB := XB.duo B (by omega) (by omega); replace XR := XR.duo B (by omega) (by omega); replace X4 := X4.duo B (by omega) (by omega); replace X7 := X7.duo B (by omega) (by omega)
       replace p24 := p24.duo XP XO (by simp [no32]) (by simp [no32]) B; replace p6 := p6.duo XP XO (by simp [no32]) (by simp [no32]) B; replace p7 := p7.duo XP XO (by simp [no32]) (by simp [no32]) B; replace HB := Lib.hid (HB.out.trans B); have hszB := B.size; clear B p6 XP XO; have XP := YP; have XO := YO; clear YP YO; have xX7 := X7.cell; have zX70 := X7.frozen; go_wp2; clear xX7 zX70
       generalize hS : (w7b.setCell _ _).setCell _ _ = w7c at *; have SX := StN.of2 X7 hS; replace XP := XP.stn SX (by omega); replace XO := XO.stn SX (by omega); replace XB := XB.stn SX (by omega); replace XR := XR.stn SX (by omega); replace X4 := X4.stn SX (by omega); replace p24 := p24.stn SX (by simp [no32]); replace p7 := p7.stn SX (by simp [no32]); replace p15 := p15.stn SX (by simp [no32])
       replace p16 := p16.stn SX (by simp [no32]); replace HB := Lib.hid (HB.out.stn SX (by omega)); replace X7 := SX.box; clear SX hS
       go_roundw
       case rel => exact ⟨k + 1, w7.heap.size, by go_num, rfl, _, _, _, _, _, _, _, _, _, _, _, _, _, _, _, XR, X4, X7, XP, XO, XB, p24, p15, p16, p7, by omega, k15, k16, hk1, by omega, by omega, HP1.out, HP2.out, HF.out, hT2, HB.out⟩
       case measure => simp [intOf]; omega
     · have HF := Lib.hid (HE.out hodd); clear HO HE
       have t9 : (Int.tmod (k : Int) 2 == 0) = true := by
         rw [show Int.tmod (k : Int) 2 = 0 by rw [Int.tmod_eq_emod_of_nonneg (by omega)]; omega]
         rfl
       have xX4 := X4.cell; have xX5 := X5.cell
       go_wp2_with fail
       refine (wAdd p4.wr p5.wr (by omega) (by omega) rfl).mono ?_; rintro ee w6 ⟨s24, A24, n24, c24, rfl, p24, k24, B⟩; clear xX4 xX5; replace XP := XP.below B; replace XO := XO.below B; replace XB := XB.below B; replace XR := XR.below B; replace X4 := X4.below B; replace X5 := X5.below B; replace p4 := p4.below B; replace p5 := p5.below B; replace p6 := p6.below B; replace p7 := p7.below B
       replace HB := Lib.hid (HB.out.mv B); clear B; clear p4 t9 hodd; have xX4 := X4.cell; have zX40 := X4.frozen
       go_upto_region 9 with (fail)
       clear xX4 zX40; generalize hS : (w6.setCell _ _).setCell _ _ = w7 at *; have SX := StN.of2 X4 hS; replace XP := XP.stn SX (by omega); replace XO := XO.stn SX (by omega); replace XB := XB.stn SX (by omega); replace XR := XR.stn SX (by omega); replace X5 := X5.stn SX (by omega); replace p5 := p5.stn SX (by simp [no32]); replace p6 := p6.stn SX (by simp [no32]); replace p7 := p7.stn SX (by simp [no32])
       replace p24 := p24.stn SX (by simp [no32]); replace HB := Lib.hid (HB.out.stn SX (by omega)); replace X4 := SX.box; clear SX hS; have hw4 := HW4.out; have hw5 := HW5.out; have xX5 := X5.cell
       go_upto_region 4 with (fail)
       clear xX5; clear hw4 hw5 X5; have lX7 := Nat.le_refl (World.heap w7).size; have nX7XP := XP.lt; have nX7XO := XO.lt; have nX7XB := XB.lt; have nX7XR := XR.lt; have nX7X4 := X4.lt; generalize hWn : w7.alloc _ = w7a at *; obtain ⟨X7, BW⟩ := Bo.nw hWn; clear hWn; replace XP := XP.below BW; replace XO := XO.below BW; replace XB := XB.below BW; replace XR := XR.below BW; replace X4 := X4.below BW
       replace p5 := p5.below BW; replace p6 := p6.below BW; replace p7 := p7.below BW; replace p24 := p24.below BW; replace HB := Lib.hid (HB.out.mv BW); clear BW; clear lX7; have ltXP := XP.lt; have ltXO := XO.lt; have ltXB := XB.lt; have ltXR := XR.lt; have ltX4 := X4.lt; have ltX7 := X7.lt; have hsz7 := HB.out.size
       have g7 : gs < w7.heap.size := nX7X4
       have g7p : gp < w7.heap.size := nX7XP
       have g7o : go < w7.heap.size := nX7XO
       have g7b : gb < w7.heap.size := nX7XB
       have g7r : w.heap.size < w7.heap.size := nX7XR
       clear p5
       have XO1 : Bo w7a go #[.int .i64 (2 * ((k + 1 : Nat) : Int) + 1)] 3 := by
         rw [show 2 * ((k + 1 : Nat) : Int) + 1 = 2 * (k : Int) + 3 by omega]
         exact XO
       clear XO; have XO := XO1; clear XO1; obtain ⟨T2, hT2⟩ : ∃ T2, SC.fdiv (p * (n * n) * (2 * ((k + 1 : Nat) : Int) + 1)) = T2 := ⟨_, rfl⟩
       go_wp2_with fail
       refine (cNext (k := k + 1) XP XO XB p6 p7 k6 k7 hpo hpb hob (by omega) (pow_pos2 HP1.out) HP2.out h1 h2 hT2).mono ?_; rintro ee w7b ⟨s15, A15, n15, c15, s16, A16, n16, c16, rfl, p15, k15, YP, p16, k16, YO, B⟩; replace XB := XB.duo B (by omega) (by omega); replace XR := XR.duo B (by omega) (by omega); replace X4 := X4.duo B (by omega) (by omega); replace X7 := X7.duo B (by omega) (by omega)
       replace p24 := p24.duo XP XO (by simp [no32]) (by simp [no32]) B; replace p6 := p6.duo XP XO (by simp [no32]) (by simp [no32]) B; replace p7 := p7.duo XP XO (by simp [no32]) (by simp [no32]) B; replace HB := Lib.hid (HB.out.trans B); have hszB := B.size; clear B p6 XP XO; have XP := YP; have XO := YO; clear YP YO; have xX7 := X7.cell; have zX70 := X7.frozen; go_wp2; clear xX7 zX70
       generalize hS : (w7b.setCell _ _).setCell _ _ = w7c at *; have SX := StN.of2 X7 hS; replace XP := XP.stn SX (by omega); replace XO := XO.stn SX (by omega); replace XB := XB.stn SX (by omega); replace XR := XR.stn SX (by omega); replace X4 := X4.stn SX (by omega); replace p24 := p24.stn SX (by simp [no32]); replace p7 := p7.stn SX (by simp [no32]); replace p15 := p15.stn SX (by simp [no32])
       replace p16 := p16.stn SX (by simp [no32]); replace HB := Lib.hid (HB.out.stn SX (by omega)); replace X7 := SX.box; clear SX hS
       go_roundw
       case rel => exact ⟨k + 1, w7.heap.size, by go_num, rfl, _, _, _, _, _, _, _, _, _, _, _, _, _, _, _, XR, X4, X7, XP, XO, XB, p24, p15, p16, p7, by omega, k15, k16, hk1, by omega, by omega, HP1.out, HP2.out, HF.out, hT2, HB.out⟩
       case measure => simp [intOf]; omega
theorem StN.trans {w w' w'' : World} {g : Nat} {a b c : Array Value} {T : TypeId} (h : StN w w' g a b T) (k : StN w' w'' g b c T) : StN w w'' g a c T :=
 ⟨h.1, k.2.1, fun j hj => (k.2.2.1 j hj).trans (h.2.2.1 j hj), fun B x hB hb => k.2.2.2 B x hB (h.2.2.2 B x hB hb)⟩
theorem StN.mk9 {w : World} {g : Nat} {T : TypeId} {a0 a1 a2 a3 a4 a5 a6 a7 a8 : Value} (X : Bo w g #[a0, a1, a2, a3, a4, a5, a6, a7, a8] T) (v0 v1 v2 v3 v4 v5 v6 v7 v8 : Value) :
   StN w (((((((((w.setCell ⟨g, 0, none⟩ v0).setCell ⟨g, 1, none⟩ v1).setCell ⟨g, 2, none⟩ v2).setCell ⟨g, 3, none⟩ v3).setCell ⟨g, 4, none⟩ v4).setCell ⟨g, 5, none⟩ v5).setCell ⟨g, 6, none⟩ v6).setCell ⟨g, 7, none⟩ v7).setCell ⟨g, 8, none⟩ v8) g #[a0, a1, a2, a3, a4, a5, a6, a7, a8] #[v0, v1, v2, v3, v4, v5, v6, v7, v8] T := by
 have t0 : StN w (w.setCell ⟨g, 0, none⟩ v0) g #[a0, a1, a2, a3, a4, a5, a6, a7, a8] #[v0, a1, a2, a3, a4, a5, a6, a7, a8] T := StN.at4 X 0 v0
 have s0 := t0
 have t1 : StN (w.setCell ⟨g, 0, none⟩ v0) ((w.setCell ⟨g, 0, none⟩ v0).setCell ⟨g, 1, none⟩ v1) g #[v0, a1, a2, a3, a4, a5, a6, a7, a8] #[v0, v1, a2, a3, a4, a5, a6, a7, a8] T := StN.at4 s0.box 1 v1
 have s1 := s0.trans t1
 have t2 : StN ((w.setCell ⟨g, 0, none⟩ v0).setCell ⟨g, 1, none⟩ v1) (((w.setCell ⟨g, 0, none⟩ v0).setCell ⟨g, 1, none⟩ v1).setCell ⟨g, 2, none⟩ v2) g #[v0, v1, a2, a3, a4, a5, a6, a7, a8] #[v0, v1, v2, a3, a4, a5, a6, a7, a8] T := StN.at4 s1.box 2 v2
 have s2 := s1.trans t2
 have t3 : StN (((w.setCell ⟨g, 0, none⟩ v0).setCell ⟨g, 1, none⟩ v1).setCell ⟨g, 2, none⟩ v2) ((((w.setCell ⟨g, 0, none⟩ v0).setCell ⟨g, 1, none⟩ v1).setCell ⟨g, 2, none⟩ v2).setCell ⟨g, 3, none⟩ v3) g #[v0, v1, v2, a3, a4, a5, a6, a7, a8] #[v0, v1, v2, v3, a4, a5, a6, a7, a8] T := StN.at4 s2.box 3 v3
 have s3 := s2.trans t3
 have t4 : StN ((((w.setCell ⟨g, 0, none⟩ v0).setCell ⟨g, 1, none⟩ v1).setCell ⟨g, 2, none⟩ v2).setCell ⟨g, 3, none⟩ v3) (((((w.setCell ⟨g, 0, none⟩ v0).setCell ⟨g, 1, none⟩ v1).setCell ⟨g, 2, none⟩ v2).setCell ⟨g, 3, none⟩ v3).setCell ⟨g, 4, none⟩ v4) g #[v0, v1, v2, v3, a4, a5, a6, a7, a8] #[v0, v1, v2, v3, v4, a5, a6, a7, a8] T := StN.at4 s3.box 4 v4
 have s4 := s3.trans t4
 have t5 : StN (((((w.setCell ⟨g, 0, none⟩ v0).setCell ⟨g, 1, none⟩ v1).setCell ⟨g, 2, none⟩ v2).setCell ⟨g, 3, none⟩ v3).setCell ⟨g, 4, none⟩ v4) ((((((w.setCell ⟨g, 0, none⟩ v0).setCell ⟨g, 1, none⟩ v1).setCell ⟨g, 2, none⟩ v2).setCell ⟨g, 3, none⟩ v3).setCell ⟨g, 4, none⟩ v4).setCell ⟨g, 5, none⟩ v5) g #[v0, v1, v2, v3, v4, a5, a6, a7, a8] #[v0, v1, v2, v3, v4, v5, a6, a7, a8] T := StN.at4 s4.box 5 v5
 have s5 := s4.trans t5
 have t6 : StN ((((((w.setCell ⟨g, 0, none⟩ v0).setCell ⟨g, 1, none⟩ v1).setCell ⟨g, 2, none⟩ v2).setCell ⟨g, 3, none⟩ v3).setCell ⟨g, 4, none⟩ v4).setCell ⟨g, 5, none⟩ v5) (((((((w.setCell ⟨g, 0, none⟩ v0).setCell ⟨g, 1, none⟩ v1).setCell ⟨g, 2, none⟩ v2).setCell ⟨g, 3, none⟩ v3).setCell ⟨g, 4, none⟩ v4).setCell ⟨g, 5, none⟩ v5).setCell ⟨g, 6, none⟩ v6) g #[v0, v1, v2, v3, v4, v5, a6, a7, a8] #[v0, v1, v2, v3, v4, v5, v6, a7, a8] T := StN.at4 s5.box 6 v6
 have s6 := s5.trans t6
 have t7 : StN (((((((w.setCell ⟨g, 0, none⟩ v0).setCell ⟨g, 1, none⟩ v1).setCell ⟨g, 2, none⟩ v2).setCell ⟨g, 3, none⟩ v3).setCell ⟨g, 4, none⟩ v4).setCell ⟨g, 5, none⟩ v5).setCell ⟨g, 6, none⟩ v6) ((((((((w.setCell ⟨g, 0, none⟩ v0).setCell ⟨g, 1, none⟩ v1).setCell ⟨g, 2, none⟩ v2).setCell ⟨g, 3, none⟩ v3).setCell ⟨g, 4, none⟩ v4).setCell ⟨g, 5, none⟩ v5).setCell ⟨g, 6, none⟩ v6).setCell ⟨g, 7, none⟩ v7) g #[v0, v1, v2, v3, v4, v5, v6, a7, a8] #[v0, v1, v2, v3, v4, v5, v6, v7, a8] T := StN.at4 s6.box 7 v7
 have s7 := s6.trans t7
 have t8 : StN ((((((((w.setCell ⟨g, 0, none⟩ v0).setCell ⟨g, 1, none⟩ v1).setCell ⟨g, 2, none⟩ v2).setCell ⟨g, 3, none⟩ v3).setCell ⟨g, 4, none⟩ v4).setCell ⟨g, 5, none⟩ v5).setCell ⟨g, 6, none⟩ v6).setCell ⟨g, 7, none⟩ v7) (((((((((w.setCell ⟨g, 0, none⟩ v0).setCell ⟨g, 1, none⟩ v1).setCell ⟨g, 2, none⟩ v2).setCell ⟨g, 3, none⟩ v3).setCell ⟨g, 4, none⟩ v4).setCell ⟨g, 5, none⟩ v5).setCell ⟨g, 6, none⟩ v6).setCell ⟨g, 7, none⟩ v7).setCell ⟨g, 8, none⟩ v8) g #[v0, v1, v2, v3, v4, v5, v6, v7, a8] #[v0, v1, v2, v3, v4, v5, v6, v7, v8] T := StN.at4 s7.box 8 v8
 have s8 := s7.trans t8; exact s8
def Ci (e : Bool) (K : Int) (s : Bool) (M E K' : Int) (s' : Bool) (M' E' : Int) : Sp → Prop
 | none => e = true ∧ Fq K s M E 0 ∧ Fq K' s' M' E' 0
 | some (a, b) => e = false ∧ Fq K s M E a ∧ Fq K' s' M' E' b ∧ a ≤ b ∧ a < 19342822337206103650074625 ∧ -19342822337206103650074625 < b
section
variable {e e2 : Bool} {K M E K' M' E' K2 M2 E2 K2' M2' E2' : Int} {s s' s2 s2' : Bool} {x y : Sp}
theorem Ci.top (h : Ci e K s M E K' s' M' E' x) : M < 18446744073709551616 ∧ M' < 18446744073709551616 := by
 rcases x with _ | ⟨a, b⟩
 · exact ⟨h.2.1.top, h.2.2.top⟩
 · exact ⟨h.2.1.top, h.2.2.1.top⟩
theorem Ci.uniq (h : Ci e K s M E K' s' M' E' x) (k : Ci e2 K2 s2 M2 E2 K2' s2' M2' E2' x) : e = e2 ∧ K = K2 ∧ s = s2 ∧ M = M2 ∧ E = E2 ∧ K' = K2' ∧ s' = s2' ∧ M' = M2' ∧ E' = E2' := by
 rcases x with _ | ⟨a, b⟩
 · obtain ⟨h1, q1, q2⟩ := h; obtain ⟨k1, p1, p2⟩ := k; obtain ⟨c1, c2, c3, c4⟩ := q1.uniq p1; obtain ⟨d1, d2, d3, d4⟩ := q2.uniq p2; exact ⟨h1.trans k1.symm, c1, c2, c3, c4, d1, d2, d3, d4⟩
 · obtain ⟨h1, q1, q2, _⟩ := h; obtain ⟨k1, p1, p2, _⟩ := k; obtain ⟨c1, c2, c3, c4⟩ := q1.uniq p1; obtain ⟨d1, d2, d3, d4⟩ := q2.uniq p2; exact ⟨h1.trans k1.symm, c1, c2, c3, c4, d1, d2, d3, d4⟩
end
theorem Ci.none : Ci true 0 false 0 0 0 false 0 0 none := ⟨rfl, Fq.nought, Fq.nought⟩
def rkI (e : Bool) (K : Int) (s : Bool) (M E K' : Int) (s' : Bool) (M' E' : Int) : Sp := if e = true then none else if MayQ K s M E ∧ MayQ K' s' M' E' then mkI (rk K s M E) (rk K' s' M' E') else none
def mayI (e : Bool) (K : Int) (s : Bool) (M E K' : Int) (s' : Bool) (M' E' : Int) : Bool := if e = true then (decide (K = 0 ∧ s = false ∧ M = 0 ∧ E = 0) && decide (K' = 0 ∧ s' = false ∧ M' = 0 ∧ E' = 0)) else decide (rkI e K s M E K' s' M' E' ≠ none)
section
variable {e : Bool} {K M E K' M' E' : Int} {s s' : Bool} {x : Sp}
theorem rkI_t : rkI true K s M E K' s' M' E' = none := if_pos rfl
theorem rkI_f : rkI false K s M E K' s' M' E' = if MayQ K s M E ∧ MayQ K' s' M' E' then mkI (rk K s M E) (rk K' s' M' E') else none := if_neg ff
theorem mayI_ci (hM : LQ M) (hM' : LQ M') (h : mayI e K s M E K' s' M' E' = true) : Ci e K s M E K' s' M' E' (rkI e K s M E K' s' M' E') := by
 unfold mayI at h
 cases e
 · rw [if_neg ff, decide_eq_true_iff] at h; rw [rkI_f] at h ⊢
   by_cases hq : MayQ K s M E ∧ MayQ K' s' M' E'
   · rw [if_pos hq] at h ⊢
     by_cases hc : rk K s M E ≤ rk K' s' M' E' ∧ rk K s M E < 19342822337206103650074625 ∧ -19342822337206103650074625 < rk K' s' M' E'
     · rw [mkI_some hc.1 hc.2.1 hc.2.2]; exact ⟨rfl, rk_fq hM hq.1, rk_fq hM' hq.2, hc⟩
     · exact absurd (mkI_none hc) h
   · rw [if_neg hq] at h; exact absurd rfl h
 · rw [if_pos rfl, Bool.and_eq_true, decide_eq_true_iff, decide_eq_true_iff] at h; obtain ⟨⟨rfl, rfl, rfl, rfl⟩, rfl, rfl, rfl, rfl⟩ := h; exact Ci.none
theorem mayI_no (h : mayI e K s M E K' s' M' E' = false) : rkI e K s M E K' s' M' E' = none := by
 cases e
 · unfold mayI at h
   rw [if_neg ff, decide_eq_false_iff_not] at h; exact Decidable.not_not.1 h
 · exact rkI_t
end
def PV (w : World) (x : Sp) (e : Ending) (w' : World) : Prop := ∃ e0 K s M E K' s' M' E', e = .returned (.agg #[.bool e0, .int .i64 K, .bool s, .int .u64 M, .int .i64 E, .int .i64 K', .bool s', .int .u64 M', .int .i64 E']) ∧ Ci e0 K s M E K' s' M' E' x ∧ Below w.heap.size w w'
def Jo.Fact.iv (x : Sp) : Jo.Fact := ⟨fun v w => ∃ e0 K s M E K' s' M' E', v = .agg #[.bool e0, .int .i64 K, .bool s, .int .u64 M, .int .i64 E, .int .i64 K', .bool s', .int .u64 M', .int .i64 E'] ∧ Ci e0 K s M E K' s' M' E' x, fun v w w' h b => h⟩
theorem StN.of9 {w w1 : World} {g : Nat} {T : TypeId} {a0 a1 a2 a3 a4 a5 a6 a7 a8 v0 v1 v2 v3 v4 v5 v6 v7 v8 : Value} (X : Bo w g #[a0, a1, a2, a3, a4, a5, a6, a7, a8] T) (h : ((((((((w.setCell ⟨g, 0, none⟩ v0).setCell ⟨g, 1, none⟩ v1).setCell ⟨g, 2, none⟩ v2).setCell ⟨g, 3, none⟩ v3).setCell ⟨g, 4, none⟩ v4).setCell ⟨g, 5, none⟩ v5).setCell ⟨g, 6, none⟩ v6).setCell ⟨g, 7, none⟩ v7).setCell ⟨g, 8, none⟩ v8 = w1) : StN w w1 g #[a0, a1, a2, a3, a4, a5, a6, a7, a8] #[v0, v1, v2, v3, v4, v5, v6, v7, v8] T := h ▸ StN.mk9 X v0 v1 v2 v3 v4 v5 v6 v7 v8
end Go.Proofs.YtmmallhniijdfaaGreatDoor
