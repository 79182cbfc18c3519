/-
 Contracts that the proof rests on.
-/
import Derived.Test.YtnbliijpjcmbjaaGreatDoorYPah
namespace Go.Proofs.YtnbliijpjcmbjaaGreatDoor
set_option maxHeartbeats 4000000
open Go.RowKit
set_option linter.unusedVariables false
section
variable {w : World} {A1 A2 : Option Addr} {n m c1 c2 a b : Nat}
theorem vLen (h1 : Rd w A1 n c1 a) : Calls Tryz.prog 159 #[.slice A1 n c1] w (PI w (blen a : Nat)) := by
 obtain ⟨b1, xs, h1, rfl⟩ := h1; refine (len_any w b1 A1 n c1 xs h1).mono ?_; rintro e w' ⟨rfl, rfl⟩; exact ⟨rfl, Below.refl _ _⟩
theorem vLenE {z : Int} (h1 : Rd w A1 n c1 a) (hz : ((blen a : Nat) : Int) = z) : Calls Tryz.prog 159 #[.slice A1 n c1] w (PI w z) := hz ▸ vLen h1
end
theorem cmpI_self (a : Nat) : cmpI (a : Int) (a : Int) = 0 := cmpI_eq rfl
theorem cmpI_bd (a b : Int) : -1 ≤ cmpI a b ∧ cmpI a b ≤ 1 := by unfold cmpI; split <;> (try split) <;> omega
theorem blen_eq_zero {a : Nat} : blen a = 0 ↔ a = 0 := by
 constructor
 · intro h
   have := blen_lt a
   rw [h] at this
   simpa using this
 · rintro rfl; rfl
def mayB (s : Bool) (n a : Nat) : Bool := decide ((limbs a).length = n) && (decide (0 < n) || !s)
theorem mayB_zero (s : Bool) {a : Nat} (h : a < 4294967296 ^ 0) : mayB s 0 a = !s := by
 obtain rfl : a = 0 := by simpa using h
 simp [mayB, limbs_zero]
theorem mayB_pos (s : Bool) {n : Nat} {xs : List Nat} (hl : Lim xs) (h : xs.length = n) (hn : 0 < n) : mayB s n (val xs) = (((xs.getD (n - 1) 0 : Nat) : Int) != 0) := by
 have h1 : decide (0 < n) = true := by simpa using hn
 unfold mayB
 rw [h1, Bool.true_or, Bool.and_true]
 by_cases e : xs.getD (n - 1) 0 = 0
 · rw [e]
   have : (limbs (val xs)).length ≤ n - 1 := by
     apply limbs_length_le
     have e3 : val (xs.drop (n - 1)) = 0 := by rw [val_drop (by omega), e, show n - 1 + 1 = n by omega, List.drop_of_length_le (by omega)]; rfl
     have e2 := val_take_drop xs (k := n - 1) (by omega); rw [e3, Nat.mul_zero, Nat.add_zero] at e2; rw [e2]
     have := val_lt (hl.take (n - 1))
     rwa [List.length_take, h, Nat.min_eq_left (by omega)] at this
   simp
   omega
 · have := take_eq_limbs hl (k := n) (by omega) (by rw [List.drop_of_length_le (by omega)]; rfl) (fun _ => e)
   have hlen : (limbs (val xs)).length = n := by rw [← this, List.length_take]; omega
   rw [hlen]
   have e' : ((xs.getD (n - 1) 0 : Nat) : Int) ≠ 0 := by omega
   simp only [decide_true]; exact (bne_iff_ne.2 e').symm
theorem wMay {w : World} {A : Option Addr} {n c a : Nat} {s : Bool} {r : Bool} (h : Rd w A n c a) (hr : mayB s n a = r) : Calls Tryz.prog 183 #[.agg #[.bool s, .slice A n c]] w (PB w r) := by
 rcases Nat.eq_zero_or_pos n with e | hn
 · subst e; rw [mayB_zero s h.bound] at hr; subst hr
   go_enter Tryz.func183, Tryz.ntmps183
   go_wp2
   go_ret
   exact ⟨rfl, bel1 _ _⟩
 · obtain ⟨b, xs, h, rfl⟩ := h; rw [mayB_pos s h.lim h.len hn] at hr; have hbig := h.big; have hcap := h.cap; have hlt := h.lt hn; obtain ⟨o, rfl, hcell⟩ := h.at hn; have hck := hcell (n - 1) (by omega); clear hcell h
   have hi : ((n : Int) - 1).toNat = n - 1 := by omega
   revert hr hck
   generalize xs.getD (n - 1) 0 = x
   intro hr hck
   have HR := Lib.hid hr
   have hq : ((n : Int) == 0) = false := by have : (n : Int) ≠ 0 := by omega
                                            simpa using this
   have hne : b ≠ w.heap.size := by omega
   clear hr
   go_enter Tryz.func183, Tryz.ntmps183
   go_wp2
   go_ret
   exact ⟨ret_bool HR.out, bel1 _ _⟩
def rt : Nat → Nat
 | 0 => 0
 | n + 1 => if (rt n + 1) * (rt n + 1) ≤ n + 1 then rt n + 1 else rt n
theorem rt_spec (n : Nat) : rt n * rt n ≤ n ∧ n < (rt n + 1) * (rt n + 1) := by
 induction n with
 | zero => exact ⟨Nat.le_refl _, by decide⟩
 | succ n ih =>
   obtain ⟨h1, h2⟩ := ih
   unfold rt
   split
   · rename_i h
     refine ⟨h, ?_⟩
     have : (rt n + 1 + 1) * (rt n + 1 + 1) = (rt n + 1) * (rt n + 1) + 2 * rt n + 3 := by grind
     omega
   · exact ⟨by omega, by omega⟩
theorem rt_le_of_lt {n g : Nat} (h : n < g * g) : rt n < g := by
 rcases Nat.lt_or_ge (rt n) g with h1 | h1
 · exact h1
 · have := Nat.mul_le_mul h1 h1
   have := (rt_spec n).1
   omega
theorem mean_ge {n g : Nat} (hg : 0 < g) : rt n ≤ (g + n / g) / 2 := by
 have h1 := (rt_spec n).1; generalize rt n = s at *
 rcases Nat.lt_or_ge g (2 * s) with h | h
 · have h2 : (2 * s - g) * g ≤ s * s := by
     rcases Nat.le_total s g with e | e
     · obtain ⟨t, rfl⟩ : ∃ t, g = s + t := ⟨g - s, by omega⟩
       obtain ⟨d, rfl⟩ : ∃ d, s = t + d := ⟨s - t, by omega⟩
       have : 2 * (t + d) - (t + d + t) = d := by omega
       rw [this]
       have e1 : d * (t + d + t) + t * t = (t + d) * (t + d) := by grind
       omega
     · obtain ⟨t, rfl⟩ : ∃ t, s = g + t := ⟨s - g, by omega⟩
       have : 2 * (g + t) - g = g + 2 * t := by omega
       rw [this]
       have e1 : (g + 2 * t) * g + t * t = (g + t) * (g + t) := by grind
       omega
   have h3 := (Nat.le_div_iff_mul_le hg).2 (Nat.le_trans h2 h1); generalize n / g = t at *
   omega
 · generalize n / g = t at *
   omega
theorem mean_stop {n g : Nat} (hg : 0 < g) (hs : rt n ≤ g) (h : g ≤ (g + n / g) / 2) : g = rt n := by
 have h1 : g ≤ n / g := by omega
 have h2 := (Nat.le_div_iff_mul_le hg).1 h1; have h3 := (rt_spec n).2
 rcases Nat.lt_or_ge (rt n) g with e | e
 · have := Nat.mul_le_mul (show rt n + 1 ≤ g from e) (show rt n + 1 ≤ g from e)
   omega
 · omega
theorem mean_pos {n g : Nat} (hn : 0 < n) (hg : 0 < g) : 0 < (g + n / g) / 2 := by
 have h1 := mean_ge (n := n) hg
 have h2 : 0 < rt n := by
   rcases Nat.eq_zero_or_pos (rt n) with e | e
   · have := (rt_spec n).2
     rw [e] at this
     omega
   · exact e
 omega
theorem first_guess (n : Nat) : n < 2 ^ ((blen n + 1) / 2) * 2 ^ ((blen n + 1) / 2) := by
 have h := blen_lt n; rw [← Nat.pow_add]; exact Nat.lt_of_lt_of_le h (Nat.pow_le_pow_right (by decide) (by omega))
def readVal (w : World) : Value → Nat
 | .slice (some a) n _ => val ((List.range n).map fun k => match w.cell? ⟨a.block, a.off + k, none⟩ with | some (.int _ x) => x.toNat | _ => 0)
 | _ => 0
theorem readVal_eq {w : World} {b : Nat} {A : Option Addr} {n c : Nat} {xs : List Nat} (h : Sl w b A n c xs) : readVal w (.slice A n c) = val xs := by
 rcases Nat.eq_zero_or_pos n with e | e
 · subst e
   have hl : xs = [] := List.eq_nil_of_length_eq_zero h.len
   subst hl
   cases A <;> rfl
 · obtain ⟨o, rfl, hc⟩ := h.at e
   show val ((List.range n).map _) = _
   congr 1
   apply List.ext_getElem
   · simp [h.len]
   · intro k h1 h2
     have hk : k < n := by simpa using h1
     simp only [List.getElem_map, List.getElem_range, hc k hk]; rw [List.getD_eq_getElem?_getD, List.getElem?_eq_getElem h2]
     simp
theorem shr_one (w : World) (b : Nat) (A : Option Addr) (n c : Nat) (xs : List Nat) (h : Sl w b A n c xs) :
   Calls Tryz.prog 166 #[.slice A n c, .int .i64 1] w (Ret1 w (limbs (val xs / 2))) := shr_any w b A n c xs 1 h (by omega)
def RootPost (w : World) (v : Nat) (e : Ending) (w' : World) : Prop :=
 ∃ A c, e = .returned (.tuple #[.slice A (limbs (rt v)).length c, .bool (decide (rt v * rt v = v))]) ∧ (∃ b, Sl w' b A (limbs (rt v)).length c (limbs (rt v))) ∧ Below w.heap.size w w'
theorem root_zero (w : World) (b : Nat) (A : Option Addr) (n c : Nat) (xs : List Nat) (h : Sl w b A n c xs) (h0 : val xs = 0) :
   Calls Tryz.prog 137 #[.slice A n c] w (RootPost w (val xs)) := by
 have hc := cut_any w b A n c xs h; rw [h0, limbs_zero] at hc; have HC := Lib.hid hc; rw [h0]; clear h h0 hc
 go_enter Tryz.func137, Tryz.ntmps137
 go_wp2
 go_step3
 go_wp2_with (go_at_call 163; ((with_reducible refine HC.out.mono ?_); rintro e w' ⟨rfl, rfl⟩))
 rw [Exit.noGoto_ret]
 go_ret2
 have e0 : limbs (rt 0) = [] := limbs_zero
 refine ⟨none, 0, ?_, ?_, Below.refl _ _⟩
 · rw [e0]; rfl
 · rw [e0]; exact ⟨0, Sl.nil⟩
def RootInv (w : World) (b0 : Nat) (A0 : Option Addr) (p c0 v G0 : Nat) (a' : Act) (W : World) : Prop :=
 ∃ (G bg : Nat) (Ag : Option Addr) (cg : Nat) (u5 u6 u7 u8 u9 u10 u11 u12 u13 u14 u15 u16 u17 u18 u19 u20 u21 u22 u23 u24 u25 u26 u27 u28 u29 u30 u31 u32 u33 u34 u35 u36 u37 u38 u39 u40 u41 u42 u43 : Value), a' = { tmps := #[.slice A0 p c0, undef, .slice none 0 0, .bool false, .slice Ag (limbs G).length cg, u5, u6, u7, u8, u9, u10, u11, u12, u13, u14, u15, u16, u17, u18, u19, u20, u21, u22, u23, u24, u25, u26, u27, u28, u29, u30, u31, u32, u33, u34, u35, u36, u37, u38, u39, u40, u41, u42, u43], defers := [] } ∧
   Sl W b0 A0 p c0 (limbs v) ∧ Sl W bg Ag (limbs G).length cg (limbs G) ∧ Below w.heap.size w W ∧ 0 < G ∧ rt v ≤ G ∧ G ≤ G0
theorem raised_one (w : World) (b Z : Nat) (A : Option Addr) (h : Sl w b A 1 1 [1]) (hZ : Z ≤ 1099511627776) :
   Calls Tryz.prog 165 #[.slice A 1 1, .int .i64 (Z : Int)] w fun e w' =>
     ∃ k g l, e = .returned (.slice (some ⟨g, 0, none⟩) k k) ∧ Sl w' g (some ⟨g, 0, none⟩) k k l ∧ val l = 2 ^ Z ∧ Below w.heap.size w w' := by
 refine (raised_any w b 1 1 A [1] (Z : Int) (Z / 32) (Z % 32) h (by omega) (by omega) (by omega) (by omega) (by omega)).mono ?_; rintro e w' ⟨g, l, h1, h2, h3, h4, h5, h6, h7⟩; refine ⟨1 + Z / 32 + 1, g, l, h1, ?_, ?_, h7⟩
 · have := h3.all h5 (by omega) (c := 1 + Z / 32 + 1) (by omega)
   rwa [h4] at this
 · rw [h6, show 32 * (Z / 32) + Z % 32 = Z by omega]; simp [val]
theorem limbs_len_blen {v : Nat} (hv : 0 < v) : blen v ≤ (limbs v).length * 32 := by
 apply blen_mono_le
 rw [← pow32]
 have := val_lt (lim_limbs v)
 rwa [val_limbs] at this
theorem guess_len {v p : Nat} (hv : 0 < v) (hp : (limbs v).length = p) {G : Nat} (hG : G ≤ 2 ^ ((blen v + 1) / 2)) : (limbs G).length ≤ p + 1 := by
 apply limbs_length_le
 rw [pow32]
 have := limbs_len_blen hv
 exact Nat.lt_of_le_of_lt hG (Nat.pow_lt_pow_right (by decide) (by omega))
theorem root_core (w : World) (b0 : Nat) (A0 : Option Addr) (n p c0 v : Nat) (h : Sl w b0 A0 p c0 (limbs v)) (hv : 0 < v) (hp : p ≤ 17179869184) (hpl : (limbs v).length = p)
   (HC : Hid (Calls Tryz.prog 163 #[.slice A0 n c0] w fun e w' => e = .returned (.slice A0 p c0) ∧ w = w')) :
   Calls Tryz.prog 137 #[.slice A0 n c0] w (RootPost w v) := by
 have hpos : p ≠ 0 := fun e => by rw [e] at hpl; exact absurd (limbs_length_zero.1 hpl) (by omega)
 have hp0 : ((p : Int) == 0) = false := by simpa using hpos
 have hbl := limbs_len_blen hv; rw [hpl] at hbl
 have HGL : Hid (∀ G, G ≤ 2 ^ ((blen v + 1) / 2) → (limbs G).length ≤ p + 1) := fun G hG => guess_len hv hpl hG
 have HF := Lib.hid (rt_le_of_lt (first_guess v))
 have hlen := fun W hW => len_any W b0 A0 p c0 (limbs v) hW
 rw [val_limbs] at hlen; have HL := Lib.hid hlen; clear hlen; obtain ⟨Z, hZ⟩ : ∃ Z, (blen v + 1) / 2 = Z := ⟨_, rfl⟩
 have eZ : ((blen v : Int) + 1) / 2 = (Z : Int) := by omega
 have hZb : Z ≤ 1099511627776 := by omega
 rw [hZ] at HGL HF; clear hZ
 revert HL eZ hbl
 generalize blen v = L
 intro hbl HL eZ
 go_enter Tryz.func137, Tryz.ntmps137
 go_wp2
 refine wp_scope_jumps 0 (RootInv w b0 A0 p c0 v (2 ^ Z)) (fun a' W => readVal W (a'.tmps.getD 4 undef)) rfl ?_ ?_
 · have hal : Below w.heap.size w (w.alloc (.cells #[.int .u32 1] 104)) := (Below.refl _ _).alloc (Nat.le_refl _) _
   obtain ⟨G, HGe⟩ : ∃ G, Hid (G = 2 ^ Z) := ⟨2 ^ Z, rfl⟩
   go_wp2_with (first
     | (go_at_call 163; ((with_reducible refine HC.out.mono ?_); rintro e w' ⟨rfl, rfl⟩))
     | (go_at_call 159; ((with_reducible refine (HL.out _ (h.below hal)).mono ?_); rintro e w' ⟨rfl, rfl⟩))
     | (go_at_call 165; ((with_reducible refine (raised_one _ w.heap.size Z _ (one_limb w) hZb).mono ?_); rintro e w1 ⟨k1, g1, l1, rfl, s1, v1, b1⟩; have ht := trim_any w1 g1 _ k1 k1 l1 s1; rw [v1, ← HGe.out] at ht; have HT := Lib.hid ht; have HB1 := Lib.hid (hal.trans (b1.mono hal.size)); clear v1 ht b1 s1))
     | (go_at_call 164; ((with_reducible refine HT.out.mono ?_); rintro e W ⟨bg, Ag, cg, rfl, m2, b2⟩; have hG := m2.1; have hB := HB1.out.trans (b2.mono HB1.out.size); clear m2 b2)))
   have hA := h.below hB
   have HN : Hid (0 < G ∧ rt v ≤ G ∧ G ≤ 2 ^ Z) := by rw [HGe.out]; exact ⟨Nat.two_pow_pos Z, by have := HF.out; omega, Nat.le_refl _⟩
   clear HT HB1 HC HL hal eZ HF h HGe
   go_step3
   have hGl := HGL.out G HN.out.2.2; have hG0 := HN.out.1
   have hdl : (limbs (v / G)).length ≤ p := by rw [← hpl]; exact limbs_length_mono (Nat.div_le_self _ _)
   have hd := div_any W b0 bg A0 Ag p _ c0 cg (limbs v) (limbs G) hA hG (by omega) (by rw [val_limbs]; omega); rw [val_limbs, val_limbs] at hd; have HDV := Lib.hid hd; clear hd
   have HAD : Hid (∀ (W' : World) (b3 : Nat) (A3 : Option Addr) (c3 : Nat), Sl W' bg Ag (limbs G).length cg (limbs G) → Sl W' b3 A3 (limbs (v / G)).length c3 (limbs (v / G)) → Calls Tryz.prog 139 #[.slice Ag (limbs G).length cg, .slice A3 (limbs (v / G)).length c3] W' (Ret1 W' (limbs (G + v / G)))) := by
     intro W' b3 A3 c3 k1 k2
     have := add_any W' bg b3 Ag A3 _ _ cg c3 _ _ k1 k2 (by omega) (by omega)
     rwa [val_limbs, val_limbs] at this
   have HSH : Hid (∀ (W' : World) (b3 : Nat) (A3 : Option Addr) (c3 : Nat), Sl W' b3 A3 (limbs (G + v / G)).length c3 (limbs (G + v / G)) → Calls Tryz.prog 166 #[.slice A3 (limbs (G + v / G)).length c3, .int .i64 1] W' (Ret1 W' (limbs ((G + v / G) / 2)))) := by
     intro W' b3 A3 c3 k1
     have := shr_one W' b3 A3 _ c3 _ k1
     rwa [val_limbs] at this
   have HMG := Lib.hid (mean_ge (n := v) hG0); have HMP := Lib.hid (mean_pos hv hG0); have HMS := Lib.hid (mean_stop (n := v) hG0 HN.out.2.1)
   revert HMG HMP HMS HSH
   generalize (G + v / G) / 2 = M
   intro HSH HMG HMP HMS
   by_cases hMG : M < G
   · have HCM : Hid (∀ (W' : World) (b3 : Nat) (A3 : Option Addr) (c3 : Nat), Sl W' b3 A3 (limbs M).length c3 (limbs M) → Sl W' bg Ag (limbs G).length cg (limbs G) → Calls Tryz.prog 167 #[.slice A3 (limbs M).length c3, .slice Ag (limbs G).length cg] W' (fun e w' => e = .returned (.int .i64 (-1)) ∧ ∃ q, w' = W'.drewN q)) := by
       intro W' b3 A3 c3 k1 k2
       have := cmp_any W' b3 bg A3 Ag _ _ c3 cg _ _ k1 k2
       rwa [val_limbs, val_limbs, cmpI_lt (by omega)] at this
     go_wp2_with (first
       | (go_at_call 161; ((with_reducible refine HDV.out.mono ?_); rintro e w3 ⟨A3, c3, A4, c4, rfl, ⟨b3, s3, _⟩, o4, B3⟩; have s3g := hG.below B3; have HB3 := Lib.hid B3; clear B3 o4))
       | (go_at_call 139; ((with_reducible refine (HAD.out w3 b3 A3 c3 s3g s3).mono ?_); rintro e w4 ⟨b4, A5, c5, rfl, m4, B4⟩; have s4 := m4.1; have s4g := s3g.below B4; have HB4 := Lib.hid B4; clear B4 m4))
       | (go_at_call 166; ((with_reducible refine (HSH.out w4 b4 A5 c5 s4).mono ?_); rintro e w5 ⟨b5, A6, c6, rfl, m5, B5⟩; have s5 := m5.1; have s5g := s4g.below B5; have HB5 := Lib.hid B5; clear B5 m5))
       | (go_at_call 167; ((with_reducible refine (HCM.out w5 b5 A6 c6 s5 s5g).mono ?_); rintro e w6 ⟨rfl, q6, rfl⟩)))
     go_step3
     have HBB : Hid (Below W.heap.size W w5) := (HB3.out.trans (HB4.out.mono HB3.out.size)).trans (HB5.out.mono (Nat.le_trans HB3.out.size HB4.out.size))
     have HJ : Hid (Sl (w5.drewN q6) b0 A0 p c0 (limbs v) ∧ Sl (w5.drewN q6) b5 A6 (limbs M).length c6 (limbs M) ∧ Below w.heap.size w (w5.drewN q6) ∧ 0 < M ∧ rt v ≤ M ∧ M ≤ 2 ^ Z) := ⟨(hA.below HBB.out).drewN q6, s5, below_drewN (hB.trans (HBB.out.mono hB.size)) q6, HMP.out, HMG.out, by have := HN.out.2.2; omega⟩
     exact ⟨rfl, M, b5, A6, c6, _, _, _, _, _, _, _, _, _, _, _, _, _, _, _, _, _, _, _, _, _, _, _, _, _, _, _, _, _, _, _, _, _, _, _, _, _, _, _, rfl, HJ.out⟩
   · obtain ⟨z, hz, hz0⟩ := cmpI_ge (a := M) (b := G) (by omega); have HGR := Lib.hid (HMS.out (by omega))
     have HCM : Hid (∀ (W' : World) (b3 : Nat) (A3 : Option Addr) (c3 : Nat), Sl W' b3 A3 (limbs M).length c3 (limbs M) → Sl W' bg Ag (limbs G).length cg (limbs G) → Calls Tryz.prog 167 #[.slice A3 (limbs M).length c3, .slice Ag (limbs G).length cg] W' (fun e w' => e = .returned (.int .i64 z) ∧ ∃ q, w' = W'.drewN q)) := by
       intro W' b3 A3 c3 k1 k2
       have := cmp_any W' b3 bg A3 Ag _ _ c3 cg _ _ k1 k2
       rwa [val_limbs, val_limbs, hz] at this
     have HML : Hid (∀ (W' : World), Sl W' bg Ag (limbs G).length cg (limbs G) → Calls Tryz.prog 168 #[.slice Ag (limbs G).length cg, .slice Ag (limbs G).length cg] W' (Ret1 W' (limbs (G * G)))) := by
       intro W' k1
       have := mul_any W' bg bg Ag Ag _ _ cg cg _ _ k1 k1 (by omega) (by omega)
       rwa [val_limbs] at this
     obtain ⟨u, hu, hub⟩ : ∃ u : Int, cmpI ((G * G : Nat) : Int) (v : Int) = u ∧ ((u == 0) = decide (rt v * rt v = v)) := by
       rw [← HGR.out]
       rcases Nat.lt_trichotomy (G * G) v with e | e | e
       · exact ⟨-1, cmpI_lt (by omega), by simp; omega⟩
       · exact ⟨0, cmpI_eq (by omega), by simp [e]⟩
       · exact ⟨1, cmpI_gt (by omega), by simp; omega⟩
     have HC2 : Hid (∀ (W' : World) (b3 : Nat) (A3 : Option Addr) (c3 : Nat), Sl W' b3 A3 (limbs (G * G)).length c3 (limbs (G * G)) → Sl W' b0 A0 p c0 (limbs v) → Calls Tryz.prog 167 #[.slice A3 (limbs (G * G)).length c3, .slice A0 p c0] W' (fun e w' => e = .returned (.int .i64 u) ∧ ∃ q, w' = W'.drewN q)) := by
       intro W' b3 A3 c3 k1 k2
       have := cmp_any W' b3 b0 A3 A0 _ _ c3 c0 _ _ k1 k2
       rwa [val_limbs, val_limbs, hu] at this
     have HUB := Lib.hid hub; clear hu hub hz
     go_wp2_with (first
       | (go_at_call 161; ((with_reducible refine HDV.out.mono ?_); rintro e w3 ⟨A3, c3, A4, c4, rfl, ⟨b3, s3, _⟩, o4, B3⟩; have s3g := hG.below B3; have HB3 := Lib.hid B3; clear B3 o4))
       | (go_at_call 139; ((with_reducible refine (HAD.out w3 b3 A3 c3 s3g s3).mono ?_); rintro e w4 ⟨b4, A5, c5, rfl, m4, B4⟩; have s4 := m4.1; have s4g := s3g.below B4; have HB4 := Lib.hid B4; clear B4 m4))
       | (go_at_call 166; ((with_reducible refine (HSH.out w4 b4 A5 c5 s4).mono ?_); rintro e w5 ⟨b5, A6, c6, rfl, m5, B5⟩; have s5 := m5.1; have s5g := s4g.below B5; have HB5 := Lib.hid B5; clear B5 m5))
       | (go_at_call 167; ((with_reducible refine (HCM.out w5 b5 A6 c6 s5 s5g).mono ?_); rintro e w6 ⟨rfl, q6, rfl⟩))
       | (go_at_call 168; ((with_reducible refine (HML.out (w5.drewN q6) (s5g.drewN q6)).mono ?_); rintro e w7 ⟨b7, A7, c7, rfl, m7, B7⟩; have s7 := m7.1; have HB7 : Hid (Below w5.heap.size w5 w7) := (below_drewN (Below.refl _ _) _).trans B7; have s7a := hA.below ((((HB3.out.trans (HB4.out.mono HB3.out.size)).trans (HB5.out.mono (Nat.le_trans HB3.out.size HB4.out.size)))).trans (HB7.out.mono (Nat.le_trans (Nat.le_trans HB3.out.size HB4.out.size) HB5.out.size))); clear B7 m7))
       | (go_at_call 167; ((with_reducible refine (HC2.out w7 b7 A7 c7 s7 s7a).mono ?_); rintro e w8 ⟨rfl, q8, rfl⟩)))
     simp only [Exit.jump]
     go_ret2
     have HBB : Hid (Below W.heap.size W w7) := (((HB3.out.trans (HB4.out.mono HB3.out.size)).trans (HB5.out.mono (Nat.le_trans HB3.out.size HB4.out.size)))).trans (HB7.out.mono (Nat.le_trans (Nat.le_trans HB3.out.size HB4.out.size) HB5.out.size))
     rw [HUB.out]; have hGG := hG.below HBB.out; rw [HGR.out] at hGG ⊢; exact ⟨Ag, cg, rfl, ⟨bg, hGG⟩, below_drewN (hB.trans (HBB.out.mono hB.size)) q8⟩
 · rintro a' W ⟨G, bg, Ag, cg, u5, u6, u7, u8, u9, u10, u11, u12, u13, u14, u15, u16, u17, u18, u19, u20, u21, u22, u23, u24, u25, u26, u27, u28, u29, u30, u31, u32, u33, u34, u35, u36, u37, u38, u39, u40, u41, u42, u43, rfl, hA, hG, hB, hN⟩; have HN := Lib.hid hN; clear hN HC HL eZ HF h
   have HMU : Hid (readVal W (.slice Ag (limbs G).length cg) = G) := by show _ = _; rw [readVal_eq hG, val_limbs]
   have hGl := HGL.out G HN.out.2.2; have hG0 := HN.out.1
   have hdl : (limbs (v / G)).length ≤ p := by rw [← hpl]; exact limbs_length_mono (Nat.div_le_self _ _)
   have hd := div_any W b0 bg A0 Ag p _ c0 cg (limbs v) (limbs G) hA hG (by omega) (by rw [val_limbs]; omega); rw [val_limbs, val_limbs] at hd; have HDV := Lib.hid hd; clear hd
   have HAD : Hid (∀ (W' : World) (b3 : Nat) (A3 : Option Addr) (c3 : Nat), Sl W' bg Ag (limbs G).length cg (limbs G) → Sl W' b3 A3 (limbs (v / G)).length c3 (limbs (v / G)) → Calls Tryz.prog 139 #[.slice Ag (limbs G).length cg, .slice A3 (limbs (v / G)).length c3] W' (Ret1 W' (limbs (G + v / G)))) := by
     intro W' b3 A3 c3 k1 k2
     have := add_any W' bg b3 Ag A3 _ _ cg c3 _ _ k1 k2 (by omega) (by omega)
     rwa [val_limbs, val_limbs] at this
   have HSH : Hid (∀ (W' : World) (b3 : Nat) (A3 : Option Addr) (c3 : Nat), Sl W' b3 A3 (limbs (G + v / G)).length c3 (limbs (G + v / G)) → Calls Tryz.prog 166 #[.slice A3 (limbs (G + v / G)).length c3, .int .i64 1] W' (Ret1 W' (limbs ((G + v / G) / 2)))) := by
     intro W' b3 A3 c3 k1
     have := shr_one W' b3 A3 _ c3 _ k1
     rwa [val_limbs] at this
   have HMG := Lib.hid (mean_ge (n := v) hG0); have HMP := Lib.hid (mean_pos hv hG0); have HMS := Lib.hid (mean_stop (n := v) hG0 HN.out.2.1)
   revert HMG HMP HMS HSH
   generalize (G + v / G) / 2 = M
   intro HSH HMG HMP HMS
   by_cases hMG : M < G
   · have HCM : Hid (∀ (W' : World) (b3 : Nat) (A3 : Option Addr) (c3 : Nat), Sl W' b3 A3 (limbs M).length c3 (limbs M) → Sl W' bg Ag (limbs G).length cg (limbs G) → Calls Tryz.prog 167 #[.slice A3 (limbs M).length c3, .slice Ag (limbs G).length cg] W' (fun e w' => e = .returned (.int .i64 (-1)) ∧ ∃ q, w' = W'.drewN q)) := by
       intro W' b3 A3 c3 k1 k2
       have := cmp_any W' b3 bg A3 Ag _ _ c3 cg _ _ k1 k2
       rwa [val_limbs, val_limbs, cmpI_lt (by omega)] at this
     go_wp2_with (first
       | (go_at_call 161; ((with_reducible refine HDV.out.mono ?_); rintro e w3 ⟨A3, c3, A4, c4, rfl, ⟨b3, s3, _⟩, o4, B3⟩; have s3g := hG.below B3; have HB3 := Lib.hid B3; clear B3 o4))
       | (go_at_call 139; ((with_reducible refine (HAD.out w3 b3 A3 c3 s3g s3).mono ?_); rintro e w4 ⟨b4, A5, c5, rfl, m4, B4⟩; have s4 := m4.1; have s4g := s3g.below B4; have HB4 := Lib.hid B4; clear B4 m4))
       | (go_at_call 166; ((with_reducible refine (HSH.out w4 b4 A5 c5 s4).mono ?_); rintro e w5 ⟨b5, A6, c6, rfl, m5, B5⟩; have s5 := m5.1; have s5g := s4g.below B5; have HB5 := Lib.hid B5; clear B5 m5))
       | (go_at_call 167; ((with_reducible refine (HCM.out w5 b5 A6 c6 s5 s5g).mono ?_); rintro e w6 ⟨rfl, q6, rfl⟩)))
     go_step3
     have HBB : Hid (Below W.heap.size W w5) := (HB3.out.trans (HB4.out.mono HB3.out.size)).trans (HB5.out.mono (Nat.le_trans HB3.out.size HB4.out.size))
     have HJ : Hid (Sl (w5.drewN q6) b0 A0 p c0 (limbs v) ∧ Sl (w5.drewN q6) b5 A6 (limbs M).length c6 (limbs M) ∧ Below w.heap.size w (w5.drewN q6) ∧ 0 < M ∧ rt v ≤ M ∧ M ≤ 2 ^ Z) := ⟨(hA.below HBB.out).drewN q6, s5, below_drewN (hB.trans (HBB.out.mono hB.size)) q6, HMP.out, HMG.out, by have := HN.out.2.2; omega⟩
     refine ⟨rfl, ⟨M, b5, A6, c6, _, _, _, _, _, _, _, _, _, _, _, _, _, _, _, _, _, _, _, _, _, _, _, _, _, _, _, _, _, _, _, _, _, _, _, _, _, _, _, rfl, HJ.out⟩, ?_⟩
     show readVal (w5.drewN q6) (.slice A6 (limbs M).length c6) < readVal W (.slice Ag (limbs G).length cg)
     rw [HMU.out, readVal_eq HJ.out.2.1, val_limbs]; exact hMG
   · obtain ⟨z, hz, hz0⟩ := cmpI_ge (a := M) (b := G) (by omega); have HGR := Lib.hid (HMS.out (by omega))
     have HCM : Hid (∀ (W' : World) (b3 : Nat) (A3 : Option Addr) (c3 : Nat), Sl W' b3 A3 (limbs M).length c3 (limbs M) → Sl W' bg Ag (limbs G).length cg (limbs G) → Calls Tryz.prog 167 #[.slice A3 (limbs M).length c3, .slice Ag (limbs G).length cg] W' (fun e w' => e = .returned (.int .i64 z) ∧ ∃ q, w' = W'.drewN q)) := by
       intro W' b3 A3 c3 k1 k2
       have := cmp_any W' b3 bg A3 Ag _ _ c3 cg _ _ k1 k2
       rwa [val_limbs, val_limbs, hz] at this
     have HML : Hid (∀ (W' : World), Sl W' bg Ag (limbs G).length cg (limbs G) → Calls Tryz.prog 168 #[.slice Ag (limbs G).length cg, .slice Ag (limbs G).length cg] W' (Ret1 W' (limbs (G * G)))) := by
       intro W' k1
       have := mul_any W' bg bg Ag Ag _ _ cg cg _ _ k1 k1 (by omega) (by omega)
       rwa [val_limbs] at this
     obtain ⟨u, hu, hub⟩ : ∃ u : Int, cmpI ((G * G : Nat) : Int) (v : Int) = u ∧ ((u == 0) = decide (rt v * rt v = v)) := by
       rw [← HGR.out]
       rcases Nat.lt_trichotomy (G * G) v with e | e | e
       · exact ⟨-1, cmpI_lt (by omega), by simp; omega⟩
       · exact ⟨0, cmpI_eq (by omega), by simp [e]⟩
       · exact ⟨1, cmpI_gt (by omega), by simp; omega⟩
     have HC2 : Hid (∀ (W' : World) (b3 : Nat) (A3 : Option Addr) (c3 : Nat), Sl W' b3 A3 (limbs (G * G)).length c3 (limbs (G * G)) → Sl W' b0 A0 p c0 (limbs v) → Calls Tryz.prog 167 #[.slice A3 (limbs (G * G)).length c3, .slice A0 p c0] W' (fun e w' => e = .returned (.int .i64 u) ∧ ∃ q, w' = W'.drewN q)) := by
       intro W' b3 A3 c3 k1 k2
       have := cmp_any W' b3 b0 A3 A0 _ _ c3 c0 _ _ k1 k2
       rwa [val_limbs, val_limbs, hu] at this
     have HUB := Lib.hid hub; clear hu hub hz
     go_wp2_with (first
       | (go_at_call 161; ((with_reducible refine HDV.out.mono ?_); rintro e w3 ⟨A3, c3, A4, c4, rfl, ⟨b3, s3, _⟩, o4, B3⟩; have s3g := hG.below B3; have HB3 := Lib.hid B3; clear B3 o4))
       | (go_at_call 139; ((with_reducible refine (HAD.out w3 b3 A3 c3 s3g s3).mono ?_); rintro e w4 ⟨b4, A5, c5, rfl, m4, B4⟩; have s4 := m4.1; have s4g := s3g.below B4; have HB4 := Lib.hid B4; clear B4 m4))
       | (go_at_call 166; ((with_reducible refine (HSH.out w4 b4 A5 c5 s4).mono ?_); rintro e w5 ⟨b5, A6, c6, rfl, m5, B5⟩; have s5 := m5.1; have s5g := s4g.below B5; have HB5 := Lib.hid B5; clear B5 m5))
       | (go_at_call 167; ((with_reducible refine (HCM.out w5 b5 A6 c6 s5 s5g).mono ?_); rintro e w6 ⟨rfl, q6, rfl⟩))
       | (go_at_call 168; ((with_reducible refine (HML.out (w5.drewN q6) (s5g.drewN q6)).mono ?_); rintro e w7 ⟨b7, A7, c7, rfl, m7, B7⟩; have s7 := m7.1; have HB7 : Hid (Below w5.heap.size w5 w7) := (below_drewN (Below.refl _ _) _).trans B7; have s7a := hA.below ((((HB3.out.trans (HB4.out.mono HB3.out.size)).trans (HB5.out.mono (Nat.le_trans HB3.out.size HB4.out.size)))).trans (HB7.out.mono (Nat.le_trans (Nat.le_trans HB3.out.size HB4.out.size) HB5.out.size))); clear B7 m7))
       | (go_at_call 167; ((with_reducible refine (HC2.out w7 b7 A7 c7 s7 s7a).mono ?_); rintro e w8 ⟨rfl, q8, rfl⟩)))
     simp only [Exit.jump]
     go_ret2
     have HBB : Hid (Below W.heap.size W w7) := (((HB3.out.trans (HB4.out.mono HB3.out.size)).trans (HB5.out.mono (Nat.le_trans HB3.out.size HB4.out.size)))).trans (HB7.out.mono (Nat.le_trans (Nat.le_trans HB3.out.size HB4.out.size) HB5.out.size))
     rw [HUB.out]; have hGG := hG.below HBB.out; rw [HGR.out] at hGG ⊢; exact ⟨Ag, cg, rfl, ⟨bg, hGG⟩, below_drewN (hB.trans (HBB.out.mono hB.size)) q8⟩
theorem root_any (w : World) (b : Nat) (A : Option Addr) (n c : Nat) (xs : List Nat) (h : Sl w b A n c xs) (hn : n ≤ 17179869184) :
   Calls Tryz.prog 137 #[.slice A n c] w (RootPost w (val xs)) := by
 by_cases h0 : val xs = 0
 · exact root_zero w b A n c xs h h0
 · exact root_core w b A n _ c (val xs) (cut_sl h) (by omega) (by have := val_limbs_le h.lim; have := h.len; omega) rfl (cut_any w b A n c xs h)
section
variable {w : World} {A1 A2 : Option Addr} {n m c1 c2 a b : Nat}
theorem rt_le (a : Nat) : rt a ≤ a := by
 have h := (rt_spec a).1
 rcases Nat.eq_zero_or_pos (rt a) with e | e
 · omega
 · have := Nat.le_mul_of_pos_right (rt a) e
   omega
theorem vRoot (h1 : Rd w A1 n c1 a) (hn : n ≤ 1073741824) : Calls Tryz.prog 137 #[.slice A1 n c1] w (P1B w n (rt a) (decide (rt a * rt a = a))) := by
 have hl := Nat.le_trans (limbs_length_mono (rt_le a)) h1.limbs_le; obtain ⟨b1, xs, h1, rfl⟩ := h1; refine (root_any w b1 A1 n c1 xs h1 (by omega)).mono ?_; rintro e w' ⟨A, c, rfl, o, hb⟩; exact ⟨A, _, c, rfl, o, hl, hb⟩
theorem vRootE {r : Nat} {t : Bool} (h1 : Rd w A1 n c1 a) (hn : n ≤ 1073741824) (hr : rt a = r) (ht : decide (r * r = a) = t) : Calls Tryz.prog 137 #[.slice A1 n c1] w (P1B w n r t) := by
 subst hr; subst ht; exact vRoot h1 hn
theorem limbs_shl_len {a n s : Nat} (ha : a < 4294967296 ^ n) : (limbs (a * 2 ^ s)).length ≤ n + s / 32 + 1 := by
 have := limbs_mul_len (m := s / 32 + 1) (b := 2 ^ s) ha (by rw [pow32]; exact Nat.pow_lt_pow_right (by decide) (by omega))
 omega
theorem vShl (s : Nat) (h1 : Rd w A1 n c1 a) (hn : n ≤ 1073741824) (hs : s ≤ 16777216) : Calls Tryz.prog 138 #[.slice A1 n c1, .int .i64 (s : Int)] w (P1 w (n + s / 32 + 1) (a * 2 ^ s)) := by
 have hl := limbs_shl_len (s := s) h1.bound; obtain ⟨b1, xs, h1, rfl⟩ := h1; refine (shl_any w b1 A1 n c1 xs s h1 hs (by omega)).mono ?_; rintro e w' ⟨g, A, c, rfl, hm, hb⟩; exact ⟨A, _, c, rfl, hm.nm, hl, hb⟩
theorem vShl_low (z : Int) (h1 : Rd w A1 n c1 a) (hz : z < 1) : Calls Tryz.prog 138 #[.slice A1 n c1, .int .i64 z] w (P1 w n a) := by
 have hl := h1.limbs_le; obtain ⟨b1, xs, h1, rfl⟩ := h1; refine (shl_low w b1 A1 n c1 xs z h1 hz).mono ?_; rintro e w' ⟨g, A, c, rfl, hm, hb⟩; exact ⟨A, _, c, rfl, hm.nm, hl, hb⟩
theorem vShlE {s r : Nat} (h1 : Rd w A1 n c1 a) (hn : n ≤ 1073741824) (hs : s ≤ 16777216) (hr : a * 2 ^ s = r) : Calls Tryz.prog 138 #[.slice A1 n c1, .int .i64 (s : Int)] w (P1 w (n + s / 32 + 1) r) := hr ▸ vShl s h1 hn hs
end
theorem blen_shl {a s : Nat} (ha : a ≠ 0) : blen (a * 2 ^ s) = blen a + s := by
 have h1 := blen_lt a; have h2 := blen_le ha
 have h3 : blen a ≠ 0 := fun e => by rw [e] at h1; simp at h1; exact ha h1
 have hp := Nat.two_pow_pos s
 have := blen_uniq (n := a * 2 ^ s) (k := blen a - 1 + s) (by have := Nat.mul_pos (Nat.pos_of_ne_zero ha) hp; omega)
   (by rw [Nat.pow_add]; exact Nat.mul_le_mul_right _ h2)
   (by rw [show blen a - 1 + s + 1 = blen a + s by omega, Nat.pow_add]; exact Nat.mul_lt_mul_of_pos_right h1 hp)
 omega
theorem blen_pow (s : Nat) : blen (2 ^ s) = s + 1 := by
 have := blen_shl (a := 1) (s := s) (by decide)
 rw [Nat.one_mul] at this; rw [this]
 have : blen 1 = 1 := by decide
 omega
end Go.Proofs.YtnbliijpjcmbjaaGreatDoor
