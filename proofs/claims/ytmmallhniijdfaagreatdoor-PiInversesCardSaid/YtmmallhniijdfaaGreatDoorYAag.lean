/-
 Contracts that the proof rests on.
-/
import Derived.Test.YtmmallhniijdfaaGreatDoorYAaf
namespace Go.Proofs.YtmmallhniijdfaaGreatDoor
set_option maxHeartbeats 1000000
open Go.RowKit
set_option linter.unusedVariables false
theorem shr_limb {lo d0 d1 R : Nat} (hlo : lo < 32) : (d0 + 4294967296 * (d1 + 4294967296 * R)) / 2 ^ lo % 4294967296 = (d0 + 4294967296 * d1) / 2 ^ lo % 4294967296 := by
 have e : 4294967296 = 2 ^ lo * 2 ^ (32 - lo) := by rw [← Nat.pow_add, show lo + (32 - lo) = 32 by omega]
 have e1 : d0 + 4294967296 * (d1 + 4294967296 * R) = d0 + 4294967296 * d1 + 2 ^ lo * (2 ^ (32 - lo) * R * 4294967296) := by
   have : 2 ^ lo * (2 ^ (32 - lo) * R * 4294967296) = 4294967296 * (4294967296 * R) := by
     rw [← Nat.mul_assoc, ← Nat.mul_assoc, ← e, Nat.mul_comm (4294967296 * R)]
   rw [this]; omega
 rw [e1, Nat.add_mul_div_left _ _ (Nat.two_pow_pos lo), Nat.add_mul_mod_self_right]
def ShrInv (w : World) (g n sk lo : Nat) (xs : List Nat) (i : Nat) (wr : World) : Prop :=
 ∃ hs : List Nat, hs.length = i ∧ Lim hs ∧ Own wr g (hs ++ List.replicate (n - i) 0) ∧ w.grownBy wr (some g) ∧ val hs = val (xs.drop sk) / 2 ^ lo % 4294967296 ^ i
theorem val_drop_div {xs : List Nat} (hl : Lim xs) (k : Nat) : val (xs.drop k) = val xs / 4294967296 ^ k := by
 rcases Nat.lt_or_ge xs.length k with h | h
 · rw [List.drop_eq_nil_of_le (by omega), Nat.div_eq_of_lt]
   · rfl
   · exact Nat.lt_of_lt_of_le (val_lt hl) (Nat.pow_le_pow_right (by decide) (by omega))
 · rw [val_take_drop xs h, Nat.add_mul_div_left _ _ (Nat.pow_pos (by decide)), Nat.div_eq_of_lt, Nat.zero_add]
   have := val_lt (hl.take k)
   rwa [List.length_take, Nat.min_eq_left h] at this
theorem shr_step {w wr : World} {g n sk lo k d0 d1 v : Nat} {xs hs : List Nat} (hlo : lo < 32) (hl : Lim xs) (hn : xs.length = sk + n) (hk : k < n) (hhs : hs.length = k) (hsl : Lim hs) (hown : Own wr g (hs ++ List.replicate (n - k) 0)) (hgr : w.grownBy wr (some g))
   (hv : val hs = val (xs.drop sk) / 2 ^ lo % 4294967296 ^ k) (h0 : xs.getD (k + sk) 0 = d0) (h1 : xs.getD (k + sk + 1) 0 = d1) (hv2 : v = (d0 + 4294967296 * d1) / 2 ^ lo % 4294967296) :
   ShrInv w g n sk lo xs (k + 1) (wr.setCell ⟨g, k, none⟩ (.int .u32 (v : Int))) := by
 have bv : v < 4294967296 := by rw [hv2]; exact Nat.mod_lt _ (by decide)
 refine ⟨hs ++ [v], by simp; omega, hsl.append (Lim.cons bv Lim.nil), ?_, grown_set hgr _, ?_⟩
 · have h2 := hown.set k v
   have e : (hs ++ List.replicate (n - k) 0).set k v = hs ++ [v] ++ List.replicate (n - (k + 1)) 0 := by
     rw [List.set_append_right _ _ (by omega), hhs, Nat.sub_self, show n - k = n - (k + 1) + 1 by omega, List.replicate_succ]
     simp
   rwa [e] at h2
 · rw [val_snoc, hv, hhs, Nat.mod_pow_succ]
   congr 2
   rw [Nat.div_div_eq_div_mul, Nat.mul_comm (2 ^ lo), ← Nat.div_div_eq_div_mul, ← val_drop_div (hl.drop sk), List.drop_drop, val_drop (by omega), show sk + k = k + sk by omega, h0, hv2]
   rcases Nat.lt_or_ge (k + sk + 1) xs.length with h | h
   · rw [val_drop h, h1, shr_limb hlo]
   · rw [List.drop_eq_nil_of_le h, show d1 = 0 by rw [← h1]; exact getD_beyond h]
     rfl
theorem shr_nums {d0 d1 lo : Nat} (h0 : d0 < 4294967296) (h1 : d1 < 4294967296) :
   ∃ p v u : Nat, Hid (v = (d0 + 4294967296 * d1) / 2 ^ lo % 4294967296) ∧ bits BinOp.or IntKind.u64 (d0 : Int) ((d1 : Int) * 4294967296) = p ∧ (p : Int) / 2 ^ lo = u ∧ (u : Int) % 4294967296 = v := by
 refine ⟨d0 + 4294967296 * d1, (d0 + 4294967296 * d1) / 2 ^ lo % 4294967296, (d0 + 4294967296 * d1) / 2 ^ lo, rfl, ?_, ?_, ?_⟩
 · have := u64_or_nat d0 (d1 * 4294967296) (by omega) (by omega)
   rw [Nat.or_comm, nat_join 32 _ _ (by omega) h0] at this
   have e : d1 * 4294967296 + d0 = d0 + 4294967296 * d1 := by omega
   rw [e] at this
   simpa using this
 · simp
 · simp
theorem shr_core (w : World) (b n c : Nat) (A : Option Addr) (xs : List Nat) (z : Int) (sk lo : Nat) (h : Sl w b A (sk + n) c xs) (hz0 : 1 ≤ z) (hq : z / 32 = (sk : Int)) (hr : z % 32 = (lo : Int)) (hlo : lo < 32) (hn : 0 < n) :
   Calls Tryz.prog 82 #[.slice A (sk + n) c, .int .i64 z] w (Ret1 w (limbs (val (xs.drop sk) / 2 ^ lo))) := by
 have H1 := Lib.hid h.len; have hbig := h.big
 have hmk := fun W => run_make32' n ((sk : Int) + n - sk) (by omega) (by omega) W
 have hal : Below w.heap.size w (w.alloc (.cells (arr (List.replicate n 0)) 54)) := (Below.refl _ _).alloc (Nat.le_refl _) _
 go_enter Tryz.func82, Tryz.ntmps82
 go_wp2; clear hmk
 go_loopw [29] (fun i wr => ∃ k : Nat, k ≤ n ∧ i = .int .i64 k ∧ ShrInv (w.alloc (.cells (arr (List.replicate n 0)) 54)) w.heap.size n sk lo xs k wr) (fun i _ => n - (intOf i).toNat)
 case atStart => exact ⟨0, Nat.zero_le _, rfl, [], rfl, Lim.nil, Own.new w _, grown_refl _ _, by rw [Nat.pow_zero, Nat.mod_one]; rfl⟩
 case round =>
   obtain ⟨k, hk, rfl, hI⟩ := hrel; have HI := Lib.hid hI; clear hI
   by_cases hlt : k < n
   · obtain ⟨hs, hhs, hsl, hown, hgr, hv⟩ := HI.out; have hbw := grown_of_new hal hgr; obtain ⟨o1, rfl, hc1⟩ := (h.below hbw).at (by omega); have hcell := hc1 (k + sk) (by omega); have b0 := h.lim.getD (k + sk); have b1 := h.lim.getD (k + sk + 1)
     have hlen : (hs ++ List.replicate (n - k) 0).length = n := by simp; omega
     have hcg := hown.cell (i := k) (by omega); have hcf := hown.frozen k; obtain ⟨q, hq2⟩ : ∃ q, (hs ++ List.replicate (n - k) 0).getD k 0 = q := ⟨_, rfl⟩; rw [hq2] at hcg
     have HS := Lib.hid (fun v d1 hd => shr_step (v := v) (d1 := d1) hlo h.lim H1.out hlt hhs hsl hown hgr hv rfl hd)
     by_cases hmore : k + sk + 1 < sk + n
     · have hcell2 := hc1 (k + sk + 1) hmore
       have HS' := Lib.hid (fun v => HS.out v _ rfl)
       clear HS hc1 hv hown hgr hhs hsl hlen hq2 HI
       revert hcell hcell2 b0 b1 HS'
       generalize xs.getD (k + sk) 0 = d0; generalize xs.getD (k + sk + 1) 0 = d1
       intro hcell b0 b1 hcell2 HS'
       obtain ⟨p, v, u, HV, e1, e2, e3⟩ := shr_nums (lo := lo) b0 b1; have HS2 := Lib.hid (HS'.out v HV.out); clear HS' HV; go_wp2
       go_roundw
       case rel => exact ⟨k + 1, by omega, by go_num, HS2.out⟩
       case measure => simp [intOf]; omega
     · have HS' := Lib.hid (fun v => HS.out v 0 (getD_beyond (by rw [H1.out]; omega)))
       clear HS hc1 hv hown hgr hhs hsl hlen hq2 HI b1
       revert hcell b0 HS'
       generalize xs.getD (k + sk) 0 = d0
       intro hcell b0 HS'
       obtain ⟨u, e2⟩ : ∃ u : Nat, (d0 : Int) / 2 ^ lo = u := ⟨d0 / 2 ^ lo, by simp⟩
       obtain ⟨v, e3⟩ : ∃ v : Nat, (u : Int) % 4294967296 = v := ⟨u % 4294967296, by simp⟩
       have HS2 := Lib.hid (HS'.out v (by
         have a : d0 / 2 ^ lo = u := by
           have : ((d0 / 2 ^ lo : Nat) : Int) = u := by simpa using e2
           omega
         rw [Nat.mul_zero, Nat.add_zero, a]; omega))
       clear HS'; go_wp2
       go_roundw
       case rel => exact ⟨k + 1, by omega, by go_num, HS2.out⟩
       case measure => simp [intOf]; omega
   · have hkn : k = n := by omega
     subst hkn; obtain ⟨hs, hhs, hsl, hown, hgr, hv⟩ := HI.out; rw [Nat.sub_self, List.replicate_zero, List.append_nil] at hown; have hS := hown.all hsl (by omega) (c := k) (by omega); rw [hhs] at hS
     have hlt2 : val (xs.drop sk) / 2 ^ lo < 4294967296 ^ k := by
       have := val_lt (h.lim.drop sk)
       rw [List.length_drop, H1.out, show sk + k - sk = k by omega] at this
       exact Nat.lt_of_le_of_lt (Nat.div_le_self _ _) this
     rw [Nat.mod_eq_of_lt hlt2] at hv; have HV := Lib.hid hv; have HB := Lib.hid (grown_of_new hal hgr); clear hown hgr hv hhs hsl hlt2 HI
     go_wp2_with (go_at_call 69; ((with_reducible refine (trim_any wr w.heap.size _ k k hs hS).mono ?_); rintro e w4 ⟨g4, A4, c4, rfl, hm4, hb4⟩))
     go_ret
     rw [HV.out] at hm4; rw [HV.out]; exact Ret1.of hm4 hb4 HB.out
theorem shr_low (w : World) (b : Nat) (A : Option Addr) (n c : Nat) (xs : List Nat) (z : Int) (h : Sl w b A n c xs) (hz : z < 1) :
   Calls Tryz.prog 82 #[.slice A n c, .int .i64 z] w (Ret1 w (limbs (val xs))) := by
 have HT := Lib.hid (trim_any w b A n c xs h)
 go_enter Tryz.func82, Tryz.ntmps82
 go_wp2_with (go_at_call 69; ((with_reducible refine HT.out.mono ?_); rintro e w4 ⟨g4, A4, c4, rfl, hm4, hb4⟩))
 go_ret
 exact ⟨g4, A4, c4, rfl, hm4, hb4⟩
theorem shr_all (w : World) (A : Option Addr) (n c : Nat) (z : Int) (hz : 1 ≤ z) (hz2 : z ≤ 9223372036854775807) (hn : (n : Int) ≤ z / 32) (hb : n ≤ 1099511627776) :
   Calls Tryz.prog 82 #[.slice A n c, .int .i64 z] w (Ret1 w []) := by
 go_enter Tryz.func82, Tryz.ntmps82
 go_wp2
 go_ret
 exact ⟨0, none, 0, rfl, ⟨Sl.nil, fun h => absurd h (by decide)⟩, Below.refl _ _⟩
theorem shr_any (w : World) (b : Nat) (A : Option Addr) (n c : Nat) (xs : List Nat) (z : Int) (h : Sl w b A n c xs) (hz2 : z ≤ 9223372036854775807) :
   Calls Tryz.prog 82 #[.slice A n c, .int .i64 z] w (Ret1 w (limbs (val xs / 2 ^ z.toNat))) := by
 by_cases h0 : z < 1
 · rw [show z.toNat = 0 by omega, Nat.pow_zero, Nat.div_one]
   exact shr_low w b A n c xs z h h0
 · have ez : z.toNat = 32 * (z / 32).toNat + (z % 32).toNat := by omega
   rw [ez, pow_split, ← Nat.div_div_eq_div_mul, ← val_drop_div h.lim]
   by_cases h1 : (n : Int) ≤ z / 32
   · rw [List.drop_eq_nil_of_le (by rw [h.len]; omega), show limbs (val [] / 2 ^ (z % 32).toNat) = [] by rw [val_nil, Nat.zero_div, limbs_zero]]
     exact shr_all w A n c z (by omega) hz2 h1 h.big
   · obtain ⟨m, hm⟩ : ∃ m, n = (z / 32).toNat + m := ⟨n - (z / 32).toNat, by omega⟩
     subst hm; exact shr_core w b m c A xs z (z / 32).toNat (z % 32).toNat h (by omega) (by omega) (by omega) (by omega) (by omega)
end Go.Proofs.YtmmallhniijdfaaGreatDoor
namespace Go.Proofs.YtmmallhniijdfaaGreatDoor
set_option linter.unusedVariables false
theorem blen_limbs {n : Nat} (h : n ≠ 0) : blen n = ((limbs n).length - 1) * 32 + blen ((limbs n).getD ((limbs n).length - 1) 0) := by
 have hl : (limbs n).length ≠ 0 := fun e => h (limbs_length_zero.1 e)
 have hs := val_take_succ (xs := limbs n) (k := (limbs n).length - 1) (by omega)
 rw [show (limbs n).length - 1 + 1 = (limbs n).length by omega, List.take_length, val_limbs] at hs
 have ht := val_lt ((lim_limbs n).take ((limbs n).length - 1)); rw [List.length_take, Nat.min_eq_left (by omega)] at ht
 have hp : 0 < 4294967296 ^ ((limbs n).length - 1) := Nat.pow_pos (by decide)
 have hlast := limbs_last h
 have hd : n / 4294967296 ^ ((limbs n).length - 1) = (limbs n).getD ((limbs n).length - 1) 0 := by
   have : ∀ p q r, p < 4294967296 ^ ((limbs n).length - 1) → r = p + 4294967296 ^ ((limbs n).length - 1) * q → r / 4294967296 ^ ((limbs n).length - 1) = q := by
     intro p q r hpq e
     rw [e, Nat.add_mul_div_left _ _ hp, Nat.div_eq_of_lt hpq, Nat.zero_add]
   exact this _ _ _ ht hs
 have hge : 4294967296 ^ ((limbs n).length - 1) ≤ n := by
   have := Nat.le_mul_of_pos_right (4294967296 ^ ((limbs n).length - 1)) (Nat.pos_of_ne_zero hlast)
   omega
 rw [pow32] at hd hge; rw [blen_shift n _ hge, hd]
end Go.Proofs.YtmmallhniijdfaaGreatDoor
namespace Go.Proofs.YtmmallhniijdfaaGreatDoor
set_option maxHeartbeats 400000
open Go.RowKit
set_option linter.unusedVariables false
theorem len_core (w : World) (b o n k c x L : Nat) (HC : Hid (Calls Tryz.prog 105 #[.slice (some ⟨b, o, none⟩) n c] w fun e w' => e = .returned (.slice (some ⟨b, o, none⟩) k c) ∧ w = w'))
   (hbig : k ≤ 1099511627776) (hpos : k ≠ 0) (hck : w.cell? ⟨b, o + (k - 1), none⟩ = some (.int .u32 (x : Int))) (hlt : x < 4294967296) (HB : Hid (L = (k - 1) * 32 + blen x)) :
   Calls Tryz.prog 98 #[.slice (some ⟨b, o, none⟩) n c] w fun e w' => e = .returned (.int .i64 (L : Int)) ∧ w = w' := by
 have hx := blen_mono_le (n := x) (k := 32) hlt
 have hk0 : ((k : Int) == 0) = false := by simpa using hpos
 have i1 : ((k : Int) - 1).toNat = k - 1 := by omega
 go_enter Tryz.func98, Tryz.ntmps98
 go_wp2_with (first
   | (go_at_call 105; ((with_reducible refine HC.out.mono ?_); rintro e w' ⟨rfl, rfl⟩))
   | (go_at_call 125; ((with_reducible refine (len32_any x hlt _).mono ?_); rintro e w' ⟨rfl, rfl⟩)))
 go_ret
 have e := HB.out; exact ⟨ret_int (by omega), rfl⟩
theorem len_any (w : World) (b : Nat) (A : Option Addr) (n c : Nat) (xs : List Nat) (h : Sl w b A n c xs) :
   Calls Tryz.prog 98 #[.slice A n c] w fun e w' => e = .returned (.int .i64 (blen (val xs) : Int)) ∧ w = w' := by
 have hle := val_limbs_le h.lim; have hlen := h.len; have hsl := h.take (k := (limbs (val xs)).length) (by omega); rw [limbs_prefix h.lim] at hsl; have HC := Lib.hid (cut_any w b A n c xs h); have hbig := hsl.big
 by_cases h0 : val xs = 0
 · rw [h0] at HC ⊢; rw [limbs_zero] at HC; clear hbig hsl hlen hle h h0
   go_enter Tryz.func98, Tryz.ntmps98
   go_wp2_with (go_at_call 105; ((with_reducible refine HC.out.mono ?_); rintro e w' ⟨rfl, rfl⟩))
   go_ret
   exact ⟨ret_int (by rw [blen_zero]; rfl), rfl⟩
 · have HB := Lib.hid (blen_limbs h0)
   have hpos : (limbs (val xs)).length ≠ 0 := fun e => h0 (limbs_length_zero.1 e)
   obtain ⟨o, rfl, hc⟩ := hsl.at (by omega); exact len_core w b o n _ c _ _ HC hbig hpos (hc _ (by omega)) ((lim_limbs (val xs)).getD _) HB
theorem shl_low (w : World) (b : Nat) (A : Option Addr) (n c : Nat) (xs : List Nat) (z : Int) (h : Sl w b A n c xs) (hz : z < 1) :
   Calls Tryz.prog 35 #[.slice A n c, .int .i64 z] w (Ret1 w (limbs (val xs))) := by
 have HT := Lib.hid (trim_any w b A n c xs h)
 go_enter Tryz.func35, Tryz.ntmps35
 go_wp2_with (go_at_call 69; ((with_reducible refine HT.out.mono ?_); rintro e w4 ⟨g4, A4, c4, rfl, hm4, hb4⟩))
 go_ret
 exact ⟨g4, A4, c4, rfl, hm4, hb4⟩
theorem shl_mid (w : World) (b : Nat) (A : Option Addr) (n c : Nat) (xs : List Nat) (z : Int) (h : Sl w b A n c xs) (hz : 1 ≤ z) (hz2 : z ≤ 16777216) (hn : n ≤ 549755813888) :
   Calls Tryz.prog 35 #[.slice A n c, .int .i64 z] w (Ret1 w (limbs (val xs * 2 ^ z.toNat))) := by
 have HT := Lib.hid (raised_any w b n c A xs z (z / 32).toNat (z % 32).toNat h (by omega) (by omega) (by omega) (by omega) (by omega))
 have e : 32 * (z / 32).toNat + (z % 32).toNat = z.toNat := by omega
 unfold RaisedPost at HT
 rw [e] at HT; clear e
 have hs : n + (z / 32).toNat + 1 ≤ 1099511627776 := by omega
 revert HT hs
 generalize n + (z / 32).toNat + 1 = L
 intro HT hs
 go_enter Tryz.func35, Tryz.ntmps35
 go_wp2_with (go_at_call 70; ((with_reducible refine HT.out.mono ?_); rintro e w3 ⟨g, l, rfl, hg, hown, hlen, hlim, hv, hb⟩))
 have hS := hown.all hlim (by omega) (c := L) (by omega); rw [hlen] at hS; have HV := Lib.hid hv; have HB := Lib.hid hb; clear hown hlen hlim hv hb HT
 go_wp2_with (go_at_call 69; ((with_reducible refine (trim_any w3 g _ L L l hS).mono ?_); rintro e w4 ⟨g4, A4, c4, rfl, hm4, hb4⟩))
 go_ret
 rw [HV.out] at hm4; rw [HV.out]; exact Ret1.of hm4 hb4 HB.out
theorem shl_any (w : World) (b : Nat) (A : Option Addr) (n c : Nat) (xs : List Nat) (s : Nat) (h : Sl w b A n c xs) (hz2 : s ≤ 16777216) (hn : n ≤ 549755813888) :
   Calls Tryz.prog 35 #[.slice A n c, .int .i64 (s : Int)] w (Ret1 w (limbs (val xs * 2 ^ s))) := by
 by_cases h0 : s = 0
 · subst h0; rw [Nat.pow_zero, Nat.mul_one]; exact shl_low w b A n c xs _ h (by omega)
 · have := shl_mid w b A n c xs (s : Int) h (by omega) (by omega) hn
   rwa [Int.toNat_natCast] at this
end Go.Proofs.YtmmallhniijdfaaGreatDoor
