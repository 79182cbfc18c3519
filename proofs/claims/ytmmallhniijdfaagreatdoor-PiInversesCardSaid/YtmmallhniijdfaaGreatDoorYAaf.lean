/-
 Contracts that the proof rests on.
-/
import Derived.Test.YtmmallhniijdfaaGreatDoorYAae
namespace Go.Proofs.YtmmallhniijdfaaGreatDoor
set_option maxHeartbeats 1000000
open Go.RowKit
set_option linter.unusedVariables false
theorem cut_sl {w : World} {b : Nat} {A : Option Addr} {n c : Nat} {xs : List Nat} (h : Sl w b A n c xs) : Sl w b A (limbs (val xs)).length c (limbs (val xs)) := by
 have := h.take (k := (limbs (val xs)).length) (by have := val_limbs_le h.lim; have := h.len; omega)
 rwa [limbs_prefix h.lim] at this
theorem lim_made {la : List Nat} (h : Lim la) (n k : Nat) : Lim (la ++ (List.replicate n 0).drop k) := h.append ((Lim.replicate n).drop k)
theorem val_made (la : List Nat) (n k : Nat) : val (la ++ (List.replicate n 0).drop k) = val la := by
 rw [val_append, List.drop_replicate, val_zeros]; simp
theorem grown_of_new {w w1 w2 : World} (h1 : Below w.heap.size w w1) (h2 : w1.grownBy w2 (some w.heap.size)) : Below w.heap.size w w2 := h1.trans (below_grown h2 (Nat.le_refl _) h1.size)
theorem add_end {la lb zs : List Nat} {cy p : Nat} (hp : la.length = p) (hq : lb.length ≤ p) (ha : Lim la) (hb : Lim lb) (hz : zs.length = p + 1) (hv : val zs + cy * 4294967296 ^ (p + 1) = val la + val lb) : val zs = val la + val lb := by
 have h1 := val_lt ha; have h2 := val_lt hb; have h3 := Nat.pow_le_pow_right (n := 4294967296) (by decide) hq; rw [hp] at h1; rw [Nat.pow_succ] at hv
 rcases Nat.eq_zero_or_pos cy with e | e
 · subst e; omega
 · have := Nat.mul_le_mul_right (4294967296 ^ p * 4294967296) e
   omega
theorem Ret1.of {w w1 w' : World} {l : List Nat} {g c : Nat} {A : Option Addr} (h : Made w1 w' l g A c) (hb : Below w1.heap.size w1 w') (hw : Below w.heap.size w w1) : Ret1 w l (.returned (.slice A l.length c)) w' :=
 ⟨g, A, c, rfl, ⟨h.1, fun h0 => ⟨Nat.le_trans hw.size (h.2 h0).1, (h.2 h0).2⟩⟩, hw.trans (hb.mono hw.size)⟩
theorem Turned.all {w w' : World} {g : Nat} {l zs : List Nat} (h : Turned w g 0 l zs w') (hz : zs.length = l.length) : Own w' g zs := by
 have := h.1
 unfold mid at this
 rw [hz] at this
 simpa using this
theorem add_core (w : World) (b1 b2 : Nat) (A1 A2 : Option Addr) (n m c1 c2 p q : Nat) (la lb : List Nat) (h1 : Sl w b1 A1 p c1 la) (h2 : Sl w b2 A2 q c2 lb)
   (HC1 : Hid (Calls Tryz.prog 105 #[.slice A1 n c1] w fun e w' => e = .returned (.slice A1 p c1) ∧ w = w'))
   (HC2 : Hid (Calls Tryz.prog 105 #[.slice A2 m c2] w fun e w' => e = .returned (.slice A2 q c2) ∧ w = w'))
   (hp : p ≤ 549755813888) (hq : q ≤ 549755813888) :
   Calls Tryz.prog 83 #[.slice A1 n c1, .slice A2 m c2] w (Ret1 w (limbs (val la + val lb))) := by
 have H1 := Lib.hid h1.len; have H2 := Lib.hid h2.len
 by_cases hpq : p < q
 · have hmk := fun W => run_make32' (q + 1) ((q : Int) + 1) (by omega) (by omega) W
   have hal : Below w.heap.size w (w.alloc (.cells (arr (List.replicate (q + 1) 0)) 54)) := (Below.refl _ _).alloc (Nat.le_refl _) _
   go_enter Tryz.func83, Tryz.ntmps83
   go_wp2_with (first
     | (go_at_call 105; ((with_reducible refine HC1.out.mono ?_); rintro e w' ⟨rfl, rfl⟩))
     | (go_at_call 105; ((with_reducible refine HC2.out.mono ?_); rintro e w' ⟨rfl, rfl⟩))
     | (with_reducible refine wpList_copy32 rfl (.tmp 21) (.tmp 22) 23 rfl 54 Tryz.underlying23 size32 w.heap.size (q + 1) (q + 1) b2 A2 q c2 (List.replicate (q + 1) 0) lb rfl rfl (Own.new w _) (h2.below hal) (by simp) (by omega) ?_; intro w2 ho2 hg2; have HO2 := Lib.hid ho2; clear ho2))
   have HB2 := Lib.hid (grown_of_new hal hg2)
   have hlen : (lb ++ (List.replicate (q + 1) 0).drop q).length = q + 1 := by have := H2.out; simp; omega
   refine (addTo_any w2 w.heap.size 0 (q + 1) (q + 1) b1 p c1 A1 _ la HO2.out (lim_made h2.lim _ _) (by omega) (by omega) (h1.below HB2.out) (fun h => by have := h1.lt h; omega) (by omega)).mono ?_
   rintro e w3 ⟨rfl, zs, cy, hz, ht, hcy, hv⟩; rw [List.drop_zero, List.take_of_length_le (by omega), val_made] at hv; have HV := Lib.hid (add_end H2.out (by rw [H1.out]; omega) h2.lim h1.lim hz hv); have HO3 := Lib.hid (ht.all (by omega)); have HB3 := Lib.hid (HB2.out.trans (below_grown ht.2.1 (Nat.le_refl _) HB2.out.size)); have HL := Lib.hid ht.2.2; have HZ := Lib.hid hz; clear hv ht hlen hg2 hmk hal hz HC1 HC2
   have hs := HO3.out.all HL.out (by rw [HZ.out]; omega) (c := q + 1) (by rw [HZ.out]; omega); rw [HZ.out] at hs
   go_wp2_with (go_at_call 69; ((with_reducible refine (trim_any w3 w.heap.size _ (q + 1) (q + 1) zs hs).mono ?_); rintro e w4 ⟨g4, A4, c4, rfl, hm4, hb4⟩))
   go_ret
   rw [HV.out] at hm4; rw [HV.out, Nat.add_comm (val la)]; rw [Nat.add_comm] at hm4 ⊢; exact Ret1.of hm4 hb4 HB3.out
 · have hmk := fun W => run_make32' (p + 1) ((p : Int) + 1) (by omega) (by omega) W
   have hal : Below w.heap.size w (w.alloc (.cells (arr (List.replicate (p + 1) 0)) 54)) := (Below.refl _ _).alloc (Nat.le_refl _) _
   go_enter Tryz.func83, Tryz.ntmps83
   go_wp2_with (first
     | (go_at_call 105; ((with_reducible refine HC1.out.mono ?_); rintro e w' ⟨rfl, rfl⟩))
     | (go_at_call 105; ((with_reducible refine HC2.out.mono ?_); rintro e w' ⟨rfl, rfl⟩))
     | (with_reducible refine wpList_copy32 rfl (.tmp 21) (.tmp 22) 23 rfl 54 Tryz.underlying23 size32 w.heap.size (p + 1) (p + 1) b1 A1 p c1 (List.replicate (p + 1) 0) la rfl rfl (Own.new w _) (h1.below hal) (by simp) (by omega) ?_; intro w2 ho2 hg2; have HO2 := Lib.hid ho2; clear ho2))
   have HB2 := Lib.hid (grown_of_new hal hg2)
   have hlen : (la ++ (List.replicate (p + 1) 0).drop p).length = p + 1 := by have := H1.out; simp; omega
   refine (addTo_any w2 w.heap.size 0 (p + 1) (p + 1) b2 q c2 A2 _ lb HO2.out (lim_made h1.lim _ _) (by omega) (by omega) (h2.below HB2.out) (fun h => by have := h2.lt h; omega) (by omega)).mono ?_
   rintro e w3 ⟨rfl, zs, cy, hz, ht, hcy, hv⟩; rw [List.drop_zero, List.take_of_length_le (by omega), val_made] at hv; have HV := Lib.hid (add_end H1.out (by rw [H2.out]; omega) h1.lim h2.lim hz hv); have HO3 := Lib.hid (ht.all (by omega)); have HB3 := Lib.hid (HB2.out.trans (below_grown ht.2.1 (Nat.le_refl _) HB2.out.size)); have HL := Lib.hid ht.2.2; have HZ := Lib.hid hz; clear hv ht hlen hg2 hmk hal hz HC1 HC2
   have hs := HO3.out.all HL.out (by rw [HZ.out]; omega) (c := p + 1) (by rw [HZ.out]; omega); rw [HZ.out] at hs
   go_wp2_with (go_at_call 69; ((with_reducible refine (trim_any w3 w.heap.size _ (p + 1) (p + 1) zs hs).mono ?_); rintro e w4 ⟨g4, A4, c4, rfl, hm4, hb4⟩))
   go_ret
   rw [HV.out] at hm4; rw [HV.out]; exact Ret1.of hm4 hb4 HB3.out
theorem add_any (w : World) (b1 b2 : Nat) (A1 A2 : Option Addr) (n m c1 c2 : Nat) (xs ys : List Nat) (h1 : Sl w b1 A1 n c1 xs) (h2 : Sl w b2 A2 m c2 ys) (hn : n ≤ 549755813888) (hm : m ≤ 549755813888) :
   Calls Tryz.prog 83 #[.slice A1 n c1, .slice A2 m c2] w (Ret1 w (limbs (val xs + val ys))) := by
 have := add_core w b1 b2 A1 A2 n m c1 c2 _ _ _ _ (cut_sl h1) (cut_sl h2) (cut_any w b1 A1 n c1 xs h1) (cut_any w b2 A2 m c2 ys h2)
   (by have := val_limbs_le h1.lim; have := h1.len; omega) (by have := val_limbs_le h2.lim; have := h2.len; omega)
 rwa [val_limbs, val_limbs] at this
theorem sub_lt (w : World) (b1 b2 : Nat) (A1 A2 : Option Addr) (n m c1 c2 : Nat) (xs ys : List Nat) (h1 : Sl w b1 A1 n c1 xs) (h2 : Sl w b2 A2 m c2 ys) (hlt : val xs < val ys) :
   Calls Tryz.prog 101 #[.slice A1 n c1, .slice A2 m c2] w fun e w' => e = .returned (.tuple #[.slice none 0 0, .bool false]) ∧ ∃ q, w' = w.drewN q := by
 have HC := cmp_any w b1 b2 A1 A2 n m c1 c2 xs ys h1 h2; rw [cmpI_lt (by omega)] at HC; have HC := Lib.hid HC; clear h1 h2 hlt
 go_enter Tryz.func101, Tryz.ntmps101
 go_wp2_with (go_at_call 127; ((with_reducible refine HC.out.mono ?_); rintro e w' ⟨rfl, q, rfl⟩))
 go_ret2
 exact ⟨rfl, _, rfl⟩
def Ret1T (w : World) (l : List Nat) (e : Ending) (w' : World) : Prop :=
 ∃ g A c, e = .returned (.tuple #[.slice A l.length c, .bool true]) ∧ Made w w' l g A c ∧ Below w.heap.size w w'
theorem Made.of {w w1 w' : World} {l : List Nat} {g c : Nat} {A : Option Addr} (h : Made w1 w' l g A c) (hw : Below w.heap.size w w1) : Made w w' l g A c :=
 ⟨h.1, fun h0 => ⟨Nat.le_trans hw.size (h.2 h0).1, (h.2 h0).2⟩⟩
theorem cmpI_ge {a b : Nat} (h : b ≤ a) : ∃ z : Int, cmpI (a : Int) (b : Int) = z ∧ 0 ≤ z := by
 rcases Nat.lt_or_ge b a with h1 | h1
 · exact ⟨_, cmpI_gt (by omega), by omega⟩
 · exact ⟨_, cmpI_eq (by omega), by omega⟩
theorem sub_end {a b z q p : Nat} (hv : a + q * p = z + 1 * b) (hz : z < p) (h : b ≤ a) : z = a - b := by
 rcases Nat.eq_zero_or_pos q with e | e
 · subst e; omega
 · have := Nat.mul_le_mul_right p e
   omega
theorem sub_ge (w : World) (b1 b2 : Nat) (A1 A2 : Option Addr) (n m c1 c2 : Nat) (xs ys : List Nat) (h1 : Sl w b1 A1 n c1 xs) (h2 : Sl w b2 A2 m c2 ys) (hge : val ys ≤ val xs) :
   Calls Tryz.prog 101 #[.slice A1 n c1, .slice A2 m c2] w (Ret1T w (limbs (val xs - val ys))) := by
 have HC := cmp_any w b1 b2 A1 A2 n m c1 c2 xs ys h1 h2; obtain ⟨z, hz, hz0⟩ := cmpI_ge hge; rw [hz] at HC; have HC := Lib.hid HC; clear hz; have HG := Lib.hid hge; clear hge
 go_enter Tryz.func101, Tryz.ntmps101
 go_wp2_with (first
   | (go_at_call 127; ((with_reducible refine HC.out.mono ?_); rintro e w' ⟨rfl, q, rfl⟩))
   | (go_at_call 69; ((with_reducible refine (trim_any _ b1 A1 n c1 xs (h1.drewN _)).mono ?_); rintro e w2 ⟨g, A, c, rfl, hm2, hb2⟩)))
 have hsl2 : Sl w2 b2 A2 m c2 ys := (h2.drewN _).below hb2
 have hb2' : Below w.heap.size w w2 := (below_drewN (Below.refl _ _) _).trans hb2
 clear HC hb2; refine (cut_any w2 b2 A2 m c2 ys hsl2).mono ?_; rintro e w3 ⟨rfl, rfl⟩; have hcs := Lib.hid (cut_sl hsl2)
 by_cases h0 : val xs = 0
 · have hy0 : val ys = 0 := by have := HG.out; omega
   have HE : Hid (limbs (val xs - val ys) = []) := by show _ = _; rw [h0, Nat.zero_sub, limbs_zero]
   rw [h0, limbs_zero] at hm2; rw [h0, hy0]; simp only [limbs_zero, List.length_nil]
   have hz : Sl w2 g A 0 c [] := hm2.1
   clear hm2 h0 hy0 hcs HG
   go_wp2_with (first
     | (go_at_call 128; ((with_reducible refine (takeFrom_none1 _ _ _ _ _ _).mono ?_); rintro e w4 ⟨rfl, rfl⟩))
     | (go_at_call 69; ((with_reducible refine (trim_any w2 g A 0 c [] hz).mono ?_); rintro e w4 ⟨g4, A4, c4, rfl, hm4, hb4⟩)))
   go_ret2
   have e : limbs (val []) = [] := limbs_zero
   rw [e] at hm4; rw [e, HE.out]; exact ⟨g4, A4, c4, rfl, hm4.of hb2', hb2'.trans (hb4.mono hb2'.size)⟩
 · have hpos : 0 < (limbs (val xs)).length := Nat.pos_of_ne_zero fun e => h0 (limbs_length_zero.1 e)
   obtain ⟨hg, rfl, hown⟩ := hm2.2 hpos; have hge := HG.out; have hbig := hm2.1.big; have hcap := hm2.1.cap; have hlen := limbs_length_mono hge; have HOWN := Lib.hid hown
   have hgw : w.heap.size ≤ g := hg
   clear hown hm2 hg h0
   go_wp2_with fail
   refine (takeFrom_one w2 g 0 _ c b2 _ c2 A2 _ _ HOWN.out (lim_limbs _) (by omega) hbig hcs.out (fun h => by have := h2.lt (by have := val_limbs_le h2.lim; have := h2.len; omega); omega) hlen).mono ?_
   rintro e w4 ⟨q4, rfl, zs, hz, ht, hv⟩; rw [List.drop_zero, List.take_length, val_limbs, val_limbs] at hv; have HV := Lib.hid (sub_end hv (by have := val_lt ht.2.2; rwa [hz] at this) hge); have HO4 := Lib.hid (ht.all hz); have HB4 := Lib.hid (hb2'.trans (below_grown ht.2.1 hgw hb2'.size)); have hs := ((ht.all hz).all ht.2.2 (by omega) (c := c) (by rw [hz]; exact hcap)); rw [hz] at hs; clear hv ht HOWN hge HG hcs hz hlen hpos
   go_wp2_with (go_at_call 69; ((with_reducible refine (trim_any w4 g _ _ _ zs hs).mono ?_); rintro e w5 ⟨g5, A5, c5, rfl, hm5, hb5⟩))
   go_ret2
   rw [HV.out] at hm5; rw [HV.out]; exact ⟨g5, A5, c5, rfl, hm5.of HB4.out, HB4.out.trans (hb5.mono HB4.out.size)⟩
def Out (w : World) (l : List Nat) (A : Option Addr) (c : Nat) : Prop := ∃ b, Sl w b A l.length c l ∧ (0 < l.length → ∃ cs, w.heap[b]? = some (.cells cs 54 (0, 0)))
theorem Out.below {w w' : World} {l : List Nat} {A : Option Addr} {c : Nat} (h : Out w l A c) (hb : Below w.heap.size w w') : Out w' l A c := by
 obtain ⟨b, h, k⟩ := h
 refine ⟨b, h.below hb, fun hn => ?_⟩
 obtain ⟨cs, e⟩ := k hn; exact ⟨cs, (hb.block b (h.lt hn)).trans e⟩
theorem Made.out {w w' : World} {l : List Nat} {g c : Nat} {A : Option Addr} (h : Made w w' l g A c) : Out w' l A c := ⟨g, h.1, fun hn => ⟨_, (h.2 hn).2.2⟩⟩
def Ret2 (w : World) (lq lr : List Nat) (e : Ending) (w' : World) : Prop :=
 ∃ A1 c1 A2 c2, e = .returned (.tuple #[.slice A1 lq.length c1, .slice A2 lr.length c2]) ∧ Out w' lq A1 c1 ∧ Out w' lr A2 c2 ∧ Below w.heap.size w w'
def LimbInv (w : World) (g n d : Nat) (xs : List Nat) (k r : Nat) (wr : World) : Prop :=
 ∃ hs : List Nat, hs.length = k ∧ Lim hs ∧ r < d ∧ Own wr g (List.replicate (n - k) 0 ++ hs) ∧ w.grownBy wr (some g) ∧ val hs * d + r = val (xs.drop (n - k))
theorem limb_step {w wr : World} {g n d k r x : Nat} {xs hs : List Nat} (hd : d < 4294967296) (hl : Lim xs) (hn : xs.length = n) (hk : k < n) (hhs : hs.length = k) (hsl : Lim hs) (hr : r < d) (hown : Own wr g (List.replicate (n - k) 0 ++ hs)) (hgr : w.grownBy wr (some g))
   (hv : val hs * d + r = val (xs.drop (n - k))) (hx : xs.getD (n - 1 - k) 0 = x) (q : Nat) :
   LimbInv w g n d xs (k + 1) ((r * 4294967296 + x) % d) ((wr.drewN q).setCell ⟨g, n - 1 - k, none⟩ (.int .u32 (((r * 4294967296 + x) / d : Nat) : Int))) := by
 have hd0 : 0 < d := by omega
 have bx : x < 4294967296 := by rw [← hx]; exact hl.getD _
 have hq : (r * 4294967296 + x) / d < 4294967296 := by
   rw [Nat.div_lt_iff_lt_mul hd0, Nat.mul_comm 4294967296 d]
   have := Nat.mul_le_mul_right 4294967296 (show r + 1 ≤ d from hr)
   omega
 refine ⟨(r * 4294967296 + x) / d :: hs, by simp; omega, Lim.cons hq hsl, Nat.mod_lt _ hd0, ?_, grown_set (grown_drewN hgr q) _, ?_⟩
 · have h2 : Own ((wr.drewN q).setCell ⟨g, n - 1 - k, none⟩ (.int .u32 (((r * 4294967296 + x) / d : Nat) : Int))) g ((List.replicate (n - k) 0 ++ hs).set (n - 1 - k) ((r * 4294967296 + x) / d)) := Own.set (w := wr.drewN q) hown _ _
   have e : (List.replicate (n - k) 0 ++ hs).set (n - 1 - k) ((r * 4294967296 + x) / d) = List.replicate (n - (k + 1)) 0 ++ ((r * 4294967296 + x) / d :: hs) := by
     rw [show n - k = n - (k + 1) + 1 by omega, ← List.replicate_append_replicate, List.append_assoc, List.set_append_right _ _ (by simp; omega), List.length_replicate, show n - 1 - k - (n - (k + 1)) = 0 by omega]
     simp
   rwa [e] at h2
 · rw [show n - (k + 1) = n - 1 - k by omega, val_drop (by omega), hx, show n - 1 - k + 1 = n - k by omega, ← hv, val_cons]
   have e := Nat.mod_add_div (r * 4294967296 + x) d
   have e2 : (r * 4294967296 + x) / d * d = d * ((r * 4294967296 + x) / d) := Nat.mul_comm _ _
   rw [Nat.add_mul, e2, Nat.mul_assoc]; generalize d * ((r * 4294967296 + x) / d) = t at *; generalize (r * 4294967296 + x) % d = u at *; generalize val hs * d = v at *
   omega
theorem divLimb_any (w : World) (b n c : Nat) (A : Option Addr) (xs : List Nat) (d : Nat) (h : Sl w b A n c xs) (hd0 : 0 < d) (hd : d < 4294967296) :
   Calls Tryz.prog 135 #[.slice A n c, .int .u32 (d : Int)] w (Ret2 w (limbs (val xs / d)) (limbs (val xs % d))) := by
 have H1 := Lib.hid h.len; have hbig := h.big
 have hmk := fun W => run_make32' n (n : Int) rfl (by omega) W
 have hal : Below w.heap.size w (w.alloc (.cells (arr (List.replicate n 0)) 54)) := (Below.refl _ _).alloc (Nat.le_refl _) _
 go_enter Tryz.func135, Tryz.ntmps135
 go_wp2; clear hmk
 go_loopw [7, 15] (fun u i wr => ∃ k r : Nat, k ≤ n ∧ i = .int .i64 k ∧ u = .int .u32 r ∧ LimbInv (w.alloc (.cells (arr (List.replicate n 0)) 54)) w.heap.size n d xs k r wr) (fun _ i _ => n - (intOf i).toNat)
 case atStart => exact ⟨0, 0, Nat.zero_le _, rfl, rfl, [], rfl, Lim.nil, hd0, by rw [List.append_nil]; exact Own.new w _, grown_refl _ _, by rw [List.drop_of_length_le (by rw [H1.out]; omega)]; simp [val]⟩
 case round =>
   obtain ⟨k, r, hk, rfl, rfl, hI⟩ := hrel; have HI := Lib.hid hI; clear hI
   by_cases hlt : k < n
   · obtain ⟨hs, hhs, hsl, hr, hown, hgr, hv⟩ := HI.out; have hbw := grown_of_new hal hgr; obtain ⟨o1, rfl, hc1⟩ := (h.below hbw).at (by omega); have hcell := hc1 (n - 1 - k) (by omega); have b0 := h.lim.getD (n - 1 - k)
     have hlen : (List.replicate (n - k) 0 ++ hs).length = n := by simp; omega
     have hcg := hown.cell (i := n - 1 - k) (by omega); have hcf := hown.frozen (n - 1 - k); obtain ⟨q, hq2⟩ : ∃ q, (List.replicate (n - k) 0 ++ hs).getD (n - 1 - k) 0 = q := ⟨_, rfl⟩; rw [hq2] at hcg; have HS := Lib.hid (limb_step hd h.lim H1.out hlt hhs hsl hr hown hgr hv rfl); clear hc1 hv hown hgr hhs hsl hlen hq2 HI
     revert hcell b0 HS
     generalize xs.getD (n - 1 - k) 0 = x
     intro hcell b0 HS
     have i1 : ((n : Int) - 1 - k).toNat = n - 1 - k := by omega
     go_wp2_with (go_at_call 140; ((with_reducible refine (div32_any r x d hr b0 hd _).mono ?_); rintro e w' ⟨rfl, q2, rfl⟩))
     go_roundw
     case rel => exact ⟨k + 1, _, by omega, by go_num, rfl, HS.out _⟩
     case measure => simp [intOf]; omega
   · have hkn : k = n := by omega
     subst hkn; obtain ⟨hs, hhs, hsl, hr, hown, hgr, hv⟩ := HI.out; rw [Nat.sub_self, List.replicate_zero, List.nil_append] at hown; rw [Nat.sub_self, List.drop_zero] at hv; have hS := hown.all hsl (by omega) (c := k) (by omega); rw [hhs] at hS
     have hq : val xs / d = val hs := by
       rw [← hv, Nat.mul_comm, Nat.mul_add_div hd0, Nat.div_eq_of_lt hr, Nat.add_zero]
     have hm : val xs % d = r := by
       rw [← hv, Nat.mul_comm, Nat.mul_add_mod, Nat.mod_eq_of_lt hr]
     have HM := Lib.hid hm; have HV := Lib.hid hq; have HB := Lib.hid (grown_of_new hal hgr); clear hown hgr hv hhs hsl HI hq hm
     go_wp2_with (go_at_call 69; ((with_reducible refine (trim_any wr w.heap.size _ k k hs hS).mono ?_); rintro e w4 ⟨g4, A4, c4, rfl, hm4, hb4⟩))
     have hS2 : Sl (w4.alloc (.cells #[.int .u32 (r : Int)] 54)) w4.heap.size (some ⟨w4.heap.size, 0, none⟩) 1 1 [r] := (Own.new w4 [r]).all (Lim.cons (by omega) Lim.nil) (by simp) (Nat.le_refl _)
     have hal4 : Below w4.heap.size w4 (w4.alloc (.cells #[.int .u32 (r : Int)] 54)) := (Below.refl _ _).alloc (Nat.le_refl _) _
     have HB4 := Lib.hid (HB.out.trans (hb4.mono HB.out.size))
     have HO4 : Hid (Out w4 (limbs (val hs)) A4 c4) := hm4.out
     clear hm4 hb4 HB; refine (trim_any _ w4.heap.size _ 1 1 [r] hS2).mono ?_; rintro e w5 ⟨g5, A5, c5, rfl, hm5, hb5⟩
     have e1 : val [r] = r := by simp [val]
     rw [e1] at hm5 ⊢
     have hb5' : Below w4.heap.size w4 w5 := hal4.trans (hb5.mono hal4.size)
     have HO5 : Hid (Out w5 (limbs r) A5 c5) := hm5.out
     clear hm5 hb5 hal4 hS2 e1; go_wp2
     go_ret2
     rw [HV.out, HM.out]; exact ⟨A4, c4, A5, c5, rfl, HO4.out.below hb5', HO5.out, HB4.out.trans (hb5'.mono HB4.out.size)⟩
theorem guess_le {P top r2 R' high next v' D : Nat} (hD : D < 4294967296) (hh : 0 < high) (hv : v' < P) (hx : D * (high * 4294967296 + next) ≤ top * 4294967296 + r2) :
   D ≤ (P * (top * 4294967296 + r2) + R') / (P * (high * 4294967296 + next) + v') + 1 := by
 have hP : 0 < P := by omega
 have hV : 0 < P * (high * 4294967296 + next) + v' := by
   have : 0 < P * (high * 4294967296 + next) := Nat.mul_pos hP (by omega)
   omega
 have h1 : D * (P * (high * 4294967296 + next) + v') < (P * (top * 4294967296 + r2) + R') + (P * (high * 4294967296 + next) + v') := by
   have a1 : D * (P * (high * 4294967296 + next)) ≤ P * (top * 4294967296 + r2) := by
     rw [Nat.mul_left_comm]; exact Nat.mul_le_mul_left P hx
   have a2 : D * v' ≤ 4294967295 * P := Nat.mul_le_mul (by omega) (by omega)
   have a3 : P * 4294967296 ≤ P * (high * 4294967296 + next) := Nat.mul_le_mul_left P (by omega)
   rw [Nat.mul_add]
   omega
 have h2 : (D - 1) * (P * (high * 4294967296 + next) + v') ≤ P * (top * 4294967296 + r2) + R' := by
   rw [Nat.sub_mul, Nat.one_mul]
   omega
 have h3 := (Nat.le_div_iff_mul_le hV).2 h2
 omega
theorem guess_ge {P top r2 R' high next v' q : Nat} (hR : R' < P) (hq : q * (P * (high * 4294967296 + next) + v') ≤ P * (top * 4294967296 + r2) + R') : q * (high * 4294967296 + next) ≤ top * 4294967296 + r2 := by
 have a1 : P * (q * (high * 4294967296 + next)) ≤ q * (P * (high * 4294967296 + next) + v') := by
   rw [Nat.mul_add q (P * (high * 4294967296 + next)) v', Nat.mul_left_comm q P]
   exact Nat.le_add_right _ _
 have a2 : P * (q * (high * 4294967296 + next)) < P * (top * 4294967296 + r2 + 1) := by
   rw [Nat.mul_add P (top * 4294967296 + r2)]
   omega
 have := Nat.lt_of_mul_lt_mul_left a2
 omega
theorem guess_top {top r2 high next q : Nat} (h2 : r2 < 4294967296) (h : q * (high * 4294967296 + next) ≤ top * 4294967296 + r2) : q * high ≤ top := by
 have a : q * high * 4294967296 ≤ q * (high * 4294967296 + next) := by
   rw [Nat.mul_add, Nat.mul_assoc]; exact Nat.le_add_right _ _
 have b : q * high * 4294967296 < (top + 1) * 4294967296 := by omega
 have := Nat.lt_of_mul_lt_mul_right b
 omega
theorem top3 {rs : List Nat} {n : Nat} (hn : 2 ≤ n) (hl : rs.length = n + 1) : val rs = 4294967296 ^ (n - 2) * ((rs.getD n 0 * 4294967296 + rs.getD (n - 1) 0) * 4294967296 + rs.getD (n - 2) 0) + val (rs.take (n - 2)) := by
 rw [val_take_drop rs (k := n - 2) (by omega), val_drop (by omega), show n - 2 + 1 = n - 1 by omega, val_drop (by omega), show n - 1 + 1 = n by omega, val_drop (by omega), List.drop_eq_nil_of_le (by omega), val_nil, Nat.add_comm]
 congr 2
 omega
theorem top2 {ds : List Nat} {n : Nat} (hn : 2 ≤ n) (hl : ds.length = n) : val ds = 4294967296 ^ (n - 2) * (ds.getD (n - 1) 0 * 4294967296 + ds.getD (n - 2) 0) + val (ds.take (n - 2)) := by
 rw [val_take_drop ds (k := n - 2) (by omega), val_drop (by omega), show n - 2 + 1 = n - 1 by omega, val_drop (by omega), List.drop_eq_nil_of_le (by omega), val_nil, Nat.add_comm]
 congr 2
 omega
def GuessInv (q top high : Nat) (D lf : Nat) : Prop := q ≤ D ∧ D < 4294967296 ∧ lf + D * high = top
theorem guess_start {q top high : Nat} (hh : 0 < high) (hq : q < 4294967296) (hqt : q * high ≤ top) : GuessInv q top high (min (top / high) 4294967295) (top - min (top / high) 4294967295 * high) := by
 have h1 := (Nat.le_div_iff_mul_le hh).2 hqt
 have h2 : min (top / high) 4294967295 * high ≤ top := by
   have := Nat.mul_le_mul_right high (Nat.min_le_left (top / high) 4294967295)
   have := Nat.div_mul_le_self top high
   omega
 exact ⟨by omega, by omega, by omega⟩
theorem guess_down {q top r2 high next D lf : Nat} (h : GuessInv q top high D lf) (hqq : q * (high * 4294967296 + next) ≤ top * 4294967296 + r2) (hgt : lf * 4294967296 + r2 < D * next) : GuessInv q top high (D - 1) (lf + high) ∧ 0 < D := by
 obtain ⟨h1, h2, h3⟩ := h
 have hD : 0 < D := by
   rcases Nat.eq_zero_or_pos D with e | e
   · subst e; omega
   · exact e
 have hne : q ≠ D := by
   rintro rfl; rw [Nat.mul_add, ← Nat.mul_assoc] at hqq; rw [← h3] at hqq
   omega
 refine ⟨⟨by omega, by omega, ?_⟩, hD⟩
 obtain ⟨d, rfl⟩ : ∃ d, D = d + 1 := ⟨D - 1, by omega⟩
 rw [Nat.add_sub_cancel]; rw [Nat.add_mul, Nat.one_mul] at h3
 omega
theorem guess_end {q top r2 high next D lf : Nat} (h : GuessInv q top high D lf) (hle : D * next ≤ lf * 4294967296 + r2) : D * (high * 4294967296 + next) ≤ top * 4294967296 + r2 := by
 obtain ⟨_, _, h3⟩ := h; rw [Nat.mul_add, ← Nat.mul_assoc, ← h3]
 omega
theorem guess_end_big {q top r2 high next D lf : Nat} (h : GuessInv q top high D lf) (hn : next < 4294967296) (hb : 4294967296 ≤ lf) : D * (high * 4294967296 + next) ≤ top * 4294967296 + r2 := by
 apply guess_end h
 have := Nat.mul_le_mul (show D ≤ 4294967295 by have := h.2.1; omega) (show next ≤ 4294967295 by omega)
 omega
theorem guess_nums {a b high : Nat} (ha : a < 4294967296) (hb : b < 4294967296) (hh : 0 < high) :
   ∃ top d0 D p lf : Nat, Hid (top = a * 4294967296 + b) ∧ Hid (D = min (top / high) 4294967295) ∧ Hid (lf = top - D * high) ∧ bits BinOp.or IntKind.u64 ((a : Int) * 4294967296) (b : Int) = top ∧ (top : Int) / high = d0 ∧ IntKind.u64.wrap (d0 : Int) = d0 ∧
     (if (4294967295 : Int) < d0 then (4294967295 : Int) else d0) = D ∧ IntKind.u64.wrap ((D : Int) * high) = p ∧ IntKind.u64.wrap ((top : Int) - p) = lf := by
 have hD : min ((a * 4294967296 + b) / high) 4294967295 * high ≤ a * 4294967296 + b := by
   have := Nat.mul_le_mul_right high (Nat.min_le_left ((a * 4294967296 + b) / high) 4294967295)
   have := Nat.div_mul_le_self (a * 4294967296 + b) high
   omega
 refine ⟨a * 4294967296 + b, (a * 4294967296 + b) / high, min ((a * 4294967296 + b) / high) 4294967295, min ((a * 4294967296 + b) / high) 4294967295 * high, a * 4294967296 + b - min ((a * 4294967296 + b) / high) 4294967295 * high, rfl, rfl, rfl, ?_, ?_, ?_, ?_, ?_, ?_⟩
 · have := or_join a b ha hb
   rw [this]; simp
 · simp
 · exact wrap_u64_nat _ (Nat.lt_of_le_of_lt (Nat.div_le_self _ _) (by omega))
 · split <;> omega
 · have := wrap_u64_nat (min ((a * 4294967296 + b) / high) 4294967295 * high) (by omega)
   simpa using this
 · have := wrap_u64_nat (a * 4294967296 + b - min ((a * 4294967296 + b) / high) 4294967295 * high) (by omega)
   rw [Int.natCast_sub hD] at this; exact this.trans (by omega)
def GuessPost (w : World) (q : Nat) (e : Ending) (w' : World) : Prop := ∃ D m : Nat, e = .returned (.int .u32 (D : Int)) ∧ w' = w.drewN m ∧ q ≤ D ∧ D ≤ q + 1 ∧ D < 4294967296
theorem guess_any (w : World) (b1 b2 : Nat) (A1 A2 : Option Addr) (n c1 c2 : Nat) (rs ds : List Nat) (h1 : Sl w b1 A1 (n + 1) c1 rs) (h2 : Sl w b2 A2 n c2 ds) (hn : 2 ≤ n) (hh : ds.getD (n - 1) 0 ≠ 0) (hlt : val rs < val ds * 4294967296) :
   Calls Tryz.prog 145 #[.slice A1 (n + 1) c1, .slice A2 n c2] w (GuessPost w (val rs / val ds)) := by
 have hbig := h1.big; have T3 := top3 hn h1.len; have T2 := top2 hn h2.len; have B1 := val_lt (h1.lim.take (n - 2)); have B2 := val_lt (h2.lim.take (n - 2)); rw [List.length_take, h1.len, Nat.min_eq_left (by omega)] at B1; rw [List.length_take, h2.len, Nat.min_eq_left (by omega)] at B2; have bA := h1.lim.getD n; have bB := h1.lim.getD (n - 1); have bC := h1.lim.getD (n - 2); have bH := h2.lim.getD (n - 1)
 have bN := h2.lim.getD (n - 2); obtain ⟨o1, rfl, k1⟩ := h1.at (by omega); obtain ⟨o2, rfl, k2⟩ := h2.at (by omega); have g1 := k1 n (by omega); have g2 := k1 (n - 1) (by omega); have g3 := k1 (n - 2) (by omega); have g4 := k2 (n - 1) (by omega); have g5 := k2 (n - 2) (by omega)
 have hv0 : 0 < val ds := by
   rw [T2]
   have : 0 < 4294967296 ^ (n - 2) * (ds.getD (n - 1) 0 * 4294967296 + ds.getD (n - 2) 0) := Nat.mul_pos (Nat.pow_pos (by decide)) (by omega)
   omega
 have hq : val rs / val ds < 4294967296 := by
   rw [Nat.div_lt_iff_lt_mul hv0, Nat.mul_comm]; exact hlt
 have hqm : val rs / val ds * val ds ≤ val rs := Nat.div_mul_le_self _ _
 clear k1 k2 h1 h2 hlt hv0
 revert T3 T2 bA bB bC bH bN g1 g2 g3 g4 g5 hh hqm hq B1 B2
 generalize rs.getD n 0 = a; generalize rs.getD (n - 1) 0 = b; generalize rs.getD (n - 2) 0 = r2; generalize ds.getD (n - 1) 0 = high
 generalize ds.getD (n - 2) 0 = next
 generalize val (rs.take (n - 2)) = R'; generalize val (ds.take (n - 2)) = v'; generalize 4294967296 ^ (n - 2) = P; generalize val rs = R; generalize val ds = V
 intro hh T3 T2 B1 B2 bA bB bC bH bN g1 g2 g3 g4 g5 hq hqm
 subst T3; subst T2; have hqq := guess_ge B1 hqm
 have HLE := Lib.hid (fun D hD hx => guess_le (P := P) (top := a * 4294967296 + b) (r2 := r2) (next := next) (R' := R') (D := D) hD (Nat.pos_of_ne_zero hh) B2 hx)
 clear hqm B1 B2
 revert hq hqq HLE
 generalize (P * ((a * 4294967296 + b) * 4294967296 + r2) + R') / (P * (high * 4294967296 + next) + v') = q
 intro hq hqq HLE
 obtain ⟨top, d0, D, p, lf, E1, E2, E3, e1, e2, e2', e3, e4, e5⟩ := guess_nums bA bB (Nat.pos_of_ne_zero hh); rw [← E1.out] at hqq HLE
 have HI : Hid (GuessInv q top high D lf) := by
   rw [E3.out, E2.out]; exact guess_start (Nat.pos_of_ne_zero hh) hq (guess_top bC hqq)
 have HQQ := Lib.hid hqq; clear hqq E1 E2 E3 hq
 have hhp : ((high : Int) == 0) = false := by simpa using hh
 have i1 : ((n : Int) - 1).toNat = n - 1 := by omega
 have i2 : ((n : Int) - 2).toNat = n - 2 := by omega
 go_enter Tryz.func145, Tryz.ntmps145
 go_wp2
 go_quiet (fail)
 go_wp2
 go_quiet (fail)
 go_wp2; clear e1 e2 e2' e3 e4 e5 g1 g2 g4 g5
 go_loop [9, 10] (fun u v => ∃ D lf : Nat, u = .int .u64 D ∧ v = .int .u64 lf ∧ GuessInv q top high D lf) (fun u _ => (intOf u).toNat)
 case atStart => exact ⟨D, lf, rfl, rfl, HI.out⟩
 case round =>
   clear HI; obtain ⟨D, lf, rfl, rfl, hI⟩ := hrel; have bD := hI.2.1; have HI := Lib.hid hI; clear hI
   by_cases hb : lf < 4294967296
   · obtain ⟨p, ep⟩ : ∃ p : Nat, IntKind.u64.wrap ((D : Int) * next) = p ∧ Hid (p = D * next) := by
       have := prod_lt bD bN
       exact ⟨D * next, by have := wrap_u64_nat (D * next) (by omega); simpa using this, rfl⟩
     obtain ⟨ep, HP⟩ := ep; obtain ⟨s, es, HS⟩ : ∃ s : Nat, bits BinOp.or IntKind.u64 ((lf : Int) * 4294967296) (r2 : Int) = s ∧ Hid (s = lf * 4294967296 + r2) := ⟨lf * 4294967296 + r2, by rw [or_join lf r2 hb bC]; simp, rfl⟩
     have hb' : ((lf : Int) / 4294967296 == 0) = true := by simp; omega
     by_cases hgt : s < p
     · have hd := guess_down HI.out HQQ.out (by have := HP.out; have := HS.out; omega); have hD0 := hd.2; have HD := Lib.hid hd.1; clear hd HI; go_wp2
       go_round
       case rel => exact ⟨D - 1, lf + high, by go_num, by go_num, HD.out⟩
       case measure => simp [intOf]; omega
     · have HE := Lib.hid (HLE.out D bD (guess_end HI.out (by have := HP.out; have := HS.out; omega))); have HG := Lib.hid HI.out.1; clear HI; go_wp2
       go_ret
       exact ⟨D, _, ret_int (by omega), by first | rfl | rw [World.drewN_drewN], HG.out, HE.out, bD⟩
   · have hb' : ((lf : Int) / 4294967296 == 0) = false := by simp; omega
     have HE := Lib.hid (HLE.out D bD (guess_end_big HI.out bN (by omega))); have HG := Lib.hid HI.out.1; clear HI; go_wp2
     go_ret
     exact ⟨D, _, ret_int (by omega), by first | rfl | rw [World.drewN_drewN], HG.out, HE.out, bD⟩
theorem Turned.trans {w w1 w2 : World} {g o : Nat} {l zs ys : List Nat} (h : Turned w g o l zs w1) (k : Turned w1 g o (mid l o zs) ys w2) (hl : o + zs.length ≤ l.length) (hz : ys.length = zs.length) : Turned w g o l ys w2 :=
 ⟨by have := k.1; rwa [mid_mid hl hz] at this, grown_trans h.2.1 k.2.1, k.2.2⟩
def DigitPost (w : World) (g o n : Nat) (l : List Nat) (R V : Nat) (e : Ending) (w' : World) : Prop :=
 e = .returned (.int .u32 ((R / V : Nat) : Int)) ∧ ∃ zs, zs.length = n ∧ Turned w g o l zs w' ∧ val zs = R % V
theorem div_split (R V : Nat) : R / V * V + R % V = R := by rw [Nat.mul_comm]; exact Nat.div_add_mod R V
theorem digit_exact {R V Q r z q P : Nat} (h1 : Q * V + r = R) (h2 : r < V) (hv : R + q * P = z + Q * V) (hz : z < P) : q = 0 ∧ z = r := by
 rcases Nat.eq_zero_or_pos q with e | e
 · subst e; exact ⟨rfl, by omega⟩
 · have := Nat.mul_le_mul_right P e
   omega
theorem digit_over {R V Q r z q P : Nat} (h1 : Q * V + r = R) (h2 : r < V) (hv : R + q * P = z + (Q + 1) * V) : 0 < q := by
 rw [Nat.add_mul, Nat.one_mul] at hv
 rcases Nat.eq_zero_or_pos q with e | e
 · subst e; omega
 · exact e
theorem digit_back {R V Q r z q P z2 cy : Nat} (h1 : Q * V + r = R) (h2 : r < V) (hv : R + q * P = z + (Q + 1) * V) (hz : z < P) (hz2 : z2 < P) (hVP : V < P) (hcy : cy ≤ 1) (hv2 : z2 + cy * P = z + V) : z2 = r := by
 have h0 := digit_over h1 h2 hv; rw [Nat.add_mul, Nat.one_mul] at hv
 have hq : q = 1 := by
   rcases Nat.lt_or_ge q 2 with e | e
   · omega
   · have := Nat.mul_le_mul_right P e
     omega
 subst hq
 rcases (by omega : cy = 0 ∨ cy = 1) with e | e
 · subst e; omega
 · subst e; omega
theorem takeDigit_any (w : World) (g o n c1 b2 c2 : Nat) (A2 : Option Addr) (l ds : List Nat) (hg : Own w g l) (hl : Lim l) (hn1 : o + (n + 1) ≤ l.length) (hbl : l.length ≤ 1099511627776) (hc1 : n + 1 ≤ c1) (h2 : Sl w b2 A2 n c2 ds) (hne : b2 ≠ g) (hn : 2 ≤ n) (hh : ds.getD (n - 1) 0 ≠ 0)
   (hlt : val ((l.drop o).take (n + 1)) < val ds * 4294967296) :
   Calls Tryz.prog 142 #[.slice (some ⟨g, o, none⟩) (n + 1) c1, .slice A2 n c2] w (DigitPost w g o (n + 1) l (val ((l.drop o).take (n + 1))) (val ds)) := by
 have h1 := hg.sl hl hn1 hc1 hbl; have HG := Lib.hid (guess_any w g b2 _ A2 n c1 c2 _ ds h1 h2 hn hh hlt)
 have hV : 0 < val ds := by omega
 have hVP : val ds < 4294967296 ^ (n + 1) := by
   have := val_lt h2.lim
   rw [h2.len] at this; exact Nat.lt_trans this (Nat.pow_lt_pow_right (by decide) (by omega))
 have HK : Hid (∀ (m D : Nat), D < 4294967296 → Calls Tryz.prog 128 #[.slice (some ⟨g, o, none⟩) (n + 1) c1, .slice A2 n c2, .int .u32 (D : Int)] (w.drewN m) (TakePost (w.drewN m) g o (n + 1) l ds D)) :=
   fun m D hD => takeFrom_any (w.drewN m) g o (n + 1) c1 b2 n c2 D A2 l ds hg hl hn1 hbl h2 (fun _ => hne) (by omega) hD
 have HA : Hid (∀ (w1 : World) (zs : List Nat), zs.length = n + 1 → Turned w g o l zs w1 → Calls Tryz.prog 112 #[.slice (some ⟨g, o, none⟩) (n + 1) c1, .slice A2 n c2] w1 (AddPost w1 g o (n + 1) (mid l o zs) ds)) :=
   fun w1 zs hz ht => addTo_any w1 g o (n + 1) c1 b2 n c2 A2 (mid l o zs) ds ht.1 (mid_lim hl ht.2.2) (by rw [mid_length (by omega)]; omega) (by rw [mid_length (by omega)]; omega) (h2.grown ht.2.1 (fun _ => by simpa using hne)) (fun _ => hne) (by omega)
 have HT : Hid (∀ (m : Nat) (zs : List Nat) (w1 : World), Turned (w.drewN m) g o l zs w1 → Turned w g o l zs w1) := fun m zs w1 ht => ⟨ht.1, ⟨ht.2.1.os, ht.2.1.tape, ht.2.1.output, ht.2.1.size, ht.2.1.block⟩, ht.2.2⟩
 clear h1 h2 hlt hc1 hg
 revert HG
 generalize hR : val ((l.drop o).take (n + 1)) = R; have HR := Lib.hid hR; clear hR
 intro HG
 have hr := Nat.mod_lt R hV; have hs := div_split R (val ds)
 have HP : Hid (∀ e w', (e = .returned (.int .u32 ((R / val ds : Nat) : Int)) ∧ ∃ zs, zs.length = n + 1 ∧ Turned w g o l zs w' ∧ val zs = R % val ds) → DigitPost w g o (n + 1) l R (val ds) e w') := fun e w' h => h
 revert HG hr hs HP
 generalize R / val ds = Q; generalize R % val ds = r
 intro HG hr hs HP
 have HS := Lib.hid hs; clear hs
 go_enter Tryz.func142, Tryz.ntmps142
 go_wp2_with (go_at_call 145; ((with_reducible refine HG.out.mono ?_); rintro e w1 ⟨D, m, rfl, rfl, hq1, hq2, hDb⟩))
 clear HG; refine (HK.out m D hDb).mono ?_; rintro e w2 ⟨q, rfl, zs, hz, ht, hv⟩; rw [HR.out] at hv; have ht2 := HT.out m zs w2 ht; have hzl := val_lt ht.2.2; rw [hz] at hzl; clear ht HT HK
 by_cases hD : D = Q
 · subst hD; obtain ⟨rfl, hz2⟩ := digit_exact HS.out hr hv hzl; have HZ2 := Lib.hid hz2; clear hz2 hv hzl; go_wp2
   go_ret
   exact HP.out _ _ ⟨rfl, zs, hz, ht2, HZ2.out⟩
 · obtain rfl : D = Q + 1 := by omega
   have hq0 := digit_over HS.out hr hv
   have HB := Lib.hid (fun z2 cy h3 h4 h5 => digit_back (z2 := z2) (cy := cy) HS.out hr hv hzl h3 hVP h4 h5)
   clear hD hv hq1 hq2 hzl
   go_wp2_with fail
   refine (HA.out w2 zs hz ht2).mono ?_; rintro e w3 ⟨rfl, ys, cy, hy, ht3, hcy, hv3⟩; have hseg := mid_seg (l := l) (zs := zs) (o := o) (by omega); rw [hz] at hseg; rw [hseg] at hv3; have hyl := val_lt ht3.2.2; rw [hy] at hyl; have HZ2 := Lib.hid (HB.out _ _ hyl hcy hv3); have HT3 := Lib.hid (ht2.trans ht3 (by omega) (by omega)); clear hv3 hyl ht3 hseg HB hz; go_wp2
   go_ret
   exact HP.out _ _ ⟨by go_num, ys, hy, HT3.out, HZ2.out⟩
def RaiseInv (w : World) (g n sk lo : Nat) (xs : List Nat) (i : Nat) (wr : World) : Prop :=
 ∃ hs : List Nat, ∃ t : Nat, hs.length = i + sk ∧ Lim hs ∧ t < 2 ^ lo ∧ Own wr g (hs ++ [t] ++ List.replicate (n - i) 0) ∧ w.grownBy wr (some g) ∧ val (hs ++ [t]) = val (xs.take i) * 2 ^ (32 * sk + lo)
theorem pow_split (sk lo : Nat) : 2 ^ (32 * sk + lo) = 4294967296 ^ sk * 2 ^ lo := by rw [Nat.pow_add, Nat.pow_mul]
theorem lo_dvd {lo x : Nat} (hlo : lo < 32) : x * 2 ^ lo % 4294967296 % 2 ^ lo = 0 := by
 have e : 4294967296 = 2 ^ lo * 2 ^ (32 - lo) := by rw [← Nat.pow_add, show lo + (32 - lo) = 32 by omega]
 rw [e, Nat.mod_mul_right_mod, Nat.mul_mod_left]
theorem lo_sum {lo x t : Nat} (hlo : lo < 32) (ht : t < 2 ^ lo) : t + x * 2 ^ lo % 4294967296 < 4294967296 := by
 have e : 4294967296 = 2 ^ lo * 2 ^ (32 - lo) := by rw [← Nat.pow_add, show lo + (32 - lo) = 32 by omega]
 have h1 : x * 2 ^ lo % 4294967296 < 4294967296 := Nat.mod_lt _ (by decide)
 have h2 := lo_dvd (x := x) hlo; obtain ⟨q, hq⟩ := Nat.dvd_of_mod_eq_zero h2; rw [hq] at h1 ⊢; rw [e] at h1
 have h3 : q < 2 ^ (32 - lo) := Nat.lt_of_mul_lt_mul_left h1
 have h4 := Nat.mul_le_mul_left (2 ^ lo) (show q + 1 ≤ 2 ^ (32 - lo) from h3)
 rw [← e, Nat.mul_add, Nat.mul_one] at h4
 omega
theorem raise_nums {x t lo : Nat} (hlo : lo < 32) (ht : t < 2 ^ lo) (hx : x < 4294967296) :
   ∃ p pl ph v : Nat, Hid (p = x * 2 ^ lo) ∧ Hid (pl = p % 4294967296) ∧ Hid (ph = p / 4294967296) ∧ Hid (v = t + pl) ∧ Hid (v < 4294967296) ∧ Hid (ph < 2 ^ lo) ∧ IntKind.u64.wrap ((x : Int) * 2 ^ lo) = p ∧ (p : Int) % 4294967296 = pl ∧
     (p : Int) / 4294967296 % 4294967296 = ph ∧ bits BinOp.or IntKind.u32 (t : Int) (pl : Int) = v := by
 have hp : 2 ^ lo ≤ 2147483648 := Nat.pow_le_pow_right (n := 2) (by decide) (show lo ≤ 31 by omega)
 have hb : x * 2 ^ lo ≤ 4294967295 * 2147483648 := Nat.mul_le_mul (by omega) hp
 have hl := lo_sum (x := x) hlo ht
 have hph : x * 2 ^ lo / 4294967296 < 2 ^ lo := by
   rw [Nat.div_lt_iff_lt_mul (by decide), Nat.mul_comm]; exact Nat.mul_lt_mul_of_pos_left hx (Nat.two_pow_pos lo)
 refine ⟨x * 2 ^ lo, x * 2 ^ lo % 4294967296, x * 2 ^ lo / 4294967296, t + x * 2 ^ lo % 4294967296, rfl, rfl, rfl, rfl, hl, hph, ?_, by omega, by omega, ?_⟩
 · have := wrap_u64_nat (x * 2 ^ lo) (by omega)
   simpa using this
 · rw [u32_or_nat _ _ (by omega) (by omega), Nat.or_comm, nat_join lo _ _ (lo_dvd hlo) ht, Nat.add_comm]
theorem raise_step {w wr : World} {g n sk lo k x : Nat} {xs hs : List Nat} {t p pl ph v : Nat} (hk : k < n) (hl : xs.length = n) (hhs : hs.length = k + sk) (hsl : Lim hs) (hown : Own wr g (hs ++ [t] ++ List.replicate (n - k) 0)) (hgr : w.grownBy wr (some g))
   (hv : val (hs ++ [t]) = val (xs.take k) * 2 ^ (32 * sk + lo)) (hx : xs.getD k 0 = x) (hp : p = x * 2 ^ lo) (hpl : pl = p % 4294967296) (hph : ph = p / 4294967296) (hvv : v = t + pl) (hvb : v < 4294967296) (hpb : ph < 2 ^ lo) :
   RaiseInv w g n sk lo xs (k + 1) ((wr.setCell ⟨g, k + sk, none⟩ (.int .u32 (v : Int))).setCell ⟨g, k + sk + 1, none⟩ (.int .u32 (ph : Int))) := by
 refine ⟨hs ++ [v], ph, by simp; omega, hsl.append (Lim.cons hvb Lim.nil), hpb, ?_, grown_set (grown_set hgr _) _, ?_⟩
 · have h1 := (hown.set (k + sk) v).set (k + sk + 1) ph
   have e : ((hs ++ [t] ++ List.replicate (n - k) 0).set (k + sk) v).set (k + sk + 1) ph = hs ++ [v] ++ [ph] ++ List.replicate (n - (k + 1)) 0 := by
     rw [List.append_assoc, List.set_append_right _ _ (by omega), List.set_append_right _ _ (by omega), hhs, Nat.sub_self, show k + sk + 1 - (k + sk) = 1 by omega, show n - k = n - (k + 1) + 1 by omega, List.replicate_succ]
     simp
   rw [e] at h1; exact h1
 · have e := Nat.mod_add_div p 4294967296; rw [← hpl, ← hph] at e; rw [val_take_succ (by omega), hx, pow_split] at *; rw [val_snoc] at hv ⊢; rw [val_snoc, List.length_append, List.length_singleton, hhs, Nat.pow_succ]; rw [hhs] at hv
   have e1 : 4294967296 ^ (k + sk) * (pl + 4294967296 * ph) = 4294967296 ^ (k + sk) * (x * 2 ^ lo) := by rw [e, hp]
   rw [Nat.pow_add] at *; rw [hvv]
   grind
def RaisedPost (w : World) (n sk lo : Nat) (xs : List Nat) (e : Ending) (w' : World) : Prop :=
 ∃ g l, e = .returned (.slice (some ⟨g, 0, none⟩) (n + sk + 1) (n + sk + 1)) ∧ w.heap.size ≤ g ∧ Own w' g l ∧ l.length = n + sk + 1 ∧ Lim l ∧ val l = val xs * 2 ^ (32 * sk + lo) ∧ Below w.heap.size w w'
theorem raised_any (w : World) (b n c : Nat) (A : Option Addr) (xs : List Nat) (z : Int) (sk lo : Nat) (h : Sl w b A n c xs) (hz0 : 0 ≤ z) (hq : z / 32 = (sk : Int)) (hr : z % 32 = (lo : Int)) (hlo : lo < 32) (hbig : n + sk + 1 ≤ 1099511627776) :
   Calls Tryz.prog 70 #[.slice A n c, .int .i64 z] w (RaisedPost w n sk lo xs) := by
 have H1 := Lib.hid h.len
 have hmk := fun W => run_make32' (n + sk + 1) ((n : Int) + sk + 1) (by omega) (by omega) W
 have hal : Below w.heap.size w (w.alloc (.cells (arr (List.replicate (n + sk + 1) 0)) 54)) := (Below.refl _ _).alloc (Nat.le_refl _) _
 go_enter Tryz.func70, Tryz.ntmps70
 go_wp2; clear hmk
 go_loopw [22] (fun i wr => ∃ k : Nat, k ≤ n ∧ i = .int .i64 k ∧ RaiseInv (w.alloc (.cells (arr (List.replicate (n + sk + 1) 0)) 54)) w.heap.size n sk lo xs k wr) (fun i _ => n - (intOf i).toNat)
 case atStart =>
   refine ⟨0, Nat.zero_le _, rfl, List.replicate sk 0, 0, by simp, Lim.replicate _, Nat.two_pow_pos lo, ?_, grown_refl _ _, by rw [val_snoc, val_zeros]; simp [val]⟩
   have := Own.new w (List.replicate (n + sk + 1) 0)
   rwa [show n + sk + 1 = sk + 1 + (n - 0) by omega, ← List.replicate_append_replicate, ← List.replicate_append_replicate] at this ⊢
 case round =>
   obtain ⟨k, hk, rfl, hI⟩ := hrel; have HI := Lib.hid hI; clear hI
   by_cases hlt : k < n
   · obtain ⟨hs, t, hhs, hsl, ht, hown, hgr, hv⟩ := HI.out; have hbw := grown_of_new hal hgr; obtain ⟨o1, rfl, hc1⟩ := (h.below hbw).at (by omega); have hcell := hc1 k hlt; have bx := h.lim.getD k
     have hlen : (hs ++ [t] ++ List.replicate (n - k) 0).length = n + sk + 1 := by simp; omega
     have hcg := hown.cell (i := k + sk) (by omega)
     have e0 : (hs ++ [t] ++ List.replicate (n - k) 0).getD (k + sk) 0 = t := by
       rw [List.append_assoc, List.getD_eq_getElem?_getD, List.getElem?_append_right (by omega), hhs, Nat.sub_self]; rfl
     rw [e0] at hcg; have hcf := hown.frozen (k + sk); have hcg2 := hown.cell (i := k + sk + 1) (by omega); have hcf2 := hown.frozen (k + sk + 1); obtain ⟨q, hq2⟩ : ∃ q, (hs ++ [t] ++ List.replicate (n - k) 0).getD (k + sk + 1) 0 = q := ⟨_, rfl⟩; rw [hq2] at hcg2; obtain ⟨p, pl, ph, v, E1, E2, E3, E4, E5, E6, e1, e2, e3, e4⟩ := raise_nums hlo ht bx; have HS := Lib.hid (raise_step hlt H1.out hhs hsl hown hgr hv rfl E1.out E2.out E3.out E4.out E5.out E6.out)
     clear hc1 hv hown hgr hhs hsl hlen e0 E1 E2 E3 E4 E5 E6 ht hq2 HI
     revert hcell bx e1
     generalize xs.getD k 0 = x
     intro hcell bx e1
     go_wp2
     go_roundw
     case rel => exact ⟨k + 1, by omega, by go_num, HS.out⟩
     case measure => simp [intOf]; omega
   · have hkn : k = n := by omega
     subst hkn; obtain ⟨hs, t, hhs, hsl, ht, hown, hgr, hv⟩ := HI.out; rw [Nat.sub_self, List.replicate_zero, List.append_nil] at hown; rw [val_take_all (xs := xs) (by rw [H1.out]; omega)] at hv
     have ht' : t < 4294967296 := Nat.lt_of_lt_of_le ht (Nat.pow_le_pow_right (n := 2) (by decide) (show lo ≤ 32 by omega))
     have HP : Hid (RaisedPost w k sk lo xs (.returned (.slice (some ⟨w.heap.size, 0, none⟩) (k + sk + 1) (k + sk + 1))) wr) := ⟨w.heap.size, hs ++ [t], rfl, Nat.le_refl _, hown, by simp; omega, hsl.append (Lim.cons ht' Lim.nil), hv, grown_of_new hal hgr⟩
     clear hown hgr hv hhs hsl ht ht' HI; go_wp2
     go_ret
     exact HP.out
end Go.Proofs.YtmmallhniijdfaaGreatDoor
