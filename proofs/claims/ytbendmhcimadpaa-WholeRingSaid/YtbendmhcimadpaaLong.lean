/-
  What nat.divLong does: long division, digit by digit.
-/
import Derived.Test.YtbendmhcimadpaaGuess
import Derived.Test.YtbendmhcimadpaaShr
import Derived.Deep.RegionWith
namespace Go.Proofs.Ytbendmhcimadpaa
open Go.RowKit
set_option linter.unusedVariables false

/-- What raised answers where fewer than 32 bits are moved. -/
def Raised0 (w : World) (n up : Nat) (xs : List Nat) (e : Ending) (w' : World) : Prop :=
  ∃ g l, e = .returned (.slice (some ⟨g, 0, none⟩) (n + 1) (n + 1)) ∧ w.heap.size ≤ g ∧ Own w' g l ∧ l.length = n + 1 ∧ Lim l ∧ val l = val xs * 2 ^ up ∧ Below w.heap.size w w'

theorem raised0_any (w : World) (b n c : Nat) (A : Option Addr) (xs : List Nat) (up : Nat) (h : Sl w b A n c xs) (hlo : up < 32) (hbig : n + 1 ≤ 1099511627776) :
    Calls Try.prog 70 #[.slice A n c, .int .i64 (up : Int)] w (Raised0 w n up xs) := by
  refine (raised_any w b n c A xs (up : Int) 0 up h (by omega) (by omega) (by omega) hlo (by omega)).mono ?_
  rintro e w' ⟨g, l, h1, h2, h3, h4, h5, h6, h7⟩
  exact ⟨g, l, h1, h2, h3, h4, h5, by rw [h6]; simp, h7⟩

theorem lead32_nat (x : Nat) (hx : x < 4294967296) (w : World) :
    Calls Try.prog 69 #[.int .u32 (x : Int)] w fun e w' => e = .returned (.int .i64 ((32 - blen x : Nat) : Int)) ∧ w = w' := by
  have hb := blen_mono_le (n := x) (k := 32) hx
  exact (lead32_any x hx w).mono fun e w' h => ⟨h.1.trans (ret_int (by omega)), h.2⟩

def LongInv (w : World) (g1 g2 g3 m n V R0 : Nat) (l2 : List Nat) (k : Nat) (wr : World) : Prop :=
  ∃ hs L : List Nat, hs.length = k ∧ Lim hs ∧ L.length = m + n + 1 ∧ Lim L ∧ Own wr g1 L ∧ Own wr g2 l2 ∧ Own wr g3 (List.replicate (m + 1 - k) 0 ++ hs) ∧ Below w.heap.size w wr ∧
    val hs * 4294967296 ^ (m + 1 - k) * V + val L = R0 ∧ val (L.drop (m + 1 - k)) < V

/-- The highest limbs of the rest are nought, so the part that a digit is taken from is all that is above it. -/
theorem long_seg {L : List Nat} {m n V k : Nat} (hL : L.length = m + n + 1) (hl : Lim L) (hk : k ≤ m) (hV : V < 4294967296 ^ n) (h : val (L.drop (m + 1 - k)) < V) :
    val ((L.drop (m - k)).take (n + 1)) = val (L.drop (m - k)) ∧ val (L.drop (m - k)) < V * 4294967296 := by
  have e1 : val (L.drop (m - k)) = L.getD (m - k) 0 + 4294967296 * val (L.drop (m + 1 - k)) := by
    rw [val_drop (by omega), show m - k + 1 = m + 1 - k by omega]
  have b1 := hl.getD (m - k)
  have h1 : val (L.drop (m - k)) < V * 4294967296 := by
    have := Nat.mul_le_mul_left 4294967296 (show val (L.drop (m + 1 - k)) + 1 ≤ V from h)
    omega
  refine ⟨?_, h1⟩
  have h2 := val_take_drop (L.drop (m - k)) (k := n + 1) (by simp; omega)
  have h3 : V * 4294967296 ≤ 4294967296 ^ (n + 1) := by
    rw [Nat.pow_succ]
    exact Nat.mul_le_mul_right _ (by omega)
  rcases Nat.eq_zero_or_pos (val ((L.drop (m - k)).drop (n + 1))) with e | e
  · rw [e] at h2; omega
  · have := Nat.le_mul_of_pos_right (4294967296 ^ (n + 1)) e
    omega

theorem long_step {w wr w' : World} {g1 g2 g3 m n V R0 k : Nat} {l2 hs L zs : List Nat} (hhs : hs.length = k) (hsl : Lim hs) (hL : L.length = m + n + 1) (hl : Lim L) (o2 : Own wr g2 l2) (o3 : Own wr g3 (List.replicate (m + 1 - k) 0 ++ hs)) (hb : Below w.heap.size w wr)
    (hv : val hs * 4294967296 ^ (m + 1 - k) * V + val L = R0) (hd : val (L.drop (m + 1 - k)) < V) (hk : k ≤ m) (hV : V < 4294967296 ^ n) (n12 : g1 ≠ g2) (n13 : g1 ≠ g3) (n23 : g2 ≠ g3) (hg1 : w.heap.size ≤ g1) (hg3 : w.heap.size ≤ g3)
    (hz : zs.length = n + 1) (ht : Turned wr g1 (m - k) L zs w') (hzv : val zs = val ((L.drop (m - k)).take (n + 1)) % V) :
    LongInv w g1 g2 g3 m n V R0 l2 (k + 1) (w'.setCell ⟨g3, m - k, none⟩ (.int .u32 ((val ((L.drop (m - k)).take (n + 1)) / V : Nat) : Int))) := by
  obtain ⟨s1, s2⟩ := long_seg hL hl hk hV hd
  have hV0 : 0 < V := by omega
  have hD : val ((L.drop (m - k)).take (n + 1)) / V < 4294967296 := by
    rw [s1, Nat.div_lt_iff_lt_mul hV0, Nat.mul_comm]; exact s2
  have hds := div_split (val ((L.drop (m - k)).take (n + 1))) V
  have hz0 := Nat.mod_lt (val ((L.drop (m - k)).take (n + 1))) hV0
  rw [← hzv] at hds hz0
  have b' : Below w.heap.size w w' := hb.trans (below_grown ht.2.1 hg1 hb.size)
  have e0 : val (L.drop (m - k + (n + 1))) = 0 := by
    have h2 := val_take_drop (L.drop (m - k)) (k := n + 1) (by simp; omega)
    rw [s1, List.drop_drop] at h2
    rcases Nat.eq_zero_or_pos (val (L.drop (m - k + (n + 1)))) with e | e
    · exact e
    · have := Nat.mul_pos (show 0 < 4294967296 ^ (n + 1) from Nat.pow_pos (by decide)) e
      omega
  have em : (mid L (m - k) zs).drop (m - k) = zs ++ L.drop (m - k + (n + 1)) := by
    have e : (L.take (m - k)).length = m - k := by simp; omega
    unfold mid
    rw [List.append_assoc, List.drop_append, List.drop_eq_nil_of_le (by omega), e, Nat.sub_self, hz]
    simp
  have ev : val ((mid L (m - k) zs).drop (m - k)) = val zs := by rw [em, val_append, e0]; simp
  have hmk : m + 1 - (k + 1) = m - k := by omega
  generalize hDD : val ((L.drop (m - k)).take (n + 1)) / V = D at *
  refine ⟨D :: hs, mid L (m - k) zs, by simp; omega, Lim.cons hD hsl, by rw [mid_length (by omega)]; exact hL, mid_lim hl ht.2.2, ht.1.far (by simpa using n13) _, (o2.grown ht.2.1 (by simpa using n12.symm)).far (by simpa using n23) _, ?_, b'.setCell (by simpa using hg3) _, ?_, ?_⟩
  · have h3 := (o3.grown ht.2.1 (by simpa using n13.symm)).set (m - k) D
    have e : (List.replicate (m + 1 - k) 0 ++ hs).set (m - k) D = List.replicate (m + 1 - (k + 1)) 0 ++ (D :: hs) := by
      rw [show m + 1 - k = m + 1 - (k + 1) + 1 by omega, ← List.replicate_append_replicate, List.append_assoc, List.set_append_right _ _ (by simp), List.length_replicate, show m - k - (m + 1 - (k + 1)) = 0 by omega]
      simp
    rwa [e] at h3
  · have a1 := val_take_drop L (k := m - k) (by omega)
    have a2 := val_take_drop (mid L (m - k) zs) (k := m - k) (by rw [mid_length (by omega)]; omega)
    rw [mid_take (by omega), ev] at a2
    rw [hmk, val_cons]
    rw [show m + 1 - k = m - k + 1 by omega, Nat.pow_succ] at hv
    rw [s1] at hds
    rw [a1, ← hds] at hv
    rw [a2, ← hv]
    grind
  · rw [hmk, ev]; exact hz0

/-- A number, raised till its highest limb's highest bit is set, has no limb more. -/
theorem up_val {ys : List Nat} {n x up : Nat} (hl : ys.length = n) (hn : 0 < n) (hlim : Lim ys) (hx : ys.getD (n - 1) 0 = x) (hup : up = 32 - blen x) : val ys * 2 ^ up < 4294967296 ^ n := by
  have h1 := val_take_succ (xs := ys) (k := n - 1) (by omega)
  rw [show n - 1 + 1 = n by omega, val_take_all (by omega), hx] at h1
  have h2 := val_lt (hlim.take (n - 1))
  rw [List.length_take, Nat.min_eq_left (by omega)] at h2
  have hxl : x < 4294967296 := by rw [← hx]; exact hlim.getD _
  have hb := blen_lt x
  have hb2 := blen_mono_le (n := x) (k := 32) hxl
  obtain ⟨k, rfl⟩ : ∃ k, n = k + 1 := ⟨n - 1, by omega⟩
  rw [Nat.add_sub_cancel] at *
  have h3 : val ys < 4294967296 ^ k * 2 ^ blen x := by
    have := Nat.mul_le_mul_left (4294967296 ^ k) (show x + 1 ≤ 2 ^ blen x from hb)
    rw [Nat.mul_add] at this
    omega
  have h4 := Nat.mul_lt_mul_of_pos_right h3 (Nat.two_pow_pos up)
  rw [Nat.mul_assoc, ← Nat.pow_add, show blen x + up = 32 by omega] at h4
  rw [Nat.pow_succ]
  exact h4

theorem up_lt {x : Nat} (h0 : x ≠ 0) : 32 - blen x < 32 := by
  have h1 := blen_lt x
  have h3 : blen x ≠ 0 := fun e => by rw [e] at h1; simp at h1; exact h0 h1
  omega

/-- At the start the highest limbs are less than the divisor. -/
theorem long_start {xs ys L : List Nat} {m n up : Nat} (hxl : xs.length = m + n) (hxs : Lim xs) (hyl : ys.length = n) (hn : 0 < n) (hy : ys.getD (n - 1) 0 ≠ 0) (hL : Lim L) (hv : val L = val xs * 2 ^ up) : val (L.drop (m + 1)) < val ys * 2 ^ up := by
  rw [val_drop_div hL, hv, Nat.div_lt_iff_lt_mul (Nat.pow_pos (by decide))]
  have h1 := val_lt hxs
  rw [hxl] at h1
  have h2 := val_take_succ (xs := ys) (k := n - 1) (by omega)
  rw [show n - 1 + 1 = n by omega, val_take_all (by omega)] at h2
  have h3 : 4294967296 ^ (n - 1) ≤ val ys := by
    have := Nat.le_mul_of_pos_right (4294967296 ^ (n - 1)) (Nat.pos_of_ne_zero hy)
    omega
  have h4 : 4294967296 ^ (m + n) ≤ val ys * 4294967296 ^ (m + 1) := by
    have := Nat.mul_le_mul_right (4294967296 ^ (m + 1)) h3
    rwa [← Nat.pow_add, show n - 1 + (m + 1) = m + n by omega] at this
  have h5 := Nat.mul_lt_mul_of_pos_right (Nat.lt_of_lt_of_le h1 h4) (Nat.two_pow_pos up)
  rw [Nat.mul_right_comm]
  exact h5

theorem top_ne {ds : List Nat} {n : Nat} (hl : ds.length = n) (hn : 0 < n) (hlim : Lim ds) (h : 4294967296 ^ (n - 1) ≤ val ds) : ds.getD (n - 1) 0 ≠ 0 := by
  intro e
  have h1 := val_take_succ (xs := ds) (k := n - 1) (by omega)
  rw [show n - 1 + 1 = n by omega, val_take_all (by omega), e] at h1
  have h2 := val_lt (hlim.take (n - 1))
  rw [List.length_take, Nat.min_eq_left (by omega)] at h2
  omega

theorem top_ge {ys : List Nat} {n : Nat} (hl : ys.length = n) (hn : 0 < n) (hy : ys.getD (n - 1) 0 ≠ 0) : 4294967296 ^ (n - 1) ≤ val ys := by
  have h2 := val_take_succ (xs := ys) (k := n - 1) (by omega)
  rw [show n - 1 + 1 = n by omega, val_take_all (by omega)] at h2
  have := Nat.le_mul_of_pos_right (4294967296 ^ (n - 1)) (Nat.pos_of_ne_zero hy)
  omega

/-- The divisor's limbs, raised, but for the highest one, which is nought. -/
theorem div_limbs {l2 ys : List Nat} {n up : Nat} (hl2 : l2.length = n + 1) (hm2 : Lim l2) (hv2 : val l2 = val ys * 2 ^ up) (hV : val ys * 2 ^ up < 4294967296 ^ n) : val (l2.take n) = val ys * 2 ^ up := by
  have h := val_take_drop l2 (k := n) (by omega)
  rw [hv2] at h
  rcases Nat.eq_zero_or_pos (val (l2.drop n)) with e | e
  · rw [e] at h; omega
  · have := Nat.le_mul_of_pos_right (4294967296 ^ n) e
    omega

/-- What holds before the first digit. -/
theorem long_init {w w1 w2 : World} {g1 g2 m n up : Nat} {l1 l2 xs ys : List Nat} (hb1 : Below w.heap.size w w1) (hb2 : Below w1.heap.size w1 w2) (o1 : Own w1 g1 l1) (o2 : Own w2 g2 l2) (hl1 : l1.length = m + n + 1) (hm1 : Lim l1) (hv1 : val l1 = val xs * 2 ^ up)
    (hs : val (l1.drop (m + 1)) < val ys * 2 ^ up) :
    LongInv w g1 g2 w2.heap.size m n (val ys * 2 ^ up) (val xs * 2 ^ up) l2 0 (w2.alloc (.cells (arr (List.replicate (m + 1) 0)) 54)) :=
  ⟨[], l1, rfl, Lim.nil, hl1, hm1, (o1.below hb2 o1.lt).alloc _, o2.alloc _, by rw [List.append_nil]; exact Own.new w2 _, (hb1.trans (hb2.mono hb1.size)).alloc (Nat.le_trans hb1.size hb2.size) _, by rw [hv1]; simp [val], hs⟩

/-- What a digit leaves. -/
theorem long_post {w wr w' : World} {g1 g2 g3 m n V R0 k : Nat} {l2 hs L : List Nat} {e : Ending} (hhs : hs.length = k) (hsl : Lim hs) (hL : L.length = m + n + 1) (hl : Lim L) (o2 : Own wr g2 l2) (o3 : Own wr g3 (List.replicate (m + 1 - k) 0 ++ hs)) (hb : Below w.heap.size w wr)
    (hv : val hs * 4294967296 ^ (m + 1 - k) * V + val L = R0) (hd : val (L.drop (m + 1 - k)) < V) (hk : k ≤ m) (hV : V < 4294967296 ^ n) (n12 : g1 ≠ g2) (n13 : g1 ≠ g3) (n23 : g2 ≠ g3) (hg1 : w.heap.size ≤ g1) (hg3 : w.heap.size ≤ g3)
    (h : DigitPost wr g1 (m - k) (n + 1) L (val ((L.drop (m - k)).take (n + 1))) V e w') :
    ∃ D q : Nat, e = .returned (.int .u32 (D : Int)) ∧ w'.cell? ⟨g3, m - k, none⟩ = some (.int .u32 (q : Int)) ∧ w'.frozen? ⟨g3, m - k, none⟩ = false ∧ Hid (LongInv w g1 g2 g3 m n V R0 l2 (k + 1) (w'.setCell ⟨g3, m - k, none⟩ (.int .u32 (D : Int)))) := by
  obtain ⟨rfl, zs, hz, ht, hzv⟩ := h
  have o3' := o3.grown ht.2.1 (by simpa using n13.symm)
  exact ⟨_, _, rfl, o3'.cell (by simp; omega), o3'.frozen _, long_step hhs hsl hL hl o2 o3 hb hv hd hk hV n12 n13 n23 hg1 hg3 hz ht hzv⟩

/-- What is there behind the last digit. -/
theorem long_done {hs L xs ys : List Nat} {up : Nat} (hv : val hs * (val ys * 2 ^ up) + val L = val xs * 2 ^ up) (hd : val L < val ys * 2 ^ up) : val hs = val xs / val ys ∧ val L / 2 ^ up = val xs % val ys := by
  have hp := Nat.two_pow_pos up
  have hV : 0 < val ys * 2 ^ up := by omega
  have h1 : val xs * 2 ^ up / (val ys * 2 ^ up) = val hs := by
    rw [← hv, Nat.mul_comm (val hs), Nat.mul_add_div hV, Nat.div_eq_of_lt hd, Nat.add_zero]
  have h2 : val xs * 2 ^ up % (val ys * 2 ^ up) = val L := by
    rw [← hv, Nat.mul_comm (val hs), Nat.mul_add_mod, Nat.mod_eq_of_lt hd]
  rw [Nat.mul_div_mul_right _ _ hp] at h1
  rw [Nat.mul_mod_mul_right] at h2
  exact ⟨h1.symm, by rw [← h2, Nat.mul_div_cancel _ hp]⟩

theorem take_small {L : List Nat} {n m V : Nat} (hL : L.length = m + n + 1) (h : val L < V) (hV : V < 4294967296 ^ n) : val (L.take n) = val L := by
  have h1 := val_take_drop L (k := n) (by omega)
  rcases Nat.eq_zero_or_pos (val (L.drop n)) with e | e
  · rw [e] at h1; omega
  · have := Nat.le_mul_of_pos_right (4294967296 ^ n) e
    omega

set_option maxHeartbeats 2000000 in
theorem divLong_any (w : World) (b1 b2 : Nat) (A1 A2 : Option Addr) (m n c1 c2 : Nat) (xs ys : List Nat) (h1 : Sl w b1 A1 (m + n) c1 xs) (h2 : Sl w b2 A2 n c2 ys) (hn : 2 ≤ n) (hy : ys.getD (n - 1) 0 ≠ 0) (hs : m + n ≤ 549755813888) :
    Calls Try.prog 59 #[.slice A1 (m + n) c1, .slice A2 n c2] w (Ret2 w (limbs (val xs / val ys)) (limbs (val xs % val ys))) := by
  have H1 := Lib.hid h1.len
  have H2 := Lib.hid h2.len
  have bx := h2.lim.getD (n - 1)
  obtain ⟨x, hx⟩ : ∃ x, ys.getD (n - 1) 0 = x := ⟨_, rfl⟩
  obtain ⟨o2, rfl, hc2⟩ := h2.at (by omega)
  have hcell := hc2 (n - 1) (by omega)
  rw [hx] at hcell bx hy
  have hup := up_lt hy
  have HL := Lib.hid (lead32_nat x bx)
  obtain ⟨up, hup2⟩ : ∃ up, 32 - blen x = up := ⟨_, rfl⟩
  have HV := Lib.hid (up_val H2.out (by omega) h2.lim hx hup2.symm)
  rw [hup2] at HL hup
  have HS := Lib.hid (fun L hL hv => long_start (L := L) (up := up) H1.out h1.lim H2.out (by omega) (by rw [hx]; exact hy) hL hv)
  have HX := Lib.hid hx
  clear hc2 hup2 hx
  have i1 : ((n : Int) - 1).toNat = n - 1 := by omega
  go_enter Try.func59, Try.ntmps59
  go_wp2_with (go_at_call 69; ((with_reducible refine (HL.out _).mono ?_); rintro e w' ⟨rfl, rfl⟩))
  clear HL
  have hs1 : m + n + 1 ≤ 1099511627776 := by omega
  have hs2 : n + 1 ≤ 1099511627776 := by omega
  go_region_with (first
    | (go_at_call 70; ((with_reducible refine (raised0_any w.drew b1 (m + n) c1 A1 xs up h1.drew hup hs1).mono ?_); (rintro e w1 ⟨g1, l1, rfl, hg1, ho1, hl1, hm1, hv1, hb1⟩); have HB1 : Hid (Below w.heap.size w w1) := (Below.refl _ _).drew.trans hb1; have s2 := h2.below HB1.out; have HO1 := Lib.hid ho1; have HL1 := Lib.hid hl1; have HM1 := Lib.hid hm1; have HV1 := Lib.hid hv1; clear ho1 hl1 hm1 hv1 hb1))
    | (go_at_call 70; ((with_reducible refine (raised0_any w1 b2 n c2 _ ys up s2 hup hs2).mono ?_); (rintro e w2 ⟨g2, l2, rfl, hg2, ho2, hl2, hm2, hv2, hb2⟩); have HB2 := Lib.hid hb2; have HO2 := Lib.hid ho2; have HL2 := Lib.hid hl2; have HM2 := Lib.hid hm2; have HV2 := Lib.hid hv2; clear ho2 hl2 hm2 hv2 hb2 s2)))
  have hg1' : w.heap.size ≤ g1 := hg1
  have hlt1 := HO1.out.lt
  have hlt2 := HO2.out.lt
  have hwsz := HB1.out.size
  have hwsz2 := HB2.out.size
  have HI := Lib.hid (long_init HB1.out HB2.out HO1.out HO2.out HL1.out HM1.out HV1.out (HS.out l1 HM1.out HV1.out))
  have HD := Lib.hid (div_limbs HL2.out HM2.out HV2.out HV.out)
  have HN : Hid ((l2.take n).getD (n - 1) 0 ≠ 0) := top_ne (by rw [List.length_take, HL2.out]; omega) (by omega) (HM2.out.take n) (by
    rw [HD.out]
    have a := top_ge H2.out (by omega) (by rw [HX.out]; exact hy)
    have b := Nat.le_mul_of_pos_right (val ys) (Nat.two_pow_pos up)
    omega)
  have hmk := fun W => run_make32' (m + 1) ((m : Int) + 1) (by omega) (by omega) W
  clear hg1 HO1 HO2 HB1 HB2 HL1 HM1 HV1 HV2 HS hcell
  go_wp2
  clear hmk
  go_loopw [37] (fun i wr => ∃ k : Nat, k ≤ m + 1 ∧ i = .int .i64 k ∧ LongInv w g1 g2 w2.heap.size m n (val ys * 2 ^ up) (val xs * 2 ^ up) l2 k wr) (fun i _ => m + 1 - (intOf i).toNat)
  case atStart => exact ⟨0, Nat.zero_le _, rfl, HI.out⟩
  case round =>
    clear HI
    obtain ⟨k, hk, rfl, hI⟩ := hrel
    have HI := Lib.hid hI
    clear hI
    by_cases hlt : k < m + 1
    · obtain ⟨hs, L, a1, a2, a3, a4, a5, a6, a7, a8, a9, a10⟩ := HI.out
      have i3 : ((m : Int) - k).toNat = m - k := by omega
      have i4 : ((m : Int) - k + n + 1).toNat = m - k + (n + 1) := by omega
      have hcap : ¬ (m + n + 1 = m - k) := by omega
      have hsl2 := a6.sl HM2.out (o := 0) (n := n) (c := n + 1) (by rw [HL2.out]; omega) (by omega) (by rw [HL2.out]; omega)
      rw [List.drop_zero] at hsl2
      have hseg := long_seg a3 a4 (by omega) HV.out a10
      have hk1 := takeDigit_any wr g1 (m - k) n (m + n + 1 - (m - k)) g2 (n + 1) (some ⟨g2, 0, none⟩) L (l2.take n) a5 a4 (by omega) (by omega) (by omega) hsl2 (by omega) hn HN.out (by rw [HD.out, hseg.1]; exact hseg.2)
      rw [HD.out] at hk1
      have HK := Lib.hid (hk1.mono fun e w' h => long_post (g3 := w2.heap.size) a1 a2 a3 a4 a6 a7 a8 a9 a10 (by omega) HV.out (by omega) (by omega) (by omega) hg1' (by omega) h)
      clear a1 a2 a3 a4 a5 a6 a7 a8 a9 a10 hk1 hseg hsl2 HI
      go_wp2_with (go_at_call 71; ((with_reducible refine HK.out.mono ?_); (rintro e w3 ⟨D, q, rfl, hc3, hf3, H3⟩)))
      go_roundw
      case rel => exact ⟨k + 1, by omega, by go_num, H3.out⟩
      case measure => simp [intOf]; omega
    · obtain rfl : k = m + 1 := by omega
      obtain ⟨hs, L, a1, a2, a3, a4, a5, a6, a7, a8, a9, a10⟩ := HI.out
      rw [Nat.sub_self, List.replicate_zero, List.nil_append] at a7
      rw [Nat.sub_self, Nat.pow_zero, Nat.mul_one] at a9
      rw [Nat.sub_self, List.drop_zero] at a10
      obtain ⟨f1, f2⟩ := long_done a9 a10
      have s1 := a7.all a2 (by omega) (c := m + 1) (by omega)
      rw [a1] at s1
      have s2 := a5.sl a4 (o := 0) (n := n) (c := m + n + 1) (by omega) (by omega) (by omega)
      rw [List.drop_zero] at s2
      have f3 := take_small a3 a10 HV.out
      have HF1 := Lib.hid f1
      have HF2 : Hid (val (L.take n) / 2 ^ up = val xs % val ys) := by show _ = _; rw [f3, f2]
      have HB := Lib.hid a8
      clear a1 a2 a3 a4 a5 a6 a7 a8 a9 a10 f1 f2 f3 HI
      have HT : Hid (∀ W, Sl W w2.heap.size (some ⟨w2.heap.size, 0, none⟩) (m + 1) (m + 1) hs → Calls Try.prog 49 #[.slice (some ⟨w2.heap.size, 0, none⟩) (m + 1) (m + 1)] W (Ret1 W (limbs (val xs / val ys)))) := fun W h => by
        rw [← HF1.out]; exact trim_any W _ _ _ _ hs h
      have HR : Hid (∀ W, Sl W g1 (some ⟨g1, 0, none⟩) n (m + n + 1) (L.take n) → Calls Try.prog 72 #[.slice (some ⟨g1, 0, none⟩) n (m + n + 1), .int .i64 (up : Int)] W (Ret1 W (limbs (val xs % val ys)))) := fun W h => by
        have := shr_any W g1 _ n (m + n + 1) (L.take n) (up : Int) h (by omega)
        rwa [Int.toNat_natCast, HF2.out] at this
      clear HF1 HF2
      go_wp2
      go_region_with (first
        | (go_at_call 49; ((with_reducible refine (HT.out wr.drew s1.drew).mono ?_); (rintro e w4 ⟨g4, A4, c4, rfl, hm4, hb4⟩); have HB4 : Hid (Below w.heap.size w w4) := HB.out.drew.trans (hb4.mono HB.out.size); have s4 := s2.drew.below hb4; have HO4 : Hid (Out w4 (limbs (val xs / val ys)) A4 c4) := ⟨g4, hm4.1⟩; clear hm4 hb4))
        | (go_at_call 72; ((with_reducible refine (HR.out w4 s4).mono ?_); (rintro e w5 ⟨g5, A5, c5, rfl, hm5, hb5⟩); have HB5 := Lib.hid hb5; have HO5 : Hid (Out w5 (limbs (val xs % val ys)) A5 c5) := ⟨g5, hm5.1⟩; clear hm5 hb5)))
      all_goals
        go_wp2
        go_ret2
        exact ⟨A4, c4, A5, c5, rfl, HO4.out.below HB5.out, HO5.out, HB4.out.trans (HB5.out.mono HB4.out.size)⟩
end Go.Proofs.Ytbendmhcimadpaa
