/-
  Contracts and words that the statement's proof rests on, several texts in one: Mul, Vals, Wn, Bo, Wa, Vall, We, Valr, Wb, Row.
-/
import Derived.Below
import Derived.BigQuiet
import Derived.Carry
import Derived.Deep.Draws
import Derived.Deep.MidRow
import Derived.Deep.QuietTactic
import Derived.Deep.RegionWith
import Derived.Laws.CopyOwn
import Derived.Laws.MakeOwn
import Derived.Laws.OwnMore
import Derived.Laws.Rows
import Derived.Lib.BitFns
import Derived.Lib.Hide
import Derived.Test.YtbhnpmkdmnnclaaDoorRows
import Derived.WalkKit
import Derived.WalkLawsBesides
import Derived.WalkSpells
import Derived.Test.YtbhnpmkdmnnclaaDoorYCae
/-
  What nat.Mul does, for all slices of limbs that are not too long for any machine.
-/
namespace Go.Proofs.YtbhnpmkdmnnclaaDoor
open Go.RowKit
set_option linter.unusedVariables false

/-- A block that holds the first i rounds' sum, and noughts behind it. -/
def MulsInv (w : World) (g p q : Nat) (la lb : List Nat) (i : Nat) (wr : World) : Prop :=
  ∃ hs : List Nat, hs.length = i + q ∧ Lim hs ∧ Own wr g (hs ++ List.replicate (p - i) 0) ∧ w.grownBy wr (some g) ∧ val hs = val (la.take i) * val lb

/-- One round of a product. -/
theorem mul_round {w wr w3 : World} {g p q k x : Nat} {la lb : List Nat} {hs : List Nat} {e : Ending} (hhs : hs.length = k + q) (hsl : Lim hs) (hown : Own wr g (hs ++ List.replicate (p - k) 0)) (hgr : w.grownBy wr (some g)) (hv : val hs = val (la.take k) * val lb)
    (hk : k < p) (hx : la.getD k 0 = x) (hla : la.length = p) (hp : MulPost wr.drew g k q (hs ++ List.replicate (p - k) 0) lb x e w3) :
    ∃ cy : Nat, e = .returned (.int .u32 (cy : Int)) ∧ w3.cell? ⟨g, k + q, none⟩ = some (.int .u32 0) ∧ w3.frozen? ⟨g, k + q, none⟩ = false ∧
      Hid (MulsInv w g p q la lb (k + 1) (w3.setCell ⟨g, k + q, none⟩ (.int .u32 (cy : Int)))) := by
  obtain ⟨cy, rfl, zs, hz, ht, hcy, hv2⟩ := hp
  have hlen : (hs ++ List.replicate (p - k) 0).length = q + p := by simp; omega
  have hcell := ht.cell (by omega)
  rw [hz] at hcell
  have e0 : (hs ++ List.replicate (p - k) 0).getD (k + q) 0 = 0 := by
    rw [List.getD_eq_getElem?_getD, List.getElem?_append_right (by omega), hhs, Nat.sub_self, List.getElem?_replicate]
    split <;> rfl
  rw [e0] at hcell
  refine ⟨cy, rfl, hcell, ht.1.frozen _, hs.take k ++ zs ++ [cy], by simp; omega, ((hsl.take k).append ht.2.2).append (Lim.cons hcy Lim.nil), ?_, ?_, ?_⟩
  · have h1 := ht.1.set (k + q) cy
    rw [← hz, mid_set (by omega)] at h1
    have e1 : mid (hs ++ List.replicate (p - k) 0) k (zs ++ [cy]) = hs.take k ++ zs ++ [cy] ++ List.replicate (p - (k + 1)) 0 := by
      unfold mid
      rw [List.take_append_of_le_length (by omega), List.drop_append, List.drop_eq_nil_of_le (by simp; omega), List.drop_replicate, List.length_append, hz, hhs]
      simp
      omega
    rw [e1, hz] at h1
    exact h1
  · have := grown_trans hgr (grown_trans (grown_drew (grown_refl wr (some g))) ht.2.1)
    exact grown_set this _
  · have e2 : ((hs ++ List.replicate (p - k) 0).drop k).take q = hs.drop k := by
      rw [List.drop_append_of_le_length (by omega), List.take_append_of_le_length (by simp; omega), List.take_of_length_le (by simp; omega)]
    rw [e2] at hv2
    have e3 := val_take_drop hs (k := k) (by omega)
    have e4 : (hs.take k ++ zs).length = k + q := by simp; omega
    have e5 : (hs.take k).length = k := by simp; omega
    rw [val_snoc, val_append, e4, e5, val_take_succ (by omega), hx, Nat.add_mul, ← hv, e3, Nat.pow_add]
    have e6 : 4294967296 ^ k * (val zs + cy * 4294967296 ^ q) = 4294967296 ^ k * (val (hs.drop k) + x * val lb) := by rw [hv2]
    grind

set_option maxHeartbeats 1000000 in
theorem mul_core (w : World) (b1 b2 : Nat) (A1 A2 : Option Addr) (n m c1 c2 p q : Nat) (la lb : List Nat) (h1 : Sl w b1 A1 p c1 la) (h2 : Sl w b2 A2 q c2 lb)
    (HC1 : Hid (Calls Tryd.prog 108 #[.slice A1 n c1] w fun e w' => e = .returned (.slice A1 p c1) ∧ w = w'))
    (HC2 : Hid (Calls Tryd.prog 108 #[.slice A2 m c2] w fun e w' => e = .returned (.slice A2 q c2) ∧ w = w'))
    (hp : p ≤ 549755813888) (hq : q ≤ 549755813888) :
    Calls Tryd.prog 92 #[.slice A1 n c1, .slice A2 m c2] w (Ret1 w (limbs (val la * val lb))) := by
  have H1 := Lib.hid h1.len
  have H2 := Lib.hid h2.len
  have hmk := fun W => run_make32' (p + q) ((p : Int) + q) (by omega) (by omega) W
  have hal : Below w.heap.size w (w.alloc (.cells (arr (List.replicate (p + q) 0)) 59)) := (Below.refl _ _).alloc (Nat.le_refl _) _
  go_enter Tryd.func92, Tryd.ntmps92
  go_wp2_with (first
    | (go_at_call 108; ((with_reducible refine HC1.out.mono ?_); rintro e w' ⟨rfl, rfl⟩))
    | (go_at_call 108; ((with_reducible refine HC2.out.mono ?_); rintro e w' ⟨rfl, rfl⟩)))
  clear HC1 HC2 hmk
  go_loopw [19] (fun i wr => ∃ k : Nat, k ≤ p ∧ i = .int .i64 k ∧ MulsInv (w.alloc (.cells (arr (List.replicate (p + q) 0)) 59)) w.heap.size p q la lb k wr) (fun i _ => p - (intOf i).toNat)
  case atStart => exact ⟨0, Nat.zero_le _, rfl, List.replicate q 0, by simp, Lim.replicate _, by have := Own.new w (List.replicate (p + q) 0); rw [List.replicate_append_replicate, Nat.sub_zero, Nat.add_comm q p]; exact this, grown_refl _ _, by rw [val_zeros]; simp [val]⟩
  case round =>
    obtain ⟨k, hk, rfl, hI⟩ := hrel
    have HI := Lib.hid hI
    clear hI
    by_cases hlt : k < p
    · obtain ⟨hs, hhs, hsl, hown, hgr, hv⟩ := HI.out
      have hbw := grown_of_new hal hgr
      have hsl1 := h1.below hbw
      have hsl2 := h2.below hbw
      obtain ⟨o1, rfl, hc1⟩ := hsl1.at (by omega)
      have hcell := hc1 k hlt
      have bx := h1.lim.getD k
      have hlen : (hs ++ List.replicate (p - k) 0).length = q + p := by simp; omega
      have HA := Lib.hid ((addTimes_any wr.drew w.heap.size k q (p + q - k) b2 c2 (la.getD k 0) A2 (hs ++ List.replicate (p - k) 0) lb hown (hsl.append (Lim.replicate _)) (by omega) (by omega) hsl2 (fun h => by have := h2.lt h; omega) bx).mono
        fun e w3 h3 => mul_round hhs hsl hown hgr hv hlt rfl H1.out h3)
      clear hown hsl hhs hgr hv hc1 hbw hlen hsl1 hsl2
      revert hcell HA
      generalize la.getD k 0 = x
      intro hcell HA
      have hcap : ¬ (p + q = k) := by omega
      have hs3 : (k : Int) + q ≤ (p : Int) + q := by omega
      have hs4 : (0 : Int) ≤ (k : Int) + q := by omega
      have hs5 : (k : Int) ≤ (k : Int) + q := by omega
      have hs2 : ((k : Int) + q).toNat = k + q := by omega
      have hs1 : IntKind.i64.wrap ((k : Int) + q) = (k : Int) + q := IntWalk.i64_in _ (by omega)
      go_wp2
      go_region_with ((go_at_call 112; ((with_reducible refine HA.out.mono ?_); (rintro e w3 ⟨cy, rfl, hc3, hf3, H3⟩))))
      clear hs1 hs2 hs3 hs4 hs5
      go_wp2
      go_roundw
      case rel => exact ⟨k + 1, by omega, by go_num, H3.out⟩
      case measure => simp [intOf]; omega
    · have hkp : k = p := by omega
      subst hkp
      obtain ⟨hs, hhs, hsl, hown, hgr, hv⟩ := HI.out
      rw [Nat.sub_self, List.replicate_zero, List.append_nil] at hown
      rw [val_take_all (xs := la) (by rw [H1.out]; omega)] at hv
      have hS := hown.all hsl (by omega) (c := k + q) (by omega)
      rw [hhs] at hS
      have HV := Lib.hid hv
      have HB := Lib.hid (grown_of_new hal hgr)
      clear hown hgr hv hhs hsl
      go_wp2_with (go_at_call 88; ((with_reducible refine (trim_any wr w.heap.size _ (k + q) (k + q) hs hS).mono ?_); rintro e w4 ⟨g4, A4, c4, rfl, hm4, hb4⟩))
      go_ret
      rw [HV.out] at hm4
      rw [HV.out]
      exact Ret1.of hm4 hb4 HB.out

theorem mul_any (w : World) (b1 b2 : Nat) (A1 A2 : Option Addr) (n m c1 c2 : Nat) (xs ys : List Nat) (h1 : Sl w b1 A1 n c1 xs) (h2 : Sl w b2 A2 m c2 ys) (hn : n ≤ 549755813888) (hm : m ≤ 549755813888) :
    Calls Tryd.prog 92 #[.slice A1 n c1, .slice A2 m c2] w (Ret1 w (limbs (val xs * val ys))) := by
  have := mul_core w b1 b2 A1 A2 n m c1 c2 _ _ _ _ (cut_sl h1) (cut_sl h2) (cut_any w b1 A1 n c1 xs h1) (cut_any w b2 A2 m c2 ys h2)
    (by have := val_limbs_le h1.lim; have := h1.len; omega) (by have := val_limbs_le h2.lim; have := h2.len; omega)
  rwa [val_limbs, val_limbs] at this
end Go.Proofs.YtbhnpmkdmnnclaaDoor

/-
  What the functions of package nat do, said of numbers: a slice reads as a number; what is answered is trim. For slices of at most 2^30 limbs.
-/
namespace Go.Proofs.YtbhnpmkdmnnclaaDoor
open Go.RowKit
set_option linter.unusedVariables false

/-- A slice reads as the number v. -/
def Rd (w : World) (A : Option Addr) (n c v : Nat) : Prop := ∃ b xs, Sl w b A n c xs ∧ val xs = v
/-- A slice is the trim limbs of the number v. -/
def Nm (w : World) (A : Option Addr) (n c v : Nat) : Prop := ∃ b, Sl w b A n c (limbs v)

theorem Nm.rd {w : World} {A : Option Addr} {n c v : Nat} (h : Nm w A n c v) : Rd w A n c v := by
  obtain ⟨b, h⟩ := h
  exact ⟨b, _, h, val_limbs v⟩
theorem Rd.below {w w' : World} {A : Option Addr} {n c v : Nat} (h : Rd w A n c v) (hb : Below w.heap.size w w') : Rd w' A n c v := by
  obtain ⟨b, xs, h, e⟩ := h
  exact ⟨b, xs, h.below hb, e⟩
theorem Nm.below {w w' : World} {A : Option Addr} {n c v : Nat} (h : Nm w A n c v) (hb : Below w.heap.size w w') : Nm w' A n c v := by
  obtain ⟨b, h⟩ := h
  exact ⟨b, h.below hb⟩
theorem Nm.len {w : World} {A : Option Addr} {n c v : Nat} (h : Nm w A n c v) : (limbs v).length = n := by
  obtain ⟨b, h⟩ := h
  exact h.len
theorem Nm.zero {w : World} : Nm w none 0 0 0 := ⟨0, by rw [limbs_zero]; exact Sl.nil⟩
theorem Rd.bound {w : World} {A : Option Addr} {n c v : Nat} (h : Rd w A n c v) : v < 4294967296 ^ n := by
  obtain ⟨b, xs, h, rfl⟩ := h
  have := val_lt h.lim
  rwa [h.len] at this
theorem Rd.big {w : World} {A : Option Addr} {n c v : Nat} (h : Rd w A n c v) : n ≤ 1099511627776 := by
  obtain ⟨b, xs, h, rfl⟩ := h
  exact h.big
theorem Rd.limbs_le {w : World} {A : Option Addr} {n c v : Nat} (h : Rd w A n c v) : (limbs v).length ≤ n := limbs_length_le h.bound
theorem Rd.blen_le {w : World} {A : Option Addr} {n c v : Nat} (h : Rd w A n c v) : blen v ≤ n * 32 := by
  apply blen_mono_le
  rw [← pow32]
  exact h.bound
theorem Made.nm {w w' : World} {v g c : Nat} {A : Option Addr} (h : Made w w' (limbs v) g A c) : Nm w' A (limbs v).length c v := ⟨g, h.1⟩
theorem Out.nm {w' : World} {v c : Nat} {A : Option Addr} (h : Out w' (limbs v) A c) : Nm w' A (limbs v).length c v := by
  obtain ⟨b, h, _⟩ := h
  exact ⟨b, h⟩

def P1 (w : World) (K v : Nat) (e : Ending) (w' : World) : Prop := ∃ A n c, e = .returned (.slice A n c) ∧ Nm w' A n c v ∧ n ≤ K ∧ Below w.heap.size w w'
def P1T (w : World) (K v : Nat) (e : Ending) (w' : World) : Prop := ∃ A n c, e = .returned (.tuple #[.slice A n c, .bool true]) ∧ Nm w' A n c v ∧ n ≤ K ∧ Below w.heap.size w w'
def PI (w : World) (z : Int) (e : Ending) (w' : World) : Prop := e = .returned (.int .i64 z) ∧ Below w.heap.size w w'

theorem limbs_add_len {a b n m : Nat} (ha : a < 4294967296 ^ n) (hb : b < 4294967296 ^ m) : (limbs (a + b)).length ≤ n + m + 1 := by
  apply limbs_length_le
  have h1 := Nat.pow_le_pow_right (n := 4294967296) (by decide) (show n ≤ n + m by omega)
  have h2 := Nat.pow_le_pow_right (n := 4294967296) (by decide) (show m ≤ n + m by omega)
  rw [Nat.pow_succ]
  omega
theorem limbs_mul_len {a b n m : Nat} (ha : a < 4294967296 ^ n) (hb : b < 4294967296 ^ m) : (limbs (a * b)).length ≤ n + m := by
  apply limbs_length_le
  rw [Nat.pow_add]
  exact Nat.mul_lt_mul'' ha hb

section
variable {w : World} {A1 A2 : Option Addr} {n m c1 c2 a b : Nat}

theorem vTrim (h1 : Rd w A1 n c1 a) : Calls Tryd.prog 88 #[.slice A1 n c1] w (P1 w n a) := by
  have hl := h1.limbs_le
  obtain ⟨b1, xs, h1, rfl⟩ := h1
  refine (trim_any w b1 A1 n c1 xs h1).mono ?_
  rintro e w' ⟨g, A, c, rfl, hm, hb⟩
  exact ⟨A, _, c, rfl, hm.nm, hl, hb⟩

theorem vAdd (h1 : Rd w A1 n c1 a) (h2 : Rd w A2 m c2 b) (hn : n ≤ 1073741824) (hm : m ≤ 1073741824) : Calls Tryd.prog 118 #[.slice A1 n c1, .slice A2 m c2] w (P1 w (n + m + 1) (a + b)) := by
  have hl := limbs_add_len h1.bound h2.bound
  obtain ⟨b1, xs, h1, rfl⟩ := h1
  obtain ⟨b2, ys, h2, rfl⟩ := h2
  refine (add_any w b1 b2 A1 A2 n m c1 c2 xs ys h1 h2 (by omega) (by omega)).mono ?_
  rintro e w' ⟨g, A, c, rfl, hm, hb⟩
  exact ⟨A, _, c, rfl, hm.nm, hl, hb⟩

theorem vMul (h1 : Rd w A1 n c1 a) (h2 : Rd w A2 m c2 b) (hn : n ≤ 1073741824) (hm : m ≤ 1073741824) : Calls Tryd.prog 92 #[.slice A1 n c1, .slice A2 m c2] w (P1 w (n + m) (a * b)) := by
  have hl := limbs_mul_len h1.bound h2.bound
  obtain ⟨b1, xs, h1, rfl⟩ := h1
  obtain ⟨b2, ys, h2, rfl⟩ := h2
  refine (mul_any w b1 b2 A1 A2 n m c1 c2 xs ys h1 h2 (by omega) (by omega)).mono ?_
  rintro e w' ⟨g, A, c, rfl, hm, hb⟩
  exact ⟨A, _, c, rfl, hm.nm, hl, hb⟩

theorem vSub (h1 : Rd w A1 n c1 a) (h2 : Rd w A2 m c2 b) (h : b ≤ a) : Calls Tryd.prog 119 #[.slice A1 n c1, .slice A2 m c2] w (P1T w n (a - b)) := by
  have hl := Nat.le_trans (limbs_length_mono (Nat.sub_le a b)) h1.limbs_le
  obtain ⟨b1, xs, h1, rfl⟩ := h1
  obtain ⟨b2, ys, h2, rfl⟩ := h2
  refine (sub_ge w b1 b2 A1 A2 n m c1 c2 xs ys h1 h2 h).mono ?_
  rintro e w' ⟨g, A, c, rfl, hm, hb⟩
  exact ⟨A, _, c, rfl, hm.nm, hl, hb⟩

theorem vSub_lt (h1 : Rd w A1 n c1 a) (h2 : Rd w A2 m c2 b) (h : a < b) : Calls Tryd.prog 119 #[.slice A1 n c1, .slice A2 m c2] w fun e w' => e = .returned (.tuple #[.slice none 0 0, .bool false]) ∧ Below w.heap.size w w' := by
  obtain ⟨b1, xs, h1, rfl⟩ := h1
  obtain ⟨b2, ys, h2, rfl⟩ := h2
  refine (sub_lt w b1 b2 A1 A2 n m c1 c2 xs ys h1 h2 h).mono ?_
  rintro e w' ⟨rfl, q, rfl⟩
  exact ⟨rfl, below_drewN (Below.refl _ _) q⟩

theorem vCmp (h1 : Rd w A1 n c1 a) (h2 : Rd w A2 m c2 b) : Calls Tryd.prog 113 #[.slice A1 n c1, .slice A2 m c2] w (PI w (cmpI a b)) := by
  obtain ⟨b1, xs, h1, rfl⟩ := h1
  obtain ⟨b2, ys, h2, rfl⟩ := h2
  refine (cmp_any w b1 b2 A1 A2 n m c1 c2 xs ys h1 h2).mono ?_
  rintro e w' ⟨rfl, q, rfl⟩
  exact ⟨rfl, below_drewN (Below.refl _ _) q⟩

theorem vShr (z : Int) (h1 : Rd w A1 n c1 a) (hz : z ≤ 9223372036854775807) : Calls Tryd.prog 86 #[.slice A1 n c1, .int .i64 z] w (P1 w n (a / 2 ^ z.toNat)) := by
  have hl := Nat.le_trans (limbs_length_mono (Nat.div_le_self a (2 ^ z.toNat))) h1.limbs_le
  obtain ⟨b1, xs, h1, rfl⟩ := h1
  refine (shr_any w b1 A1 n c1 xs z h1 hz).mono ?_
  rintro e w' ⟨g, A, c, rfl, hm, hb⟩
  exact ⟨A, _, c, rfl, hm.nm, hl, hb⟩

theorem vCmpE {z : Int} (h1 : Rd w A1 n c1 a) (h2 : Rd w A2 m c2 b) (hz : cmpI (a : Int) (b : Int) = z) : Calls Tryd.prog 113 #[.slice A1 n c1, .slice A2 m c2] w (PI w z) := hz ▸ vCmp h1 h2
theorem vShrE {z : Int} {r : Nat} (h1 : Rd w A1 n c1 a) (hz : z ≤ 9223372036854775807) (hr : a / 2 ^ z.toNat = r) : Calls Tryd.prog 86 #[.slice A1 n c1, .int .i64 z] w (P1 w n r) := hr ▸ vShr z h1 hz
theorem vShrN {s r : Nat} (h1 : Rd w A1 n c1 a) (hs : s ≤ 9223372036854775807) (hr : a / 2 ^ s = r) : Calls Tryd.prog 86 #[.slice A1 n c1, .int .i64 (s : Int)] w (P1 w n r) :=
  vShrE h1 (by omega) (by rw [Int.toNat_natCast]; exact hr)
end

end Go.Proofs.YtbhnpmkdmnnclaaDoor

/-
  Words for whole numbers: a sign and a slice of limbs that read as an integer; what a call answers that answers one. No Go function.
-/
namespace Go.Proofs.YtbhnpmkdmnnclaaDoor
open Go.RowKit
set_option linter.unusedVariables false

/-- The number of a sign and a number. -/
def sg (s : Bool) (a : Nat) : Int := if s then -(a : Int) else a
theorem sg_natAbs (s : Bool) (a : Nat) : (sg s a).natAbs = a := by cases s <;> simp [sg]
theorem sg_zero (s : Bool) : sg s 0 = 0 := by cases s <;> rfl
theorem sg_lt (s : Bool) (a : Nat) : decide (sg s a < 0) = (s && decide (0 < a)) := by cases s <;> simp [sg] <;> omega

/-- A sign and a slice read as the integer z. -/
def Wr (w : World) (s : Bool) (A : Option Addr) (n c : Nat) (z : Int) : Prop := ∃ a, Rd w A n c a ∧ sg s a = z
/-- A sign and a slice are just the limbs and the sign that the integer z has. -/
def Wn (w : World) (s : Bool) (A : Option Addr) (n c : Nat) (z : Int) : Prop := Nm w A n c z.natAbs ∧ s = decide (z < 0)

theorem Wn.wr {w : World} {s : Bool} {A : Option Addr} {n c : Nat} {z : Int} (h : Wn w s A n c z) : Wr w s A n c z := by
  obtain ⟨h, rfl⟩ := h
  refine ⟨_, h.rd, ?_⟩
  by_cases e : z < 0
  · simp [sg, e]; omega
  · simp [sg, e]; omega
theorem Wr.below {w w' : World} {s : Bool} {A : Option Addr} {n c : Nat} {z : Int} (h : Wr w s A n c z) (hb : Below w.heap.size w w') : Wr w' s A n c z := by
  obtain ⟨a, h, e⟩ := h
  exact ⟨a, h.below hb, e⟩
theorem Wn.below {w w' : World} {s : Bool} {A : Option Addr} {n c : Nat} {z : Int} (h : Wn w s A n c z) (hb : Below w.heap.size w w') : Wn w' s A n c z := ⟨h.1.below hb, h.2⟩
theorem Wr.rd {w : World} {s : Bool} {A : Option Addr} {n c : Nat} {z : Int} (h : Wr w s A n c z) : Rd w A n c z.natAbs := by
  obtain ⟨a, h, rfl⟩ := h
  rw [sg_natAbs]
  exact h
theorem Wr.eq {w : World} {s : Bool} {A : Option Addr} {n c : Nat} {z : Int} (h : Wr w s A n c z) : sg s z.natAbs = z := by
  obtain ⟨a, h, rfl⟩ := h
  rw [sg_natAbs]
theorem Rd.wr {w : World} {A : Option Addr} {n c a : Nat} (s : Bool) (h : Rd w A n c a) : Wr w s A n c (sg s a) := ⟨a, h, rfl⟩
theorem Nm.pos {w : World} {A : Option Addr} {n c v : Nat} (h : Nm w A n c v) : 0 < n ↔ 0 < v := by
  have hl := h.len
  by_cases e : v = 0
  · subst e; rw [limbs_zero] at hl; simp at hl; omega
  · rw [limbs_pos e] at hl; simp at hl; omega
theorem Nm.wn {w : World} {A : Option Addr} {n c a : Nat} (s : Bool) (h : Nm w A n c a) : Wn w (s && decide (0 < n)) A n c (sg s a) := by
  refine ⟨by rw [sg_natAbs]; exact h, ?_⟩
  rw [sg_lt]
  congr 1
  exact decide_eq_decide.2 h.pos
theorem Wn.zero {w : World} : Wn w false none 0 0 0 := ⟨Nm.zero, rfl⟩

/-- The call answers the whole number z, of at most K limbs. -/
def W1 (w : World) (K : Nat) (z : Int) (e : Ending) (w' : World) : Prop := ∃ s A n c, e = .returned (.agg #[.bool s, .slice A n c]) ∧ Wn w' s A n c z ∧ n ≤ K ∧ Below w.heap.size w w'
def PB (w : World) (t : Bool) (e : Ending) (w' : World) : Prop := e = .returned (.bool t) ∧ Below w.heap.size w w'
theorem ret_bool {a b : Bool} (h : a = b) : Ending.returned (.bool a) = .returned (.bool b) := by rw [h]
/-- What was there reads as it did. -/
theorem bcell {W w1 : World} (hb : Below W.heap.size W w1) : (∀ b o, b < W.heap.size → w1.cell? ⟨b, o, none⟩ = W.cell? ⟨b, o, none⟩) ∧ (∀ b o, b < W.heap.size → w1.frozen? ⟨b, o, none⟩ = W.frozen? ⟨b, o, none⟩) :=
  ⟨fun b o h => hb.cell (p := ⟨b, o, none⟩) h, fun b o h => hb.frozen (p := ⟨b, o, none⟩) h⟩
theorem bel1 (w : World) (a : Obj) : Below w.heap.size w (w.alloc a) := alloc_below _ _
theorem bel2 (w : World) (a b : Obj) : Below w.heap.size w ((w.alloc a).alloc b) := (bel1 w a).alloc (by simp) _
theorem bel3 (w : World) (a b c : Obj) : Below w.heap.size w (((w.alloc a).alloc b).alloc c) := (bel2 w a b).alloc (by simp; omega) _
theorem bel4 (w : World) (a b c d : Obj) : Below w.heap.size w ((((w.alloc a).alloc b).alloc c).alloc d) := (bel3 w a b c).alloc (by simp; omega) _
theorem bt {w w1 w2 : World} (h : Below w.heap.size w w1) (k : Below w1.heap.size w1 w2) : Below w.heap.size w w2 := h.trans (k.mono h.size)
/-- A struct of two cells, stored where nothing was before. -/
theorem st2 {B : Nat} {a w : World} (h : Below B a w) {b o1 o2 : Nat} (hp : B ≤ b) (u v : Value) : Below B a ((w.setCell ⟨b, o1, none⟩ u).setCell ⟨b, o2, none⟩ v) := (h.setCell (p := ⟨b, o1, none⟩) hp u).setCell (p := ⟨b, o2, none⟩) hp v

/-- Block g is just one whole number, its sign and its slice, none frozen. -/
def Bx (w : World) (g : Nat) (s : Bool) (A : Option Addr) (n c : Nat) : Prop := w.heap[g]? = some (.cells #[.bool s, .slice A n c] 37 (0, 0))
section
variable {w w' : World} {g : Nat} {s : Bool} {A : Option Addr} {n c : Nat}
theorem Bx.lt (h : Bx w g s A n c) : g < w.heap.size := by
  rcases Nat.lt_or_ge g w.heap.size with hlt | hge
  · exact hlt
  · unfold Bx at h; rw [Array.getElem?_eq_none hge] at h; cases h
theorem Bx.keep (h : Bx w g s A n c) (hk : w'.heap[g]? = w.heap[g]?) : Bx w' g s A n c := hk.trans h
theorem Bx.below (h : Bx w g s A n c) (hb : Below w.heap.size w w') : Bx w' g s A n c := h.keep (hb.block g h.lt)
theorem Bx.new (w : World) (s : Bool) (A : Option Addr) (n c : Nat) : Bx (w.alloc (.cells #[.bool s, .slice A n c] 37)) w.heap.size s A n c := heap_alloc_new w _
theorem Bx.newAt (w : World) {g : Nat} (hg : w.heap.size = g) (s : Bool) (A : Option Addr) (n c : Nat) : Bx (w.alloc (.cells #[.bool s, .slice A n c] 37)) g s A n c := hg ▸ heap_alloc_new w _
theorem Bx.cell0 (h : Bx w g s A n c) : w.cell? ⟨g, 0, none⟩ = some (.bool s) := by rw [cell_of_row w g 0 _ _ (0, 0) h]; rfl
theorem Bx.cell1 (h : Bx w g s A n c) : w.cell? ⟨g, 1, none⟩ = some (.slice A n c) := by rw [cell_of_row w g 1 _ _ (0, 0) h]; rfl
theorem Bx.frozen (h : Bx w g s A n c) (i : Nat) : w.frozen? ⟨g, i, none⟩ = false := by
  unfold Bx at h
  simp [World.frozen?, h]
theorem Bx.no32 (h : Bx w g s A n c) {o : Nat} {x : Int} (hc : w.cell? ⟨g, o, none⟩ = some (.int .u32 x)) : False := by
  rw [cell_of_row w g o _ _ (0, 0) h] at hc
  match o, hc with
  | 0, hc => simp at hc
  | 1, hc => simp at hc
  | k + 2, hc => simp at hc
theorem Bx.set (h : Bx w g s A n c) (s' : Bool) (A' : Option Addr) (n' c' : Nat) : Bx ((w.setCell ⟨g, 0, none⟩ (.bool s')).setCell ⟨g, 1, none⟩ (.slice A' n' c')) g s' A' n' c' := by
  unfold Bx at h ⊢
  simp [World.setCell, Array.getElem?_modify, h]
theorem heap_st2 (w : World) {g k o1 o2 : Nat} (h : k ≠ g) (u v : Value) : ((w.setCell ⟨g, o1, none⟩ u).setCell ⟨g, o2, none⟩ v).heap[k]? = w.heap[k]? := by
  rw [Below.heap_setCell _ _ _ _ h, Below.heap_setCell _ _ _ _ h]
theorem Bx.far (h : Bx w g s A n c) {k : Nat} (hk : g ≠ k) (u v : Value) : Bx ((w.setCell ⟨k, 0, none⟩ u).setCell ⟨k, 1, none⟩ v) g s A n c := h.keep (heap_st2 w hk u v)
theorem sl_st {b : Nat} {B : Option Addr} {m d : Nat} {xs : List Nat} (h : Sl w b B m d xs) (X : Bx w g s A n c) (u v : Value) : Sl ((w.setCell ⟨g, 0, none⟩ u).setCell ⟨g, 1, none⟩ v) b B m d xs :=
  h.keep fun hm => heap_st2 w (fun e => by
    obtain ⟨o, _, hc⟩ := h.at hm
    have := hc 0 hm
    rw [e] at this
    exact X.no32 this) u v
theorem Nm.st {B : Option Addr} {m d a : Nat} (h : Nm w B m d a) (X : Bx w g s A n c) (u v : Value) : Nm ((w.setCell ⟨g, 0, none⟩ u).setCell ⟨g, 1, none⟩ v) B m d a := by
  obtain ⟨b, h⟩ := h
  exact ⟨b, sl_st h X u v⟩
theorem Rd.st {B : Option Addr} {m d a : Nat} (h : Rd w B m d a) (X : Bx w g s A n c) (u v : Value) : Rd ((w.setCell ⟨g, 0, none⟩ u).setCell ⟨g, 1, none⟩ v) B m d a := by
  obtain ⟨b, xs, h, e⟩ := h
  exact ⟨b, xs, sl_st h X u v, e⟩
theorem Wn.st {t : Bool} {B : Option Addr} {m d : Nat} {z : Int} (h : Wn w t B m d z) (X : Bx w g s A n c) (u v : Value) : Wn ((w.setCell ⟨g, 0, none⟩ u).setCell ⟨g, 1, none⟩ v) t B m d z := ⟨h.1.st X u v, h.2⟩
theorem Wr.st {t : Bool} {B : Option Addr} {m d : Nat} {z : Int} (h : Wr w t B m d z) (X : Bx w g s A n c) (u v : Value) : Wr ((w.setCell ⟨g, 0, none⟩ u).setCell ⟨g, 1, none⟩ v) t B m d z := by
  obtain ⟨a, h, e⟩ := h
  exact ⟨a, h.st X u v, e⟩
theorem Bx.drew (h : Bx w g s A n c) : Bx w.drew g s A n c := h
theorem Nm.drew {a : Nat} (h : Nm w A n c a) : Nm w.drew A n c a := h
theorem Rd.drew {a : Nat} (h : Rd w A n c a) : Rd w.drew A n c a := h
theorem Wn.drew {z : Int} (h : Wn w s A n c z) : Wn w.drew s A n c z := h
theorem Wr.drew {z : Int} (h : Wr w s A n c z) : Wr w.drew s A n c z := h
end
end Go.Proofs.YtbhnpmkdmnnclaaDoor

/-
  Words for boxes: a block of the call's own that is one struct, whatever its cells, and what a store into it leaves. No Go function.
-/
namespace Go.Proofs.YtbhnpmkdmnnclaaDoor
open Go.RowKit
set_option linter.unusedVariables false

/-- Block g is just the cells cs, none frozen. -/
def Bo (w : World) (g : Nat) (cs : Array Value) (T : TypeId) : Prop := w.heap[g]? = some (.cells cs T (0, 0))
/-- No cell is a limb. -/
def no32 (v : Value) : Bool := match v with
  | .int .u32 _ => false
  | _ => true
section
variable {w w' : World} {g : Nat} {cs : Array Value} {T : TypeId}
theorem Bo.lt (h : Bo w g cs T) : g < w.heap.size := by
  rcases Nat.lt_or_ge g w.heap.size with hlt | hge
  · exact hlt
  · unfold Bo at h; rw [Array.getElem?_eq_none hge] at h; cases h
theorem Bo.keep (h : Bo w g cs T) (hk : w'.heap[g]? = w.heap[g]?) : Bo w' g cs T := hk.trans h
theorem Bo.below (h : Bo w g cs T) (hb : Below w.heap.size w w') : Bo w' g cs T := h.keep (hb.block g h.lt)
theorem Bo.drew (h : Bo w g cs T) : Bo w.drew g cs T := h
theorem Bo.new (w : World) (cs : Array Value) (T : TypeId) : Bo (w.alloc (.cells cs T)) w.heap.size cs T := heap_alloc_new w _
theorem Bo.newAt (w : World) {g : Nat} (hg : w.heap.size = g) (cs : Array Value) (T : TypeId) : Bo (w.alloc (.cells cs T)) g cs T := hg ▸ heap_alloc_new w _
theorem Bo.cell (h : Bo w g cs T) (i : Nat) : w.cell? ⟨g, i, none⟩ = cs[i]? := by rw [cell_of_row w g i _ _ (0, 0) h]
theorem Bo.frozen (h : Bo w g cs T) (i : Nat) : w.frozen? ⟨g, i, none⟩ = false := by
  unfold Bo at h
  simp [World.frozen?, h]
theorem Bo.set (h : Bo w g cs T) (i : Nat) (v : Value) : Bo (w.setCell ⟨g, i, none⟩ v) g (cs.setIfInBounds i v) T := by
  unfold Bo at h ⊢
  simp [World.setCell, Array.getElem?_modify, h]
theorem Bo.far (h : Bo w g cs T) {k : Nat} (hk : g ≠ k) (i : Nat) (v : Value) : Bo (w.setCell ⟨k, i, none⟩ v) g cs T := h.keep (Below.heap_setCell w _ _ _ hk)
theorem Bo.no (h : Bo w g cs T) (hn : cs.all no32 = true) {o : Nat} {x : Int} (hc : w.cell? ⟨g, o, none⟩ = some (.int .u32 x)) : False := by
  rw [h.cell] at hc
  rw [Array.all_eq_true] at hn
  obtain ⟨hlt, he⟩ := Array.getElem?_eq_some_iff.1 hc
  have := hn o hlt
  rw [he] at this
  cases this
theorem sl_store {b : Nat} {B : Option Addr} {m d : Nat} {xs : List Nat} (h : Sl w b B m d xs) (X : Bo w g cs T) (hn : cs.all no32 = true) (i : Nat) (v : Value) : Sl (w.setCell ⟨g, i, none⟩ v) b B m d xs :=
  h.keep fun hm => Below.heap_setCell w _ _ _ (fun e => by
    obtain ⟨o, _, hc⟩ := h.at hm
    have := hc 0 hm
    rw [e] at this
    exact X.no hn this)
theorem Nm.store {B : Option Addr} {m d a : Nat} (h : Nm w B m d a) (X : Bo w g cs T) (hn : cs.all no32 = true) (i : Nat) (v : Value) : Nm (w.setCell ⟨g, i, none⟩ v) B m d a := by
  obtain ⟨b, h⟩ := h
  exact ⟨b, sl_store h X hn i v⟩
theorem Rd.store {B : Option Addr} {m d a : Nat} (h : Rd w B m d a) (X : Bo w g cs T) (hn : cs.all no32 = true) (i : Nat) (v : Value) : Rd (w.setCell ⟨g, i, none⟩ v) B m d a := by
  obtain ⟨b, xs, h, e⟩ := h
  exact ⟨b, xs, sl_store h X hn i v, e⟩
theorem Wn.store {s : Bool} {B : Option Addr} {m d : Nat} {z : Int} (h : Wn w s B m d z) (X : Bo w g cs T) (hn : cs.all no32 = true) (i : Nat) (v : Value) : Wn (w.setCell ⟨g, i, none⟩ v) s B m d z := ⟨h.1.store X hn i v, h.2⟩
theorem Wr.store {s : Bool} {B : Option Addr} {m d : Nat} {z : Int} (h : Wr w s B m d z) (X : Bo w g cs T) (hn : cs.all no32 = true) (i : Nat) (v : Value) : Wr (w.setCell ⟨g, i, none⟩ v) s B m d z := by
  obtain ⟨a, h, e⟩ := h
  exact ⟨a, h.store X hn i v, e⟩
theorem below_store {B : Nat} {a : World} (h : Below B a w) {b : Nat} (hp : B ≤ b) (i : Nat) (u : Value) : Below B a (w.setCell ⟨b, i, none⟩ u) := h.setCell (p := ⟨b, i, none⟩) hp u
end
end Go.Proofs.YtbhnpmkdmnnclaaDoor

/-
  What whole.signed, Make and Neg do.
-/
namespace Go.Proofs.YtbhnpmkdmnnclaaDoor
open Go.RowKit
set_option linter.unusedVariables false

set_option maxHeartbeats 400000 in
theorem wSigned {w : World} {A : Option Addr} {n c a : Nat} (s : Bool) (h : Nm w A n c a) : Calls Tryd.prog 87 #[.bool s, .slice A n c] w (W1 w n (sg s a)) := by
  have HW := Lib.hid (h.wn s)
  have hbig := h.rd.big
  clear h
  cases s
  · go_enter Tryd.func87, Tryd.ntmps87
    go_wp2
    exact bodyPost_ret (v := .agg #[.bool false, .slice A n c]) (by simp [results, Tryd.results87, go_sem]) rfl ⟨false, A, n, c, rfl, HW.out.below (bel1 _ _), Nat.le_refl _, bel1 _ _⟩
  · by_cases h0 : 0 < n
    · have e : decide (0 < n) = true := by simpa using h0
      go_enter Tryd.func87, Tryd.ntmps87
      go_wp2
      exact bodyPost_ret (v := .agg #[.bool true, .slice A n c]) (by simp [results, Tryd.results87, go_sem]) rfl ⟨true, A, n, c, rfl, by have := HW.out; rw [e] at this; exact this.below (bel1 _ _), Nat.le_refl _, bel1 _ _⟩
    · obtain rfl : n = 0 := by omega
      go_enter Tryd.func87, Tryd.ntmps87
      go_wp2
      exact bodyPost_ret (v := .agg #[.bool false, .slice A 0 c]) (by simp [results, Tryd.results87, go_sem]) rfl ⟨false, A, 0, c, rfl, HW.out.below (bel1 _ _), Nat.le_refl _, bel1 _ _⟩

set_option maxHeartbeats 400000 in
theorem wMake {w : World} {A : Option Addr} {n c a : Nat} (s : Bool) (h : Rd w A n c a) : Calls Tryd.prog 51 #[.bool s, .slice A n c] w (W1 w n (sg s a)) := by
  go_enter Tryd.func51, Tryd.ntmps51
  go_wp2_with (first
    | (go_at_call 88; ((with_reducible refine (vTrim (h.below (bel1 _ _))).mono ?_); rintro e w1 ⟨A1, n1, c1, rfl, h1, k1, B1⟩))
    | (go_at_call 87; ((with_reducible refine (wSigned s h1).mono ?_); rintro e w2 ⟨s2, A2, n2, c2, rfl, h2, k2, B2⟩; obtain ⟨hc, hf⟩ := bcell (bt B1 B2))))
  have X := (Bx.new w false none 0 0).below (bt B1 B2)
  exact bodyPost_ret (v := .agg #[.bool s2, .slice A2 n2 c2]) (by simp [results, Tryd.results51, go_sem, X.cell0, X.cell1]) rfl ⟨s2, A2, n2, c2, rfl, h2.st X _ _, by omega, st2 (bt (bel1 _ _) (bt B1 B2)) (Nat.le_refl _) _ _⟩

end Go.Proofs.YtbhnpmkdmnnclaaDoor

/-
  What nat.Len does, said of numbers; and the order of two numbers.
-/
namespace Go.Proofs.YtbhnpmkdmnnclaaDoor
open Go.RowKit
set_option linter.unusedVariables false

section
variable {w : World} {A1 A2 : Option Addr} {n m c1 c2 a b : Nat}
theorem vLen (h1 : Rd w A1 n c1 a) : Calls Tryd.prog 106 #[.slice A1 n c1] w (PI w (blen a : Nat)) := by
  obtain ⟨b1, xs, h1, rfl⟩ := h1
  refine (len_any w b1 A1 n c1 xs h1).mono ?_
  rintro e w' ⟨rfl, rfl⟩
  exact ⟨rfl, Below.refl _ _⟩

theorem vLenE {z : Int} (h1 : Rd w A1 n c1 a) (hz : ((blen a : Nat) : Int) = z) : Calls Tryd.prog 106 #[.slice A1 n c1] w (PI w z) := hz ▸ vLen h1
end
theorem cmpI_self (a : Nat) : cmpI (a : Int) (a : Int) = 0 := cmpI_eq rfl
theorem cmpI_bd (a b : Int) : -1 ≤ cmpI a b ∧ cmpI a b ≤ 1 := by unfold cmpI; split <;> (try split) <;> omega
theorem blen_eq_zero {a : Nat} : blen a = 0 ↔ a = 0 := by
  constructor
  · intro h
    have := blen_lt a
    rw [h] at this
    simpa using this
  · rintro rfl; rfl
end Go.Proofs.YtbhnpmkdmnnclaaDoor

/-
  What whole.May does.
-/
namespace Go.Proofs.YtbhnpmkdmnnclaaDoor
open Go.RowKit
set_option linter.unusedVariables false

/-- May a number be that has the sign s and n limbs, and whose limbs are the number a? -/
def mayB (s : Bool) (n a : Nat) : Bool := decide ((limbs a).length = n) && (decide (0 < n) || !s)
theorem mayB_zero (s : Bool) {a : Nat} (h : a < 4294967296 ^ 0) : mayB s 0 a = !s := by
  obtain rfl : a = 0 := by simpa using h
  simp [mayB, limbs_zero]
theorem mayB_pos (s : Bool) {n : Nat} {xs : List Nat} (hl : Lim xs) (h : xs.length = n) (hn : 0 < n) : mayB s n (val xs) = (((xs.getD (n - 1) 0 : Nat) : Int) != 0) := by
  have h1 : decide (0 < n) = true := by simpa using hn
  unfold mayB
  rw [h1, Bool.true_or, Bool.and_true]
  by_cases e : xs.getD (n - 1) 0 = 0
  · rw [e]
    have : (limbs (val xs)).length ≤ n - 1 := by
      apply limbs_length_le
      have e3 : val (xs.drop (n - 1)) = 0 := by rw [val_drop (by omega), e, show n - 1 + 1 = n by omega, List.drop_of_length_le (by omega)]; rfl
      have e2 := val_take_drop xs (k := n - 1) (by omega)
      rw [e3, Nat.mul_zero, Nat.add_zero] at e2
      rw [e2]
      have := val_lt (hl.take (n - 1))
      rwa [List.length_take, h, Nat.min_eq_left (by omega)] at this
    simp
    omega
  · have := take_eq_limbs hl (k := n) (by omega) (by rw [List.drop_of_length_le (by omega)]; rfl) (fun _ => e)
    have hlen : (limbs (val xs)).length = n := by rw [← this, List.length_take]; omega
    rw [hlen]
    have e' : ((xs.getD (n - 1) 0 : Nat) : Int) ≠ 0 := by omega
    simp only [decide_true]
    exact (bne_iff_ne.2 e').symm
set_option maxHeartbeats 400000 in
theorem wMay {w : World} {A : Option Addr} {n c a : Nat} {s : Bool} {r : Bool} (h : Rd w A n c a) (hr : mayB s n a = r) : Calls Tryd.prog 111 #[.agg #[.bool s, .slice A n c]] w (PB w r) := by
  rcases Nat.eq_zero_or_pos n with e | hn
  · subst e
    rw [mayB_zero s h.bound] at hr
    subst hr
    go_enter Tryd.func111, Tryd.ntmps111
    go_wp2
    go_ret
    exact ⟨rfl, bel1 _ _⟩
  · obtain ⟨b, xs, h, rfl⟩ := h
    rw [mayB_pos s h.lim h.len hn] at hr
    have hbig := h.big
    have hcap := h.cap
    have hlt := h.lt hn
    obtain ⟨o, rfl, hcell⟩ := h.at hn
    have hck := hcell (n - 1) (by omega)
    clear hcell h
    have hi : ((n : Int) - 1).toNat = n - 1 := by omega
    revert hr hck
    generalize xs.getD (n - 1) 0 = x
    intro hr hck
    have HR := Lib.hid hr
    have hq : ((n : Int) == 0) = false := by have : (n : Int) ≠ 0 := by omega
                                             simpa using this
    have hne : b ≠ w.heap.size := by omega
    clear hr
    go_enter Tryd.func111, Tryd.ntmps111
    go_wp2
    go_ret
    exact ⟨ret_bool HR.out, bel1 _ _⟩
end Go.Proofs.YtbhnpmkdmnnclaaDoor

/-
  What nat.Shl and nat.Root do, said of numbers.
-/
namespace Go.Proofs.YtbhnpmkdmnnclaaDoor
open Go.RowKit
set_option linter.unusedVariables false

section
variable {w : World} {A1 A2 : Option Addr} {n m c1 c2 a b : Nat}
theorem limbs_shl_len {a n s : Nat} (ha : a < 4294967296 ^ n) : (limbs (a * 2 ^ s)).length ≤ n + s / 32 + 1 := by
  have := limbs_mul_len (m := s / 32 + 1) (b := 2 ^ s) ha (by rw [pow32]; exact Nat.pow_lt_pow_right (by decide) (by omega))
  omega
theorem vShl (s : Nat) (h1 : Rd w A1 n c1 a) (hn : n ≤ 1073741824) (hs : s ≤ 16777216) : Calls Tryd.prog 110 #[.slice A1 n c1, .int .i64 (s : Int)] w (P1 w (n + s / 32 + 1) (a * 2 ^ s)) := by
  have hl := limbs_shl_len (s := s) h1.bound
  obtain ⟨b1, xs, h1, rfl⟩ := h1
  refine (shl_any w b1 A1 n c1 xs s h1 hs (by omega)).mono ?_
  rintro e w' ⟨g, A, c, rfl, hm, hb⟩
  exact ⟨A, _, c, rfl, hm.nm, hl, hb⟩
end

theorem blen_shl {a s : Nat} (ha : a ≠ 0) : blen (a * 2 ^ s) = blen a + s := by
  have h1 := blen_lt a
  have h2 := blen_le ha
  have h3 : blen a ≠ 0 := fun e => by rw [e] at h1; simp at h1; exact ha h1
  have hp := Nat.two_pow_pos s
  have := blen_uniq (n := a * 2 ^ s) (k := blen a - 1 + s) (by have := Nat.mul_pos (Nat.pos_of_ne_zero ha) hp; omega)
    (by rw [Nat.pow_add]; exact Nat.mul_le_mul_right _ h2)
    (by rw [show blen a - 1 + s + 1 = blen a + s by omega, Nat.pow_add]; exact Nat.mul_lt_mul_of_pos_right h1 hp)
  omega
end Go.Proofs.YtbhnpmkdmnnclaaDoor

/-
  What whole.sum, Add and Sub do, for numbers of at most 2^30 limbs.
-/
namespace Go.Proofs.YtbhnpmkdmnnclaaDoor
open Go.RowKit
set_option linter.unusedVariables false

set_option maxHeartbeats 1000000 in
theorem wSum {w : World} {A B : Option Addr} {n c m d a b : Nat} (s t : Bool) {r : Int} (h : Rd w A n c a) (k : Rd w B m d b) (hn : n ≤ 1073741824) (hm : m ≤ 1073741824) (hr : sg s a + sg t b = r) :
    Calls Tryd.prog 109 #[.bool s, .slice A n c, .bool t, .slice B m d] w (W1 w (n + m + 1) r) := by
  by_cases hs : s = t
  · subst hs
    have HR : Hid (sg s (a + b) = r) := Lib.hid (by rw [← hr]; cases s <;> simp [sg] <;> omega)
    have hq : (s == s) = true := by simp
    clear hr
    go_enter Tryd.func109, Tryd.ntmps109
    go_wp2_with (first
      | (go_at_call 118; ((with_reducible refine (vAdd (h.below (bel1 _ _)) (k.below (bel1 _ _)) hn hm).mono ?_); rintro e w1 ⟨A1, n1, c1, rfl, h1, k1, B1⟩))
      | (go_at_call 87; ((with_reducible refine (wSigned s h1).mono ?_); rintro e w2 ⟨s2, A2, n2, c2, rfl, h2, k2, B2⟩; obtain ⟨hc, hf⟩ := bcell (bt B1 B2))))
    have X := (Bx.new w false none 0 0).below (bt B1 B2)
    exact bodyPost_ret (v := .agg #[.bool s2, .slice A2 n2 c2]) (by simp [results, Tryd.results109, go_sem, X.cell0, X.cell1]) rfl ⟨s2, A2, n2, c2, rfl, HR.out ▸ h2.st X _ _, by omega, st2 (bt (bel1 _ _) (bt B1 B2)) (Nat.le_refl _) _ _⟩
  · have hq : (s == t) = false := by simpa using hs
    have hs' : t = !s := by cases s <;> cases t <;> simp_all
    by_cases hab : b ≤ a
    · have HR : Hid (sg s (a - b) = r) := Lib.hid (by rw [← hr, hs']; cases s <;> simp [sg] <;> omega)
      have HS := Lib.hid hs
      clear hr hs' hs
      go_enter Tryd.func109, Tryd.ntmps109
      go_wp2_with (first
        | (go_at_call 119; ((with_reducible refine (vSub (h.below (bel1 _ _)) (k.below (bel1 _ _)) hab).mono ?_); rintro e w1 ⟨A1, n1, c1, rfl, h1, k1, B1⟩))
        | (go_at_call 87; ((with_reducible refine (wSigned s h1).mono ?_); rintro e w2 ⟨s2, A2, n2, c2, rfl, h2, k2, B2⟩; obtain ⟨hc, hf⟩ := bcell (bt B1 B2))))
      have X := (Bx.new w false none 0 0).below (bt B1 B2)
      exact bodyPost_ret (v := .agg #[.bool s2, .slice A2 n2 c2]) (by simp [results, Tryd.results109, go_sem, X.cell0, X.cell1]) rfl ⟨s2, A2, n2, c2, rfl, HR.out ▸ h2.st X _ _, by omega, st2 (bt (bel1 _ _) (bt B1 B2)) (Nat.le_refl _) _ _⟩
    · have HR : Hid (sg t (b - a) = r) := Lib.hid (by rw [← hr, hs']; cases s <;> simp [sg] <;> omega)
      have HS := Lib.hid hs
      have hlt : a < b := by omega
      have hle : a ≤ b := by omega
      clear hr hs' hs hab
      go_enter Tryd.func109, Tryd.ntmps109
      go_wp2_with (first
        | (go_at_call 119; ((with_reducible refine (vSub_lt (h.below (bel1 _ _)) (k.below (bel1 _ _)) hlt).mono ?_); rintro e w0 ⟨rfl, B0⟩))
        | (go_at_call 119; ((with_reducible refine (vSub (k.below (bt (bel1 _ _) B0)) (h.below (bt (bel1 _ _) B0)) hle).mono ?_); rintro e w1 ⟨A1, n1, c1, rfl, h1, k1, B1⟩))
        | (go_at_call 87; ((with_reducible refine (wSigned t h1).mono ?_); rintro e w2 ⟨s2, A2, n2, c2, rfl, h2, k2, B2⟩; obtain ⟨hc, hf⟩ := bcell (bt B0 (bt B1 B2)))))
      have X := (Bx.new w false none 0 0).below (bt B0 (bt B1 B2))
      exact bodyPost_ret (v := .agg #[.bool s2, .slice A2 n2 c2]) (by simp [results, Tryd.results109, go_sem, X.cell0, X.cell1]) rfl ⟨s2, A2, n2, c2, rfl, HR.out ▸ h2.st X _ _, by omega, st2 (bt (bel1 _ _) (bt B0 (bt B1 B2))) (Nat.le_refl _) _ _⟩

set_option maxHeartbeats 400000 in
theorem wAdd {w : World} {A B : Option Addr} {n c m d : Nat} {s t : Bool} {x y r : Int} (h : Wr w s A n c x) (k : Wr w t B m d y) (hn : n ≤ 1073741824) (hm : m ≤ 1073741824) (hr : x + y = r) :
    Calls Tryd.prog 89 #[.agg #[.bool s, .slice A n c], .agg #[.bool t, .slice B m d]] w (W1 w (n + m + 1) r) := by
  obtain ⟨a, h, e1⟩ := h
  obtain ⟨b, k, e2⟩ := k
  have HR : Hid (sg s a + sg t b = r) := Lib.hid (by rw [← hr, e1, e2])
  clear hr e1 e2
  go_enter Tryd.func89, Tryd.ntmps89
  go_wp2_with (first
    | (go_at_call 109; ((with_reducible refine (wSum s t (h.below (bel3 _ _ _ _)) (k.below (bel3 _ _ _ _)) hn hm HR.out).mono ?_); rintro e w2 ⟨s2, A2, n2, c2, rfl, h2, k2, B2⟩; obtain ⟨hc, hf⟩ := bcell B2)))
  have X : Bx w2 (w.heap.size + 2) false none 0 0 := (Bx.newAt _ (by simp) false none 0 0).below B2
  exact bodyPost_ret (v := .agg #[.bool s2, .slice A2 n2 c2]) (by simp [results, Tryd.results89, go_sem, X.cell0, X.cell1]) rfl ⟨s2, A2, n2, c2, rfl, h2.st X _ _, k2, st2 (bt (bel3 _ _ _ _) B2) (by omega) _ _⟩

end Go.Proofs.YtbhnpmkdmnnclaaDoor

/-
  What a row's proof knows of a slice of limbs that came in, and that it reads as a number.
-/
namespace Go.Proofs.YtbhnpmkdmnnclaaDoor
open Go.RowKit
set_option linter.unusedVariables false

/-- What the row's proof knows of a slice that came in. -/
def RowIn (w : World) (a : Option Addr) (len cap : Nat) (zs : List Int) : Prop :=
  (a = none ∧ len = 0 ∧ cap = 0 ∧ zs = []) ∨
  ∃ x, a = some x ∧ len ≤ cap ∧ cap ≤ maxLen ∧ zs.length = cap ∧ (∀ i, i < zs.length → w.cell? (x.add i) = some (.int .u32 (zs.getD i 0))) ∧ ∀ n ∈ zs, (Lit.int .u32 n).wf = true

theorem RowIn.len {w : World} {a : Option Addr} {len cap : Nat} {zs : List Int} (h : RowIn w a len cap zs) : len ≤ 9223372036854775807 := by
  rcases h with ⟨_, rfl, _, _⟩ | ⟨x, _, h1, h2, _⟩
  · omega
  · unfold maxLen at h2; omega

theorem wf_u32 {n : Int} (h : (Lit.int .u32 n).wf = true) : 0 ≤ n ∧ n < 4294967296 := by
  simp [Lit.wf, IntKind.min, IntKind.max, IntKind.signed, IntKind.bits] at h
  omega

/-- A slice that came in, not too long, reads as a number. -/
theorem RowIn.rd {w : World} {a : Option Addr} {len cap : Nat} {zs : List Int} (h : RowIn w a len cap zs) (hl : len ≤ 1099511627776) : ∃ v, Rd w a len cap v := by
  rcases h with ⟨rfl, rfl, rfl, rfl⟩ | ⟨x, rfl, h1, h2, h3, h4, h5⟩
  · exact ⟨0, Nm.zero.rd⟩
  · rcases Nat.eq_zero_or_pos len with e | e
    · subst e
      exact ⟨0, 0, [], Sl.none (Nat.zero_le _) rfl, rfl⟩
    · obtain ⟨bk, off, spot⟩ := x
      have hs : spot = none := by
        have := h4 0 (by omega)
        unfold World.cell? at this
        rcases spot with _ | s
        · rfl
        · simp [Addr.add] at this
          split at this <;> simp at this
      subst hs
      refine ⟨_, bk, (zs.take len).map Int.toNat, ⟨by simp; omega, h1, hl, ?_, fun _ => ⟨off, rfl, fun k hk => ?_⟩⟩, rfl⟩
      · intro y hy
        obtain ⟨z, hz, rfl⟩ := List.mem_map.1 hy
        have := wf_u32 (h5 z (List.mem_of_mem_take hz))
        omega
      · have hc := h4 k (by omega)
        rw [Addr.add_mid] at hc
        rw [hc]
        have hz : zs[k]? = some zs[k] := List.getElem?_eq_getElem (by omega)
        have hw := wf_u32 (h5 zs[k] (List.getElem_mem _))
        rw [List.getD_eq_getElem?_getD, List.getD_eq_getElem?_getD, List.getElem?_map, List.getElem?_take, if_pos hk, hz]
        simp
        omega

end Go.Proofs.YtbhnpmkdmnnclaaDoor
