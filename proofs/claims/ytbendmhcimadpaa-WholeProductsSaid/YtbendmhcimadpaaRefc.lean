/-
  The document's answers of layer 1: what bit, set, Div, Shl, Shr and Root do, said of numbers.
-/
import Derived.Test.YtbendmhcimadpaaRefb
import Derived.Test.YtbendmhcimadpaaRefl
import Derived.Test.YtbendmhcimadpaaShr
namespace Go.Proofs.Ytbendmhcimadpaa
open Go.RowKit
set_option linter.unusedVariables false

/-- Bit i of a number, off its limbs. -/
theorem bit_limb {xs : List Nat} (hl : Lim xs) (i : Nat) : xs.getD (i / 32) 0 / 2 ^ (i % 32) % 2 = val xs / 2 ^ i % 2 := by
  have h1 : xs.getD (i / 32) 0 = val xs / 4294967296 ^ (i / 32) % 4294967296 := by
    rw [← val_drop_div hl]
    rcases Nat.lt_or_ge (i / 32) xs.length with h | h
    · rw [val_drop h]
      have := hl.getD (i / 32)
      omega
    · rw [getD_beyond h, List.drop_eq_nil_of_le h]; rfl
  have h2 : 2 ^ i = 4294967296 ^ (i / 32) * 2 ^ (i % 32) := by rw [← pow_split, show 32 * (i / 32) + i % 32 = i by omega]
  rw [h1, h2, ← Nat.div_div_eq_div_mul]
  generalize val xs / 4294967296 ^ (i / 32) = y
  have hs : i % 32 < 32 := Nat.mod_lt _ (by decide)
  generalize i % 32 = s at hs
  have e : 4294967296 = 2 ^ s * 2 ^ (32 - s) := by rw [← Nat.pow_add, show s + (32 - s) = 32 by omega]
  rw [e, Nat.mod_mul_right_div_self]
  have e2 : 2 ^ (32 - s) = 2 * 2 ^ (31 - s) := by rw [show 32 - s = (31 - s) + 1 by omega, Nat.pow_succ, Nat.mul_comm]
  rw [e2, Nat.mod_mul_right_mod]

set_option maxHeartbeats 400000 in
theorem rBit {w : World} {A1 : Option Addr} {n c1 a : Nat} {t : Bool} (h1 : Rd w A1 n c1 a) (i : Nat) (hi : i ≤ 34359738368) (ht : decide (a / 2 ^ i % 2 = 1) = t) :
    Calls Try.prog 63 #[.slice A1 n c1, .int .i64 (i : Int)] w fun e w' => e = .returned (.bool t) ∧ Below w.heap.size w w' := by
  obtain ⟨b1, xs, h1, rfl⟩ := h1
  have HA := rAt w b1 A1 n c1 xs h1 (i / 32) (by omega)
  have hb := bit_limb h1.lim i
  have hx := h1.lim.getD (i / 32)
  rw [← hb] at ht
  clear hb h1
  revert HA hx ht
  generalize xs.getD (i / 32) 0 = x
  intro ht HA hx
  have HA := Lib.hid HA
  obtain ⟨q, hq⟩ : ∃ q, i / 32 = q := ⟨_, rfl⟩
  rw [hq] at HA
  have eq : (i : Int) / 32 = q := by omega
  clear hq
  obtain ⟨s, es, hs, hse⟩ : ∃ s : Nat, (i : Int) % 32 = s ∧ s < 32 ∧ Hid (s = i % 32) := ⟨i % 32, by omega, by omega, rfl⟩
  obtain ⟨y, ey, hye⟩ : ∃ y : Nat, (x : Int) / 2 ^ s = y ∧ Hid (y = x / 2 ^ s) := ⟨x / 2 ^ s, by simp, rfl⟩
  have HT : Hid (((y : Int) % 2 == 1) = t) := by
    show _ = _
    rw [← ht, ← hse.out, ← hye.out, Bool.eq_iff_iff]
    simp
    omega
  clear ht
  go_enter Try.func63, Try.ntmps63
  go_wp2_with (go_at_call 52; ((with_reducible refine HA.out.mono ?_); rintro e w' ⟨rfl, rfl⟩))
  go_ret
  exact ⟨by rw [← HT.out]; rfl, Below.refl _ _⟩

/-- A row of the call's own, one limb of it turned. -/
theorem Ar.set {w : World} {base n c : Nat} {A : Option Addr} {l : List Nat} (h : Ar w base A n c l) {i : Nat} (hi : i < n) :
    ∃ g, A = some ⟨g, 0, none⟩ ∧ base ≤ g ∧ w.cell? ⟨g, i, none⟩ = some (.int .u32 (l.getD i 0 : Nat)) ∧ w.frozen? ⟨g, i, none⟩ = false ∧
      ∀ x : Nat, x < 4294967296 → Ar (w.setCell ⟨g, i, none⟩ (.int .u32 (x : Int))) base A n c (l.set i x) := by
  have hl := h.len
  rcases h.1.2 with ⟨h1, h2⟩ | ⟨g, cap, cur, hv, hg, hh, hc, hm, hs, ht⟩
  · omega
  · injection hv with e1 e2 e3
    subst e1; subst e3
    refine ⟨g, rfl, hg, ?_, by simp [World.frozen?, hh], fun x hx => ⟨⟨by simp [hl], Or.inr ⟨g, c, cur.setIfInBounds i (.int .u32 (x : Int)), rfl, hg, ?_, hc, hm, by simpa using hs, ?_⟩⟩, h.2.set i hx⟩⟩
    · rw [cell_of_row w g i _ _ (0, 0) hh]
      have h2 : (cur.toList.take (n * 1))[i]? = (l.map u32)[i]? := by rw [ht]
      rw [List.getElem?_take, if_pos (by omega), List.getElem?_map] at h2
      rw [← Array.getElem?_toList, h2, List.getD_eq_getElem?_getD]
      rcases hq : l[i]? with _ | y
      · rw [List.getElem?_eq_none_iff] at hq; omega
      · simp [u32]
    · simp [World.setCell, Array.getElem?_modify, hh]
    · rw [Array.toList_setIfInBounds, List.take_set, ht, List.map_set]
      rfl

def SetInv (w : World) (xs : List Nat) (q : Nat) (v : Value) (wr : World) : Prop :=
  ∃ A c k, v = .slice A (xs.length + k) c ∧ Ar wr w.heap.size A (xs.length + k) c (xs ++ List.replicate k 0) ∧ Below w.heap.size w wr ∧ (0 < k → xs.length + k ≤ q + 1)

theorem set_val {l : List Nat} {q x : Nat} (hq : q < l.length) : val (l.set q (l.getD q 0 + x)) = val l + 4294967296 ^ q * x := by
  have h1 := val_take_drop l (k := q) (by omega)
  have h2 := val_take_drop (l.set q (l.getD q 0 + x)) (k := q) (by simp; omega)
  rw [List.take_set_of_le (Nat.le_refl q), val_drop (by simp; omega), List.drop_set_of_lt (by omega)] at h2
  rw [val_drop hq] at h1
  have e : (l.set q (l.getD q 0 + x)).getD q 0 = l.getD q 0 + x := by
    rw [List.getD_eq_getElem?_getD, List.getElem?_set_self hq]; rfl
  rw [e] at h2
  rw [h2, h1]
  grind

theorem set_fits {x s : Nat} (hs : s < 32) (hx : x < 4294967296) (h : x / 2 ^ s % 2 = 0) : x + 2 ^ s < 4294967296 := by
  have e : 4294967296 = 2 ^ s * 2 ^ (32 - s) := by rw [← Nat.pow_add, show s + (32 - s) = 32 by omega]
  have e2 : 2 ^ (32 - s) = 2 * 2 ^ (31 - s) := by rw [show 32 - s = (31 - s) + 1 by omega, Nat.pow_succ, Nat.mul_comm]
  have h1 : x / 2 ^ s < 2 ^ (32 - s) := by
    rw [Nat.div_lt_iff_lt_mul (Nat.two_pow_pos s), Nat.mul_comm, ← e]; exact hx
  have h2 : x / 2 ^ s + 2 ≤ 2 ^ (32 - s) := by omega
  have h3 := Nat.mul_le_mul_left (2 ^ s) h2
  have h4 := Nat.div_add_mod x (2 ^ s)
  have h5 := Nat.mod_lt x (Nat.two_pow_pos s)
  rw [← e, Nat.mul_add] at h3
  omega

set_option maxHeartbeats 1000000 in
theorem rSet {w : World} {A1 : Option Addr} {n c1 a : Nat} (h1 : Rd w A1 n c1 a) (i : Nat) (hn : n ≤ 1073741824) (hi : i ≤ 34359738368) (hb : a / 2 ^ i % 2 = 0) :
    Calls Try.prog 64 #[.slice A1 n c1, .int .i64 (i : Int)] w (fun e w' => ∃ A m c, e = .returned (.slice A m c) ∧ Rd w' A m c (a + 2 ^ i) ∧ m ≤ max n (i / 32 + 1) ∧ Below w.heap.size w w') := by
  obtain ⟨b1, xs, h1, rfl⟩ := h1
  have hbl := bit_limb h1.lim i
  rw [hb] at hbl
  have H1 := Lib.hid h1.len
  have hl1 := h1.len
  subst hl1
  have HQ : Hid (2 ^ i = 4294967296 ^ (i / 32) * 2 ^ (i % 32)) := by show _ = _; rw [← pow_split, show 32 * (i / 32) + i % 32 = i by omega]
  have HX : Hid (xs.getD (i / 32) 0 / 2 ^ (i % 32) % 2 = 0) := hbl
  clear hbl hb
  obtain ⟨q, hq⟩ : ∃ q, i / 32 = q := ⟨_, rfl⟩
  obtain ⟨s, hs⟩ : ∃ s, i % 32 = s := ⟨_, rfl⟩
  rw [hq, hs] at HQ HX
  rw [hq]
  have eq : (i : Int) / 32 = q := by omega
  have es : (i : Int) % 32 = s := by omega
  have hs32 : s < 32 := by omega
  have hqb : q ≤ 1073741824 := by omega
  clear hq hs
  go_enter Try.func64, Try.ntmps64
  go_wp2_with (with_reducible refine wpList_app rfl (.const (.slice none 0 0)) (.tmp 6) 22 rfl Try.underlying22 rfl rfl (Ar.nil w w.heap.size) h1 (by omega) (Nat.le_refl _) ?_; intro A2 c2 w2 ha2 hb2)
  rw [Nat.zero_add, List.nil_append] at ha2
  have HI : Hid (SetInv w xs q (.slice A2 xs.length c2) w2) := ⟨A2, c2, 0, rfl, by simpa using ha2, hb2, fun h => absurd h (by omega)⟩
  clear ha2 hb2
  go_loopw [5] (fun v wr => SetInv w xs q v wr) (fun v _ => match v with | .slice _ m _ => q + 1 - m | _ => 0)
  case atStart => exact HI.out
  case round =>
    clear HI
    obtain ⟨A, c, k, rfl, ha, hbl, hk⟩ := hrel
    have HA := Lib.hid ha
    have HB := Lib.hid hbl
    clear ha hbl
    by_cases hlt : xs.length + k ≤ q
    · have sl1 := lit1 wr 0 (by decide)
      go_wp2_with (with_reducible refine wpList_app rfl (.tmp 13) (.tmp 14) 22 rfl Try.underlying22 rfl rfl (HA.out.alloc _) sl1 (by omega) (HB.out.alloc HB.out.size _).size ?_; intro A3 c3 w3 ha3 hb3)
      have HI3 : Hid (SetInv w xs q (.slice A3 (xs.length + (k + 1)) c3) w3) := ⟨A3, c3, k + 1, rfl, by rw [List.replicate_succ', ← List.append_assoc]; exact ha3, (HB.out.alloc HB.out.size _).trans hb3, fun _ => by omega⟩
      clear ha3 hb3
      go_roundw
      case rel => exact HI3.out
      case measure => show q + 1 - (xs.length + k + 1) < q + 1 - (xs.length + k); omega
    · obtain ⟨g, rfl, hg, hcell, hfr, hset⟩ := HA.out.set (i := q) (by omega)
      have e0 : (xs ++ List.replicate k 0).getD q 0 = xs.getD q 0 := by
        rcases Nat.lt_or_ge q xs.length with h | h
        · rw [List.getD_eq_getElem?_getD, List.getElem?_append_left h, List.getD_eq_getElem?_getD]
        · rw [List.getD_eq_getElem?_getD, List.getElem?_append_right h, List.getElem?_replicate, List.getD_eq_getElem?_getD, List.getElem?_eq_none h]
          split <;> rfl
      rw [e0] at hcell
      have bx := h1.lim.getD q
      have HSV := set_val (l := xs ++ List.replicate k 0) (q := q) (x := 2 ^ s) (by simp; omega)
      rw [e0, val_append, val_zeros, Nat.mul_zero, Nat.add_zero, ← HQ.out] at HSV
      have HSET := Lib.hid (hset (xs.getD q 0 + 2 ^ s))
      have HSV' := Lib.hid HSV
      clear hset e0 HSV
      revert hcell bx HSV' HSET HX
      generalize xs.getD q 0 = x
      intro HX hcell bx HSET HSV
      go_wp2
      go_ret
      have hsum := set_fits hs32 bx HX.out
      have e : ((x : Int) + 2 ^ s) % 4294967296 = ((x + 2 ^ s : Nat) : Int) := by
        have : ((x + 2 ^ s : Nat) : Int) = (x : Int) + 2 ^ s := by simp
        rw [← this]
        clear this HSV HSET HX
        generalize x + 2 ^ s = y at hsum ⊢
        omega
      rw [e]
      have ha := HSET.out hsum
      obtain ⟨g2, hs2⟩ := ha.slice (by omega)
      refine ⟨_, _, _, rfl, ⟨g2, _, hs2, HSV.out⟩, ?_, HB.out.setCell (by simpa using hg) _⟩
      rcases Nat.eq_zero_or_pos k with e | e
      · omega
      · have := hk e; omega

/-- The rest of a division bit by bit, one bit on. -/
theorem bit_on (a d i : Nat) : a / 2 ^ i = 2 * (a / 2 ^ (i + 1)) + a / 2 ^ i % 2 := by
  rw [Nat.pow_succ, ← Nat.div_div_eq_div_mul]
  omega
end Go.Proofs.Ytbendmhcimadpaa
