/-
  Contracts and words that the statements' proofs rest on, several texts in one: Df, Ec, Ed, Js, Vn.
-/
import Derived.Deep.DeepCutAuto
import Derived.Test.YtdfnjhkcicnkpaaGreatDoorZab
import Derived.Test.YtdfnjhkcicnkpaaGreatDoorZai
import Derived.Test.YtdfnjhkcicnkpaaGreatDoorZaj
import Derived.Test.YtdfnjhkcicnkpaaGreatDoorZak
import Derived.Test.YtdfnjhkcicnkpaaGreatDoorZap
/-
  What pelorusref03.Two does: the sum of two.
-/
namespace Go.Proofs.YtdfnjhkcicnkpaaGreatDoor
open Go.RowKit
set_option linter.unusedVariables false

theorem Bx.noD {w : World} {g : Nat} {s : Bool} {A : Option Addr} {n c : Nat} {a b d : Value} {T : TypeId} (h : Bx w g s A n c) (k : Bo w g #[a, b, d] T) : False := by
  unfold Bx at h
  unfold Bo at k
  rw [h] at k
  simp at k
theorem Bx.far3 {w : World} {g : Nat} {s : Bool} {A : Option Addr} {n c : Nat} (h : Bx w g s A n c) {k : Nat} (hk : g ≠ k) (u v t : Value) : Bx (((w.setCell ⟨k, 0, none⟩ u).setCell ⟨k, 1, none⟩ v).setCell ⟨k, 2, none⟩ t) g s A n c :=
  h.keep (by rw [Below.heap_setCell _ _ _ _ hk, Below.heap_setCell _ _ _ _ hk, Below.heap_setCell _ _ _ _ hk])

end Go.Proofs.YtdfnjhkcicnkpaaGreatDoor

/-
  What dy.Make does.
-/
namespace Go.Proofs.YtdfnjhkcicnkpaaGreatDoor
open Go.RowKit
set_option linter.unusedVariables false

/-- A value is a trim whole number; a number times a power of two; a trim number. -/
def VW (w : World) (v : Value) (z : Int) : Prop := ∃ s A n c, v = .agg #[.bool s, .slice A n c] ∧ Wn w s A n c z
def VD (w : World) (v : Value) (N E : Int) : Prop := ∃ s A n c, v = .agg #[.bool s, .slice A n c, .int .i64 E] ∧ Wn w s A n c N
def VN (w : World) (v : Value) (a : Nat) : Prop := ∃ A n c, v = .slice A n c ∧ Nm w A n c a
theorem VW.below {w w' : World} {v : Value} {z : Int} (h : VW w v z) (hb : Below w.heap.size w w') : VW w' v z := by
  obtain ⟨s, A, n, c, rfl, h⟩ := h
  exact ⟨s, A, n, c, rfl, h.below hb⟩
theorem VD.below {w w' : World} {v : Value} {N E : Int} (h : VD w v N E) (hb : Below w.heap.size w w') : VD w' v N E := by
  obtain ⟨s, A, n, c, rfl, h⟩ := h
  exact ⟨s, A, n, c, rfl, h.below hb⟩
theorem VN.below {w w' : World} {v : Value} {a : Nat} (h : VN w v a) (hb : Below w.heap.size w w') : VN w' v a := by
  obtain ⟨A, n, c, rfl, h⟩ := h
  exact ⟨A, n, c, rfl, h.below hb⟩
/-- The numbers' length by their greatness. -/
theorem Wn.len_le {w : World} {s : Bool} {A : Option Addr} {n c k : Nat} {z : Int} (h : Wn w s A n c z) (hz : z.natAbs < 4294967296 ^ k) : n ≤ k := by
  rw [← h.1.len]
  exact limbs_length_le hz

end Go.Proofs.YtdfnjhkcicnkpaaGreatDoor

/-
  What dy.May, taken and Sign do.
-/
namespace Go.Proofs.YtdfnjhkcicnkpaaGreatDoor
open Go.RowKit
set_option linter.unusedVariables false

/-- A number that may be is what Make makes of its parts. -/
theorem mayD_true {w : World} {s : Bool} {A : Option Addr} {n c : Nat} {z e : Int} (h : Wr w s A n c z) (hm : mayD s n z.natAbs e = true) : Wn w s A n c z ∧ mk z e = (z, e) := by
  have hsg := h.eq
  obtain ⟨b, xs, hs, hv⟩ := h.rd
  unfold mayD mayB at hm
  simp only [Bool.and_eq_true, decide_eq_true_eq, Bool.or_eq_true, Bool.not_eq_true'] at hm
  obtain ⟨⟨hl, hs1⟩, he⟩ := hm
  have hx : xs = limbs z.natAbs := by
    have h1 := limbs_prefix hs.lim
    rw [hv, hl, List.take_of_length_le (by rw [hs.len]; omega)] at h1
    exact h1
  have hN : Nm w A n c z.natAbs := ⟨b, hx ▸ hs⟩
  rcases Nat.eq_zero_or_pos n with e0 | e0
  · have hz : z.natAbs = 0 := by have := hN.pos; omega
    obtain rfl : z = 0 := by omega
    rw [if_pos e0] at he
    obtain rfl : e = 0 := by simpa using he
    have : s = false := by
      rcases hs1 with h1 | h1
      · omega
      · exact h1
    subst this
    exact ⟨⟨hN, rfl⟩, mk_zero 0⟩
  · rw [if_neg (by omega)] at he
    simp only [Bool.and_eq_true, beq_iff_eq, decide_eq_true_eq] at he
    obtain ⟨ho, h1, h2⟩ := he
    have hz : z.natAbs ≠ 0 := by have := hN.pos; omega
    have hodd : z.natAbs % 2 = 1 := by omega
    refine ⟨⟨hN, ?_⟩, ?_⟩
    · have := sg_lt s z.natAbs
      rw [hsg] at this
      rw [this, decide_eq_true (by omega : 0 < z.natAbs), Bool.and_true]
    · have hv2 := v2_odd hodd
      obtain ⟨e1, e2, e3, e4, e5⟩ := mk_in (z := z) (e := e) (by omega) h1 (by rw [hv2]; simpa using h2)
      rw [hv2] at e1 e5
      apply Prod.ext
      · simpa using e5.symm
      · simpa using e1

end Go.Proofs.YtdfnjhkcicnkpaaGreatDoor

/-
  Facts of values for the joint rule: whole numbers, limbs, numbers times powers of two; and what a store into a box leaves.
-/
namespace Go.Proofs.YtdfnjhkcicnkpaaGreatDoor
open Go.RowKit
set_option linter.unusedVariables false

def Jo.Fact.wn (z : Int) (K : Nat) : Jo.Fact := ⟨fun v w => ∃ s A n c, v = .agg #[.bool s, .slice A n c] ∧ Wn w s A n c z ∧ n ≤ K, fun v w w' h b => by
  obtain ⟨s, A, n, c, e, h, k⟩ := h
  exact ⟨s, A, n, c, e, h.below b, k⟩⟩
def Jo.Fact.nm (a K : Nat) : Jo.Fact := ⟨fun v w => ∃ A n c, v = .slice A n c ∧ Nm w A n c a ∧ n ≤ K, fun v w w' h b => by
  obtain ⟨A, n, c, e, h, k⟩ := h
  exact ⟨A, n, c, e, h.below b, k⟩⟩
def Jo.Fact.dy (N E : Int) (K : Nat) : Jo.Fact := ⟨fun v w => ∃ s A n c, v = .agg #[.bool s, .slice A n c, .int .i64 E] ∧ Wn w s A n c N ∧ n ≤ K, fun v w w' h b => by
  obtain ⟨s, A, n, c, e, h, k⟩ := h
  exact ⟨s, A, n, c, e, h.below b, k⟩⟩
def Jo.Fact.wl (K n : Nat) (zs : List Int) : Jo.Fact := ⟨fun v w => ∃ A c, v = .slice A n c ∧ Wl w A n c K zs, fun v w w' h b => by
  obtain ⟨A, c, e, h⟩ := h
  exact ⟨A, c, e, h.below b⟩⟩

theorem Bo.at {w : World} {g : Nat} {cs : Array Value} {T : TypeId} (h : Bo w g cs T) {i : Nat} {v : Value} (e : cs[i]? = some v) : w.cell? ⟨g, i, none⟩ = some v := (h.cell i).trans e

/-- No cell is a table's byte. -/
def no8 (v : Value) : Bool := match v with
  | .int .u8 _ => false
  | _ => true
/-- The box g is stored anew, nothing else. -/
def StN (w w' : World) (g : Nat) (old new : Array Value) (T : TypeId) : Prop :=
  Bo w g old T ∧ Bo w' g new T ∧ (∀ k, k ≠ g → w'.heap[k]? = w.heap[k]?) ∧ ∀ B a, B ≤ g → Below B a w → Below B a w'
section
variable {w w' : World} {g : Nat} {old new : Array Value} {T : TypeId}
theorem StN.box (S : StN w w' g old new T) : Bo w' g new T := S.2.1
theorem StN.mk3 {a b c : Value} (X : Bo w g #[a, b, c] T) (u v t : Value) : StN w (((w.setCell ⟨g, 0, none⟩ u).setCell ⟨g, 1, none⟩ v).setCell ⟨g, 2, none⟩ t) g #[a, b, c] #[u, v, t] T :=
  ⟨X, by simpa using ((X.set 0 u).set 1 v).set 2 t, fun k hk => by rw [Below.heap_setCell _ _ _ _ hk, Below.heap_setCell _ _ _ _ hk, Below.heap_setCell _ _ _ _ hk], fun B a hg h => st3 h hg u v t⟩
theorem StN.mk2 {a b : Value} (X : Bo w g #[a, b] T) (u v : Value) : StN w ((w.setCell ⟨g, 0, none⟩ u).setCell ⟨g, 1, none⟩ v) g #[a, b] #[u, v] T :=
  ⟨X, by simpa using (X.set 0 u).set 1 v, fun k hk => by rw [Below.heap_setCell _ _ _ _ hk, Below.heap_setCell _ _ _ _ hk], fun B a hg h => st2 h hg u v⟩
theorem StN.below (S : StN w w' g old new T) {B : Nat} {a : World} (h : Below B a w) (hg : B ≤ g) : Below B a w' := S.2.2.2 B a hg h
theorem Bo.stn {k : Nat} {cs : Array Value} {R : TypeId} (X : Bo w k cs R) (S : StN w w' g old new T) (h : k ≠ g) : Bo w' k cs R := X.keep (S.2.2.1 k h)
theorem sl_stn {b : Nat} {B : Option Addr} {m d : Nat} {xs : List Nat} (h : Sl w b B m d xs) (S : StN w w' g old new T) (hn : old.all no32 = true) : Sl w' b B m d xs :=
  h.keep fun hm => S.2.2.1 _ (fun e => by
    obtain ⟨o, _, hc⟩ := h.at hm
    have := hc 0 hm
    rw [e] at this
    exact S.1.no hn this)
theorem Nm.stn {B : Option Addr} {m d a : Nat} (h : Nm w B m d a) (S : StN w w' g old new T) (hn : old.all no32 = true) : Nm w' B m d a := by
  obtain ⟨b, h⟩ := h
  exact ⟨b, sl_stn h S hn⟩
theorem Rd.stn {B : Option Addr} {m d a : Nat} (h : Rd w B m d a) (S : StN w w' g old new T) (hn : old.all no32 = true) : Rd w' B m d a := by
  obtain ⟨b, xs, h, e⟩ := h
  exact ⟨b, xs, sl_stn h S hn, e⟩
theorem Wn.stn {s : Bool} {B : Option Addr} {m d : Nat} {z : Int} (h : Wn w s B m d z) (S : StN w w' g old new T) (hn : old.all no32 = true) : Wn w' s B m d z := ⟨h.1.stn S hn, h.2⟩
theorem Wr.stn {s : Bool} {B : Option Addr} {m d : Nat} {z : Int} (h : Wr w s B m d z) (S : StN w w' g old new T) (hn : old.all no32 = true) : Wr w' s B m d z := by
  obtain ⟨a, h, e⟩ := h
  exact ⟨a, h.stn S hn, e⟩
theorem Tab.stn (h : Tab w) (S : StN w w' g old new T) (hn : old.all no8 = true) : Tab w' := h.keep (S.2.2.1 _ (fun e => by
  have h0 := h 0 (by decide)
  subst e
  rw [S.1.cell] at h0
  rw [Array.all_eq_true] at hn
  obtain ⟨hlt, he⟩ := Array.getElem?_eq_some_iff.1 h0
  have := hn 0 hlt
  rw [he] at this
  cases this))
end
theorem sg_times {w : World} {s : Bool} {A : Option Addr} {n c : Nat} {N : Int} {p m : Nat} {B : Option Addr} {d : Nat} {w' : World} (h : Wn w s A n c N) (hp : 0 < p) (k : Nm w' B m d (N.natAbs * p)) : Wn w' s B m d (N * (p : Int)) := by
  refine ⟨by rwa [Int.natAbs_mul, Int.natAbs_natCast], ?_⟩
  rw [h.2, decide_eq_decide]
  constructor
  · intro hh; exact Int.mul_neg_of_neg_of_pos hh (by omega)
  · intro hh
    by_cases e : N < 0
    · exact e
    · exact absurd hh (Int.not_lt.2 (Int.mul_nonneg (by omega) (by omega)))
end Go.Proofs.YtdfnjhkcicnkpaaGreatDoor

/-
  Order and floor of numbers times powers of two, in plain arithmetic; lists of such numbers in memory.
-/
namespace Go.Proofs.YtdfnjhkcicnkpaaGreatDoor
open Go.RowKit
set_option linter.unusedVariables false

theorem sg_of (x : Int) : sg (decide (x < 0)) x.natAbs = x := by
  by_cases h : x < 0
  · simp [sg, h]; omega
  · simp [sg, h]; omega
theorem cmpI_cases (x : Int) : (x < 0 ∧ cmpI x 0 = -1) ∨ (x = 0 ∧ cmpI x 0 = 0) ∨ (0 < x ∧ cmpI x 0 = 1) := by
  rcases Int.lt_trichotomy x 0 with h | h | h
  · exact .inl ⟨h, cmpI_lt h⟩
  · exact .inr (.inl ⟨h, cmpI_eq h⟩)
  · exact .inr (.inr ⟨h, cmpI_gt h⟩)
/-- With the same sign: what differs in greatness tells the order. -/
theorem cmpI_abs {x y t : Int} (hs : cmpI x 0 = cmpI y 0) (ht : cmpI (x.natAbs : Int) (y.natAbs : Int) = t) : cmpI x 0 * t = cmpI x y := by
  have := cmp_same (s := decide (x < 0)) (t := decide (y < 0)) (a := x.natAbs) (b := y.natAbs) (by rw [sg_of, sg_of]; exact hs)
  rw [sg_of, sg_of, ht] at this
  exact this
theorem vl_natAbs (p : Int × Int) : (vl p).natAbs = p.1.natAbs * 2 ^ (p.2 + KK).toNat := natAbs_mul_pow _ _
theorem blen_lt_lt {a b : Nat} (h : blen a < blen b) : a < b := by
  have h1 := blen_lt a
  by_cases hb : b = 0
  · subst hb; rw [blen_zero] at h; omega
  · have h2 := blen_le hb
    have h3 : 2 ^ blen a ≤ 2 ^ (blen b - 1) := Nat.pow_le_pow_right (by decide) (by omega)
    omega
theorem vl_cmp_top {p q : Int × Int} {t : Int} (hp : Nf p) (hq : Nf q) (hs : cmpI p.1 0 = cmpI q.1 0) (ht : cmpI (((blen p.1.natAbs : Nat) : Int) + p.2) (((blen q.1.natAbs : Nat) : Int) + q.2) = t) (h0 : t ≠ 0) : cmpI p.1 0 * t = cmpI (vl p) (vl q) := by
  have b1 := hp.bd
  have b2 := hq.bd
  by_cases hz : p.1 = 0
  · have hz2 : q.1 = 0 := by
      rw [hz, cmpI_eq rfl] at hs
      exact cmpI_zero.1 hs.symm
    rw [hp.zero hz, hq.zero hz2] at ht
    exact absurd (ht.symm.trans (cmpI_eq rfl)) h0
  · have hz2 : q.1 ≠ 0 := fun e => by
      rw [e, cmpI_eq rfl] at hs
      exact hz (cmpI_zero.1 hs)
    have hh : cmpI ((vl p).natAbs : Int) ((vl q).natAbs : Int) = t := by
      have e1 : blen (vl p).natAbs = blen p.1.natAbs + (p.2 + KK).toNat := by rw [vl_natAbs, blen_shl (by omega)]
      have e2 : blen (vl q).natAbs = blen q.1.natAbs + (q.2 + KK).toNat := by rw [vl_natAbs, blen_shl (by omega)]
      rw [KK_eq] at e1 e2
      rcases Int.lt_trichotomy (((blen p.1.natAbs : Nat) : Int) + p.2) (((blen q.1.natAbs : Nat) : Int) + q.2) with h | h | h
      · rw [← ht, cmpI_lt h]
        refine cmpI_lt ?_
        have := blen_lt_lt (a := (vl p).natAbs) (b := (vl q).natAbs) (by omega)
        omega
      · exact absurd (ht.symm.trans (cmpI_eq h)) h0
      · rw [← ht, cmpI_gt h]
        refine cmpI_gt ?_
        have := blen_lt_lt (a := (vl q).natAbs) (b := (vl p).natAbs) (by omega)
        omega
    have := cmpI_abs (x := vl p) (y := vl q) (by rw [vl_sign, vl_sign]; exact hs) hh
    rw [vl_sign] at this
    exact this
theorem vl_cmp_low {p q : Int × Int} {l : Int} (h1 : l ≤ p.2) (h2 : l ≤ q.2) (h3 : -4194304 ≤ l) : cmpI (p.1 * 2 ^ (p.2 - l).toNat) (q.1 * 2 ^ (q.2 - l).toNat) = cmpI (vl p) (vl q) := by
  rw [← cmpI_scale (p2pos (l + KK).toNat)]
  unfold vl
  have k1 : (p.2 - l).toNat + (l + KK).toNat = (p.2 + KK).toNat := by rw [KK_eq]; omega
  have k2 : (q.2 - l).toNat + (l + KK).toNat = (q.2 + KK).toNat := by rw [KK_eq]; omega
  rw [Int.mul_assoc, Int.mul_assoc, ← Int.pow_add, ← Int.pow_add, k1, k2]
/-- The floor of an odd number, halved at least once. -/
theorem flr_neg {N E : Int} (hE : E < 0) (ho : N.natAbs % 2 = 1) (hN : N < 0) : flr N E = -((N.natAbs / 2 ^ (-E).toNat + 1 : Nat) : Int) := by
  unfold flr
  rw [if_neg (by omega)]
  obtain ⟨k, hk⟩ : ∃ k, (-E).toNat = k + 1 := ⟨(-E).toNat - 1, by omega⟩
  rw [hk]
  have hp : 0 < 2 ^ (k + 1) := Nat.pow_pos (by decide)
  have hd := Nat.div_add_mod N.natAbs (2 ^ (k + 1))
  have hm : N.natAbs % 2 ^ (k + 1) ≠ 0 := by
    intro e
    rw [e, Nat.pow_succ, Nat.add_zero] at hd
    have : N.natAbs % 2 = 0 := by rw [← hd, Nat.mul_comm _ 2, Nat.mul_assoc]; exact Nat.mul_mod_right _ _
    omega
  have hlt := Nat.mod_lt N.natAbs hp
  revert hd hm hlt
  generalize N.natAbs % 2 ^ (k + 1) = r
  generalize N.natAbs / 2 ^ (k + 1) = q
  generalize 2 ^ (k + 1) = P at *
  intro hd hm hlt
  have e1 : N = -((P : Int) * q) - r := by
    have : ((P * q + r : Nat) : Int) = (N.natAbs : Int) := by rw [hd]
    rw [Int.natCast_add, Int.natCast_mul] at this
    omega
  have := (div_un (x := N) (y := (P : Int)) (q := -((q + 1 : Nat) : Int)) (r := (P : Int) - r) (by omega) (by
    rw [e1, Int.natCast_add, Int.mul_neg, Int.mul_add]
    omega) (fun _ => by omega) (fun h => by omega)).1
  exact this.symm
theorem flr_pos {N E : Int} (hE : E < 0) (hN : 0 ≤ N) : flr N E = ((N.natAbs / 2 ^ (-E).toNat : Nat) : Int) := by
  unfold flr
  rw [if_neg (by omega)]
  have hN2 : N = (N.natAbs : Int) := by omega
  generalize (-E).toNat = k
  rw [hN2, Int.natAbs_natCast]
  generalize N.natAbs = a
  rw [Int.fdiv_eq_ediv_of_nonneg _ (Int.natCast_nonneg _)]
  rfl

/-- A slice of numbers times powers of two, as they came in or as they are. -/
def Dl (w : World) (A : Option Addr) (n c K : Nat) (l : List (Int × Int)) : Prop :=
  l.length = n ∧ n ≤ c ∧ n ≤ 1099511627776 ∧ (0 < n → ∃ b o, A = some ⟨b, o, none⟩ ∧ ∀ k, k < n → ∃ s B m d, w.cell? ⟨b, o + k * 3, none⟩ = some (.bool s) ∧ w.cell? ⟨b, o + k * 3 + 1, none⟩ = some (.slice B m d) ∧ w.cell? ⟨b, o + k * 3 + 2, none⟩ = some (.int .i64 (l.getD k (0, 0)).2) ∧ Wr w s B m d (l.getD k (0, 0)).1 ∧ m ≤ K)
theorem Dl.below {w w' : World} {A : Option Addr} {n c K : Nat} {l : List (Int × Int)} (h : Dl w A n c K l) (hb : Below w.heap.size w w') : Dl w' A n c K l := by
  obtain ⟨h1, h2, h3, h4⟩ := h
  refine ⟨h1, h2, h3, fun hn => ?_⟩
  obtain ⟨b, o, e, hc⟩ := h4 hn
  refine ⟨b, o, e, fun k hk => ?_⟩
  obtain ⟨s, B, m, d, c0, c1, c2, hw, hm⟩ := hc k hk
  exact ⟨s, B, m, d, (hb.cell (p := ⟨b, _, none⟩) (block_lt_of_cell c0)).trans c0, (hb.cell (p := ⟨b, _, none⟩) (block_lt_of_cell c1)).trans c1, (hb.cell (p := ⟨b, _, none⟩) (block_lt_of_cell c2)).trans c2, hw.below hb, hm⟩
def Jo.Fact.dl (K n : Nat) (l : List (Int × Int)) : Jo.Fact := ⟨fun v w => ∃ A c, v = .slice A n c ∧ Dl w A n c K l, fun v w w' h b => by
  obtain ⟨A, c, e, h⟩ := h
  exact ⟨A, c, e, h.below b⟩⟩
/-- So great at most, by limbs. -/
def Lm (z : Int) : Prop := ∃ L, L ≤ 20000 ∧ z.natAbs < 4294967296 ^ L
theorem Fit.lm {h : Nat} {p : Int × Int} (f : Fit h p) (hh : h ≤ 300000) : Lm p.1 := by
  refine ⟨h / 16 + 1, by omega, Nat.lt_of_lt_of_le f.abs ?_⟩
  rw [show (4294967296 : Nat) = 2 ^ 32 by decide, ← Nat.pow_mul]
  exact Nat.pow_le_pow_right (by decide) (by omega)
theorem Wn.lm {w : World} {s : Bool} {A : Option Addr} {n c : Nat} {z : Int} (h : Wn w s A n c z) (hz : Lm z) : n ≤ 20000 := by
  obtain ⟨L, h1, h2⟩ := hz
  exact Nat.le_trans (h.len_le h2) h1
/-- Two that can be summed: not too far apart. -/
def Near (p q : Int × Int) : Prop := p.1 ≠ 0 → q.1 ≠ 0 → p.2 - q.2 ≤ 640000 ∧ q.2 - p.2 ≤ 640000
theorem Fit.near {h k : Nat} {p q : Int × Int} (f : Fit h p) (g : Fit k q) (hh : h + k ≤ 640000) : Near p q := fun _ _ => by
  have := f.lo; have := f.hi; have := g.lo; have := g.hi
  omega
/-- A list that can be summed, one behind the other. -/
def Can (l : List (Int × Int)) : Prop := ∀ k, k < l.length → Lm (smd (l.take k)).1 ∧ Near (smd (l.take k)) (mk (l.getD k (0, 0)).1 (l.getD k (0, 0)).2) ∧ Lm (smd (l.take (k + 1))).1
theorem can_of_fit {h : Nat} {l : List (Int × Int)} (hh : h + l.length ≤ 300000) (hp : ∀ p ∈ l, Fit h (mk p.1 p.2)) : Can l := by
  intro k hk
  have f1 := smd_fit l (by omega) hp k (by omega)
  have f2 := smd_fit l (by omega) hp (k + 1) (by omega)
  have hm : l.getD k (0, 0) ∈ l := by
    rw [List.getD_eq_getElem?_getD, List.getElem?_eq_getElem hk]
    exact List.getElem_mem _
  exact ⟨f1.lm (by omega), f1.near (hp _ hm) (by omega), f2.lm (by omega)⟩
end Go.Proofs.YtdfnjhkcicnkpaaGreatDoor
