/-
  Contracts and words that the statement's proof rests on: Vals, Wn, Bo, Vall, Valr.
-/
import Derived.Deep.RegionWith
import Derived.Test.YtpnmphofengoeaaGreatDoorYPae
namespace Go.Proofs.YtpnmphofengoeaaGreatDoor
open Go.RowKit
set_option linter.unusedVariables false

def Rd (w : World) (A : Option Addr) (n c v : Nat) : Prop := ∃ b xs, Sl w b A n c xs ∧ val xs = v
def Nm (w : World) (A : Option Addr) (n c v : Nat) : Prop := ∃ b, Sl w b A n c (limbs v)

theorem Nm.rd {w : World} {A : Option Addr} {n c v : Nat} (h : Nm w A n c v) : Rd w A n c v := by
  obtain ⟨b, h⟩ := h; exact ⟨b, _, h, val_limbs v⟩
theorem Rd.below {w w' : World} {A : Option Addr} {n c v : Nat} (h : Rd w A n c v) (hb : Below w.heap.size w w') : Rd w' A n c v := by
  obtain ⟨b, xs, h, e⟩ := h; exact ⟨b, xs, h.below hb, e⟩
theorem Nm.below {w w' : World} {A : Option Addr} {n c v : Nat} (h : Nm w A n c v) (hb : Below w.heap.size w w') : Nm w' A n c v := by
  obtain ⟨b, h⟩ := h; exact ⟨b, h.below hb⟩
theorem Nm.len {w : World} {A : Option Addr} {n c v : Nat} (h : Nm w A n c v) : (limbs v).length = n := by
  obtain ⟨b, h⟩ := h; exact h.len
theorem Nm.zero {w : World} : Nm w none 0 0 0 := ⟨0, by rw [limbs_zero]; exact Sl.nil⟩
theorem Rd.bound {w : World} {A : Option Addr} {n c v : Nat} (h : Rd w A n c v) : v < 4294967296 ^ n := by
  obtain ⟨b, xs, h, rfl⟩ := h
  have := val_lt h.lim
  rwa [h.len] at this
theorem Rd.big {w : World} {A : Option Addr} {n c v : Nat} (h : Rd w A n c v) : n ≤ 1099511627776 := by
  obtain ⟨b, xs, h, rfl⟩ := h; exact h.big
theorem Rd.limbs_le {w : World} {A : Option Addr} {n c v : Nat} (h : Rd w A n c v) : (limbs v).length ≤ n := limbs_length_le h.bound
theorem Rd.blen_le {w : World} {A : Option Addr} {n c v : Nat} (h : Rd w A n c v) : blen v ≤ n * 32 := by
  apply blen_mono_le
  rw [← pow32]; exact h.bound
def P1 (w : World) (K v : Nat) (e : Ending) (w' : World) : Prop := ∃ A n c, e = .returned (.slice A n c) ∧ Nm w' A n c v ∧ n ≤ K ∧ Below w.heap.size w w'
def P1T (w : World) (K v : Nat) (e : Ending) (w' : World) : Prop := ∃ A n c, e = .returned (.tuple #[.slice A n c, .bool true]) ∧ Nm w' A n c v ∧ n ≤ K ∧ Below w.heap.size w w'
def P3 (w : World) (K q r : Nat) (e : Ending) (w' : World) : Prop :=
  ∃ A1 n1 c1 A2 n2 c2, e = .returned (.tuple #[.slice A1 n1 c1, .slice A2 n2 c2, .bool true]) ∧ Nm w' A1 n1 c1 q ∧ Nm w' A2 n2 c2 r ∧ n1 ≤ K ∧ n2 ≤ K ∧ Below w.heap.size w w'
def PI (w : World) (z : Int) (e : Ending) (w' : World) : Prop := e = .returned (.int .i64 z) ∧ Below w.heap.size w w'

theorem limbs_add_len {a b n m : Nat} (ha : a < 4294967296 ^ n) (hb : b < 4294967296 ^ m) : (limbs (a + b)).length ≤ n + m + 1 := by
  apply limbs_length_le
  have h1 := Nat.pow_le_pow_right (n := 4294967296) (by decide) (show n ≤ n + m by omega)
  have h2 := Nat.pow_le_pow_right (n := 4294967296) (by decide) (show m ≤ n + m by omega)
  rw [Nat.pow_succ]
  omega
theorem limbs_mul_len {a b n m : Nat} (ha : a < 4294967296 ^ n) (hb : b < 4294967296 ^ m) : (limbs (a * b)).length ≤ n + m := by
  apply limbs_length_le
  rw [Nat.pow_add]; exact Nat.mul_lt_mul'' ha hb

section
variable {w : World} {A1 A2 : Option Addr} {n m c1 c2 a b : Nat}

end

theorem one_rd (W : World) : Rd (W.alloc (.cells #[.int .u32 1] 74)) (some ⟨W.heap.size, 0, none⟩) 1 1 1 := ⟨_, _, one_limb W, by simp [val]⟩
end Go.Proofs.YtpnmphofengoeaaGreatDoor

namespace Go.Proofs.YtpnmphofengoeaaGreatDoor
open Go.RowKit
set_option linter.unusedVariables false

def sg (s : Bool) (a : Nat) : Int := if s then -(a : Int) else a
theorem sg_natAbs (s : Bool) (a : Nat) : (sg s a).natAbs = a := by cases s <;> simp [sg]
theorem sg_lt (s : Bool) (a : Nat) : decide (sg s a < 0) = (s && decide (0 < a)) := by cases s <;> simp [sg] <;> omega

def Wr (w : World) (s : Bool) (A : Option Addr) (n c : Nat) (z : Int) : Prop := ∃ a, Rd w A n c a ∧ sg s a = z
def Wn (w : World) (s : Bool) (A : Option Addr) (n c : Nat) (z : Int) : Prop := Nm w A n c z.natAbs ∧ s = decide (z < 0)

theorem Wn.wr {w : World} {s : Bool} {A : Option Addr} {n c : Nat} {z : Int} (h : Wn w s A n c z) : Wr w s A n c z := by
  obtain ⟨h, rfl⟩ := h; refine ⟨_, h.rd, ?_⟩
  by_cases e : z < 0
  · simp [sg, e]; omega
  · simp [sg, e]; omega
theorem Wr.below {w w' : World} {s : Bool} {A : Option Addr} {n c : Nat} {z : Int} (h : Wr w s A n c z) (hb : Below w.heap.size w w') : Wr w' s A n c z := by
  obtain ⟨a, h, e⟩ := h; exact ⟨a, h.below hb, e⟩
theorem Wn.below {w w' : World} {s : Bool} {A : Option Addr} {n c : Nat} {z : Int} (h : Wn w s A n c z) (hb : Below w.heap.size w w') : Wn w' s A n c z := ⟨h.1.below hb, h.2⟩
theorem Wr.rd {w : World} {s : Bool} {A : Option Addr} {n c : Nat} {z : Int} (h : Wr w s A n c z) : Rd w A n c z.natAbs := by
  obtain ⟨a, h, rfl⟩ := h; rw [sg_natAbs]; exact h
theorem Wr.eq {w : World} {s : Bool} {A : Option Addr} {n c : Nat} {z : Int} (h : Wr w s A n c z) : sg s z.natAbs = z := by
  obtain ⟨a, h, rfl⟩ := h; rw [sg_natAbs]
theorem Nm.pos {w : World} {A : Option Addr} {n c v : Nat} (h : Nm w A n c v) : 0 < n ↔ 0 < v := by
  have hl := h.len
  by_cases e : v = 0
  · subst e; rw [limbs_zero] at hl; simp at hl; omega
  · rw [limbs_pos e] at hl; simp at hl; omega
theorem Nm.wn {w : World} {A : Option Addr} {n c a : Nat} (s : Bool) (h : Nm w A n c a) : Wn w (s && decide (0 < n)) A n c (sg s a) := by
  refine ⟨by rw [sg_natAbs]; exact h, ?_⟩
  rw [sg_lt]
  congr 1
  exact decide_eq_decide.2 h.pos
theorem Wn.zero {w : World} : Wn w false none 0 0 0 := ⟨Nm.zero, rfl⟩

def W1 (w : World) (K : Nat) (z : Int) (e : Ending) (w' : World) : Prop := ∃ s A n c, e = .returned (.agg #[.bool s, .slice A n c]) ∧ Wn w' s A n c z ∧ n ≤ K ∧ Below w.heap.size w w'
def PB (w : World) (t : Bool) (e : Ending) (w' : World) : Prop := e = .returned (.bool t) ∧ Below w.heap.size w w'
theorem ret_bool {a b : Bool} (h : a = b) : Ending.returned (.bool a) = .returned (.bool b) := by rw [h]
theorem bcell {W w1 : World} (hb : Below W.heap.size W w1) : (∀ b o, b < W.heap.size → w1.cell? ⟨b, o, none⟩ = W.cell? ⟨b, o, none⟩) ∧ (∀ b o, b < W.heap.size → w1.frozen? ⟨b, o, none⟩ = W.frozen? ⟨b, o, none⟩) :=
  ⟨fun b o h => hb.cell (p := ⟨b, o, none⟩) h, fun b o h => hb.frozen (p := ⟨b, o, none⟩) h⟩
theorem bel1 (w : World) (a : Obj) : Below w.heap.size w (w.alloc a) := alloc_below _ _
theorem bel2 (w : World) (a b : Obj) : Below w.heap.size w ((w.alloc a).alloc b) := (bel1 w a).alloc (by simp) _
theorem bel3 (w : World) (a b c : Obj) : Below w.heap.size w (((w.alloc a).alloc b).alloc c) := (bel2 w a b).alloc (by simp; omega) _
theorem bel4 (w : World) (a b c d : Obj) : Below w.heap.size w ((((w.alloc a).alloc b).alloc c).alloc d) := (bel3 w a b c).alloc (by simp; omega) _
theorem bt {w w1 w2 : World} (h : Below w.heap.size w w1) (k : Below w1.heap.size w1 w2) : Below w.heap.size w w2 := h.trans (k.mono h.size)
theorem st2 {B : Nat} {a w : World} (h : Below B a w) {b o1 o2 : Nat} (hp : B ≤ b) (u v : Value) : Below B a ((w.setCell ⟨b, o1, none⟩ u).setCell ⟨b, o2, none⟩ v) := (h.setCell (p := ⟨b, o1, none⟩) hp u).setCell (p := ⟨b, o2, none⟩) hp v

def Bx (w : World) (g : Nat) (s : Bool) (A : Option Addr) (n c : Nat) : Prop := w.heap[g]? = some (.cells #[.bool s, .slice A n c] 81 (0, 0))
section
variable {w w' : World} {g : Nat} {s : Bool} {A : Option Addr} {n c : Nat}
theorem Bx.lt (h : Bx w g s A n c) : g < w.heap.size := by
  rcases Nat.lt_or_ge g w.heap.size with hlt | hge
  · exact hlt
  · unfold Bx at h; rw [Array.getElem?_eq_none hge] at h; cases h
theorem Bx.keep (h : Bx w g s A n c) (hk : w'.heap[g]? = w.heap[g]?) : Bx w' g s A n c := hk.trans h
theorem Bx.below (h : Bx w g s A n c) (hb : Below w.heap.size w w') : Bx w' g s A n c := h.keep (hb.block g h.lt)
theorem Bx.new (w : World) (s : Bool) (A : Option Addr) (n c : Nat) : Bx (w.alloc (.cells #[.bool s, .slice A n c] 81)) w.heap.size s A n c := heap_alloc_new w _
theorem Bx.newAt (w : World) {g : Nat} (hg : w.heap.size = g) (s : Bool) (A : Option Addr) (n c : Nat) : Bx (w.alloc (.cells #[.bool s, .slice A n c] 81)) g s A n c := hg ▸ heap_alloc_new w _
theorem Bx.cell0 (h : Bx w g s A n c) : w.cell? ⟨g, 0, none⟩ = some (.bool s) := by rw [cell_of_row w g 0 _ _ (0, 0) h]; rfl
theorem Bx.cell1 (h : Bx w g s A n c) : w.cell? ⟨g, 1, none⟩ = some (.slice A n c) := by rw [cell_of_row w g 1 _ _ (0, 0) h]; rfl
theorem Bx.frozen (h : Bx w g s A n c) (i : Nat) : w.frozen? ⟨g, i, none⟩ = false := by
  unfold Bx at h
  simp [World.frozen?, h]
theorem Bx.no32 (h : Bx w g s A n c) {o : Nat} {x : Int} (hc : w.cell? ⟨g, o, none⟩ = some (.int .u32 x)) : False := by
  rw [cell_of_row w g o _ _ (0, 0) h] at hc
  match o, hc with
  | 0, hc => simp at hc
  | 1, hc => simp at hc
  | k + 2, hc => simp at hc
theorem Bx.set (h : Bx w g s A n c) (s' : Bool) (A' : Option Addr) (n' c' : Nat) : Bx ((w.setCell ⟨g, 0, none⟩ (.bool s')).setCell ⟨g, 1, none⟩ (.slice A' n' c')) g s' A' n' c' := by
  unfold Bx at h ⊢
  simp [World.setCell, Array.getElem?_modify, h]
theorem heap_st2 (w : World) {g k o1 o2 : Nat} (h : k ≠ g) (u v : Value) : ((w.setCell ⟨g, o1, none⟩ u).setCell ⟨g, o2, none⟩ v).heap[k]? = w.heap[k]? := by
  rw [Below.heap_setCell _ _ _ _ h, Below.heap_setCell _ _ _ _ h]
theorem Bx.far (h : Bx w g s A n c) {k : Nat} (hk : g ≠ k) (u v : Value) : Bx ((w.setCell ⟨k, 0, none⟩ u).setCell ⟨k, 1, none⟩ v) g s A n c := h.keep (heap_st2 w hk u v)
theorem sl_st {b : Nat} {B : Option Addr} {m d : Nat} {xs : List Nat} (h : Sl w b B m d xs) (X : Bx w g s A n c) (u v : Value) : Sl ((w.setCell ⟨g, 0, none⟩ u).setCell ⟨g, 1, none⟩ v) b B m d xs :=
  h.keep fun hm => heap_st2 w (fun e => by
    obtain ⟨o, _, hc⟩ := h.at hm
    have := hc 0 hm
    rw [e] at this; exact X.no32 this) u v
theorem Nm.st {B : Option Addr} {m d a : Nat} (h : Nm w B m d a) (X : Bx w g s A n c) (u v : Value) : Nm ((w.setCell ⟨g, 0, none⟩ u).setCell ⟨g, 1, none⟩ v) B m d a := by
  obtain ⟨b, h⟩ := h; exact ⟨b, sl_st h X u v⟩
theorem Wn.st {t : Bool} {B : Option Addr} {m d : Nat} {z : Int} (h : Wn w t B m d z) (X : Bx w g s A n c) (u v : Value) : Wn ((w.setCell ⟨g, 0, none⟩ u).setCell ⟨g, 1, none⟩ v) t B m d z := ⟨h.1.st X u v, h.2⟩
theorem Bx.drew (h : Bx w g s A n c) : Bx w.drew g s A n c := h
theorem Rd.drew {a : Nat} (h : Rd w A n c a) : Rd w.drew A n c a := h
theorem Wr.drew {z : Int} (h : Wr w s A n c z) : Wr w.drew s A n c z := h
end
end Go.Proofs.YtpnmphofengoeaaGreatDoor

namespace Go.Proofs.YtpnmphofengoeaaGreatDoor
open Go.RowKit
set_option linter.unusedVariables false

def Bo (w : World) (g : Nat) (cs : Array Value) (T : TypeId) : Prop := w.heap[g]? = some (.cells cs T (0, 0))
def no32 (v : Value) : Bool := match v with
  | .int .u32 _ => false
  | _ => true
section
variable {w w' : World} {g : Nat} {cs : Array Value} {T : TypeId}
theorem Bo.lt (h : Bo w g cs T) : g < w.heap.size := by
  rcases Nat.lt_or_ge g w.heap.size with hlt | hge
  · exact hlt
  · unfold Bo at h; rw [Array.getElem?_eq_none hge] at h; cases h
theorem Bo.keep (h : Bo w g cs T) (hk : w'.heap[g]? = w.heap[g]?) : Bo w' g cs T := hk.trans h
theorem Bo.below (h : Bo w g cs T) (hb : Below w.heap.size w w') : Bo w' g cs T := h.keep (hb.block g h.lt)
theorem Bo.drew (h : Bo w g cs T) : Bo w.drew g cs T := h
theorem Bo.new (w : World) (cs : Array Value) (T : TypeId) : Bo (w.alloc (.cells cs T)) w.heap.size cs T := heap_alloc_new w _
theorem Bo.newAt (w : World) {g : Nat} (hg : w.heap.size = g) (cs : Array Value) (T : TypeId) : Bo (w.alloc (.cells cs T)) g cs T := hg ▸ heap_alloc_new w _
theorem Bo.cell (h : Bo w g cs T) (i : Nat) : w.cell? ⟨g, i, none⟩ = cs[i]? := by rw [cell_of_row w g i _ _ (0, 0) h]
theorem Bo.frozen (h : Bo w g cs T) (i : Nat) : w.frozen? ⟨g, i, none⟩ = false := by
  unfold Bo at h
  simp [World.frozen?, h]
theorem Bo.set (h : Bo w g cs T) (i : Nat) (v : Value) : Bo (w.setCell ⟨g, i, none⟩ v) g (cs.setIfInBounds i v) T := by
  unfold Bo at h ⊢
  simp [World.setCell, Array.getElem?_modify, h]
theorem Bo.far (h : Bo w g cs T) {k : Nat} (hk : g ≠ k) (i : Nat) (v : Value) : Bo (w.setCell ⟨k, i, none⟩ v) g cs T := h.keep (Below.heap_setCell w _ _ _ hk)
theorem Bo.no (h : Bo w g cs T) (hn : cs.all no32 = true) {o : Nat} {x : Int} (hc : w.cell? ⟨g, o, none⟩ = some (.int .u32 x)) : False := by
  rw [h.cell] at hc; rw [Array.all_eq_true] at hn; obtain ⟨hlt, he⟩ := Array.getElem?_eq_some_iff.1 hc
  have := hn o hlt
  rw [he] at this
  cases this
theorem sl_store {b : Nat} {B : Option Addr} {m d : Nat} {xs : List Nat} (h : Sl w b B m d xs) (X : Bo w g cs T) (hn : cs.all no32 = true) (i : Nat) (v : Value) : Sl (w.setCell ⟨g, i, none⟩ v) b B m d xs :=
  h.keep fun hm => Below.heap_setCell w _ _ _ (fun e => by
    obtain ⟨o, _, hc⟩ := h.at hm
    have := hc 0 hm
    rw [e] at this; exact X.no hn this)
theorem Nm.store {B : Option Addr} {m d a : Nat} (h : Nm w B m d a) (X : Bo w g cs T) (hn : cs.all no32 = true) (i : Nat) (v : Value) : Nm (w.setCell ⟨g, i, none⟩ v) B m d a := by
  obtain ⟨b, h⟩ := h; exact ⟨b, sl_store h X hn i v⟩
theorem Wn.store {s : Bool} {B : Option Addr} {m d : Nat} {z : Int} (h : Wn w s B m d z) (X : Bo w g cs T) (hn : cs.all no32 = true) (i : Nat) (v : Value) : Wn (w.setCell ⟨g, i, none⟩ v) s B m d z := ⟨h.1.store X hn i v, h.2⟩
theorem below_store {B : Nat} {a : World} (h : Below B a w) {b : Nat} (hp : B ≤ b) (i : Nat) (u : Value) : Below B a (w.setCell ⟨b, i, none⟩ u) := h.setCell (p := ⟨b, i, none⟩) hp u
end
theorem bel5 (w : World) (a b c d e : Obj) : Below w.heap.size w (((((w.alloc a).alloc b).alloc c).alloc d).alloc e) := (bel4 w a b c d).alloc (by simp; omega) _
end Go.Proofs.YtpnmphofengoeaaGreatDoor

namespace Go.Proofs.YtpnmphofengoeaaGreatDoor
open Go.RowKit
set_option linter.unusedVariables false

section
variable {w : World} {A1 A2 : Option Addr} {n m c1 c2 a b : Nat}
end
theorem cmpI_bd (a b : Int) : -1 ≤ cmpI a b ∧ cmpI a b ≤ 1 := by unfold cmpI; split <;> (try split) <;> omega
theorem blen_eq_zero {a : Nat} : blen a = 0 ↔ a = 0 := by
  constructor
  · intro h
    have := blen_lt a
    rw [h] at this
    simpa using this
  · rintro rfl; rfl
end Go.Proofs.YtpnmphofengoeaaGreatDoor

namespace Go.Proofs.YtpnmphofengoeaaGreatDoor
open Go.RowKit
set_option linter.unusedVariables false

section
variable {w : World} {A1 A2 : Option Addr} {n m c1 c2 a b : Nat}
end

theorem blen_shl {a s : Nat} (ha : a ≠ 0) : blen (a * 2 ^ s) = blen a + s := by
  have h1 := blen_lt a; have h2 := blen_le ha
  have h3 : blen a ≠ 0 := fun e => by rw [e] at h1; simp at h1; exact ha h1
  have hp := Nat.two_pow_pos s
  have := blen_uniq (n := a * 2 ^ s) (k := blen a - 1 + s) (by have := Nat.mul_pos (Nat.pos_of_ne_zero ha) hp; omega)
    (by rw [Nat.pow_add]; exact Nat.mul_le_mul_right _ h2)
    (by rw [show blen a - 1 + s + 1 = blen a + s by omega, Nat.pow_add]; exact Nat.mul_lt_mul_of_pos_right h1 hp)
  omega
theorem blen_pow (s : Nat) : blen (2 ^ s) = s + 1 := by
  have := blen_shl (a := 1) (s := s) (by decide)
  rw [Nat.one_mul] at this; rw [this]
  have : blen 1 = 1 := by decide
  omega
end Go.Proofs.YtpnmphofengoeaaGreatDoor
