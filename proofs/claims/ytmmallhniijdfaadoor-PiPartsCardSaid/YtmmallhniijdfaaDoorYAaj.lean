/-
 Contracts that the proof rests on.
-/
import Derived.Test.YtmmallhniijdfaaDoorYAai
namespace Go.Proofs.YtmmallhniijdfaaDoor
set_option maxHeartbeats 1000000
open Go.RowKit
set_option linter.unusedVariables false
def sg (s : Bool) (a : Nat) : Int := if s then -(a : Int) else a
theorem sg_true (a : Nat) : sg true a = -(a : Int) := rfl
theorem sg_false (a : Nat) : sg false a = a := rfl
theorem sg_natAbs (s : Bool) (a : Nat) : (sg s a).natAbs = a := by cases s <;> simp [sg]
theorem sg_zero (s : Bool) : sg s 0 = 0 := by cases s <;> rfl
theorem sg_lt (s : Bool) (a : Nat) : decide (sg s a < 0) = (s && decide (0 < a)) := by cases s <;> simp [sg] <;> omega
def Wr (w : World) (s : Bool) (A : Option Addr) (n c : Nat) (z : Int) : Prop := ∃ a, Rd w A n c a ∧ sg s a = z
def Wn (w : World) (s : Bool) (A : Option Addr) (n c : Nat) (z : Int) : Prop := Nm w A n c z.natAbs ∧ s = decide (z < 0)
theorem Wn.wr {w : World} {s : Bool} {A : Option Addr} {n c : Nat} {z : Int} (h : Wn w s A n c z) : Wr w s A n c z := by
 obtain ⟨h, rfl⟩ := h; refine ⟨_, h.rd, ?_⟩
 by_cases e : z < 0
 · simp [sg, e]; omega
 · simp [sg, e]; omega
theorem Wr.below {w w' : World} {s : Bool} {A : Option Addr} {n c : Nat} {z : Int} (h : Wr w s A n c z) (hb : Below w.heap.size w w') : Wr w' s A n c z := by
 obtain ⟨a, h, e⟩ := h; exact ⟨a, h.below hb, e⟩
theorem Wn.below {w w' : World} {s : Bool} {A : Option Addr} {n c : Nat} {z : Int} (h : Wn w s A n c z) (hb : Below w.heap.size w w') : Wn w' s A n c z := ⟨h.1.below hb, h.2⟩
theorem Wr.rd {w : World} {s : Bool} {A : Option Addr} {n c : Nat} {z : Int} (h : Wr w s A n c z) : Rd w A n c z.natAbs := by
 obtain ⟨a, h, rfl⟩ := h; rw [sg_natAbs]; exact h
theorem Wr.eq {w : World} {s : Bool} {A : Option Addr} {n c : Nat} {z : Int} (h : Wr w s A n c z) : sg s z.natAbs = z := by
 obtain ⟨a, h, rfl⟩ := h; rw [sg_natAbs]
theorem Nm.pos {w : World} {A : Option Addr} {n c v : Nat} (h : Nm w A n c v) : 0 < n ↔ 0 < v := by
 have hl := h.len
 by_cases e : v = 0
 · subst e; rw [limbs_zero] at hl; simp at hl; omega
 · rw [limbs_pos e] at hl; simp at hl; omega
theorem Nm.wn {w : World} {A : Option Addr} {n c a : Nat} (s : Bool) (h : Nm w A n c a) : Wn w (s && decide (0 < n)) A n c (sg s a) := by
 refine ⟨by rw [sg_natAbs]; exact h, ?_⟩
 rw [sg_lt]
 congr 1
 exact decide_eq_decide.2 h.pos
theorem Wn.zero {w : World} : Wn w false none 0 0 0 := ⟨Nm.zero, rfl⟩
def W1 (w : World) (K : Nat) (z : Int) (e : Ending) (w' : World) : Prop := ∃ s A n c, e = .returned (.agg #[.bool s, .slice A n c]) ∧ Wn w' s A n c z ∧ n ≤ K ∧ Below w.heap.size w w'
def PB (w : World) (t : Bool) (e : Ending) (w' : World) : Prop := e = .returned (.bool t) ∧ Below w.heap.size w w'
theorem ret_bool {a b : Bool} (h : a = b) : Ending.returned (.bool a) = .returned (.bool b) := by rw [h]
theorem bcell {W w1 : World} (hb : Below W.heap.size W w1) : (∀ b o, b < W.heap.size → w1.cell? ⟨b, o, none⟩ = W.cell? ⟨b, o, none⟩) ∧ (∀ b o, b < W.heap.size → w1.frozen? ⟨b, o, none⟩ = W.frozen? ⟨b, o, none⟩) :=
 ⟨fun b o h => hb.cell (p := ⟨b, o, none⟩) h, fun b o h => hb.frozen (p := ⟨b, o, none⟩) h⟩
theorem bel1 (w : World) (a : Obj) : Below w.heap.size w (w.alloc a) := alloc_below _ _
theorem bel2 (w : World) (a b : Obj) : Below w.heap.size w ((w.alloc a).alloc b) := (bel1 w a).alloc (by simp) _
theorem bel3 (w : World) (a b c : Obj) : Below w.heap.size w (((w.alloc a).alloc b).alloc c) := (bel2 w a b).alloc (by simp; omega) _
theorem bel4 (w : World) (a b c d : Obj) : Below w.heap.size w ((((w.alloc a).alloc b).alloc c).alloc d) := (bel3 w a b c).alloc (by simp; omega) _
theorem bt {w w1 w2 : World} (h : Below w.heap.size w w1) (k : Below w1.heap.size w1 w2) : Below w.heap.size w w2 := h.trans (k.mono h.size)
theorem st2 {B : Nat} {a w : World} (h : Below B a w) {b o1 o2 : Nat} (hp : B ≤ b) (u v : Value) : Below B a ((w.setCell ⟨b, o1, none⟩ u).setCell ⟨b, o2, none⟩ v) := (h.setCell (p := ⟨b, o1, none⟩) hp u).setCell (p := ⟨b, o2, none⟩) hp v
def Bx (w : World) (g : Nat) (s : Bool) (A : Option Addr) (n c : Nat) : Prop := w.heap[g]? = some (.cells #[.bool s, .slice A n c] 28 (0, 0))
section
variable {w w' : World} {g : Nat} {s : Bool} {A : Option Addr} {n c : Nat}
theorem Bx.lt (h : Bx w g s A n c) : g < w.heap.size := by
 rcases Nat.lt_or_ge g w.heap.size with hlt | hge
 · exact hlt
 · unfold Bx at h; rw [Array.getElem?_eq_none hge] at h; cases h
theorem Bx.keep (h : Bx w g s A n c) (hk : w'.heap[g]? = w.heap[g]?) : Bx w' g s A n c := hk.trans h
theorem Bx.below (h : Bx w g s A n c) (hb : Below w.heap.size w w') : Bx w' g s A n c := h.keep (hb.block g h.lt)
theorem Bx.new (w : World) (s : Bool) (A : Option Addr) (n c : Nat) : Bx (w.alloc (.cells #[.bool s, .slice A n c] 28)) w.heap.size s A n c := heap_alloc_new w _
theorem Bx.newAt (w : World) {g : Nat} (hg : w.heap.size = g) (s : Bool) (A : Option Addr) (n c : Nat) : Bx (w.alloc (.cells #[.bool s, .slice A n c] 28)) g s A n c := hg ▸ heap_alloc_new w _
theorem Bx.cell0 (h : Bx w g s A n c) : w.cell? ⟨g, 0, none⟩ = some (.bool s) := by rw [cell_of_row w g 0 _ _ (0, 0) h]; rfl
theorem Bx.cell1 (h : Bx w g s A n c) : w.cell? ⟨g, 1, none⟩ = some (.slice A n c) := by rw [cell_of_row w g 1 _ _ (0, 0) h]; rfl
theorem Bx.frozen (h : Bx w g s A n c) (i : Nat) : w.frozen? ⟨g, i, none⟩ = false := by
 unfold Bx at h
 simp [World.frozen?, h]
theorem Bx.no32 (h : Bx w g s A n c) {o : Nat} {x : Int} (hc : w.cell? ⟨g, o, none⟩ = some (.int .u32 x)) : False := by
 rw [cell_of_row w g o _ _ (0, 0) h] at hc
 match o, hc with
 | 0, hc => simp at hc
 | 1, hc => simp at hc
 | k + 2, hc => simp at hc
theorem heap_st2 (w : World) {g k o1 o2 : Nat} (h : k ≠ g) (u v : Value) : ((w.setCell ⟨g, o1, none⟩ u).setCell ⟨g, o2, none⟩ v).heap[k]? = w.heap[k]? := by
 rw [Below.heap_setCell _ _ _ _ h, Below.heap_setCell _ _ _ _ h]
theorem Bx.far (h : Bx w g s A n c) {k : Nat} (hk : g ≠ k) (u v : Value) : Bx ((w.setCell ⟨k, 0, none⟩ u).setCell ⟨k, 1, none⟩ v) g s A n c := h.keep (heap_st2 w hk u v)
theorem sl_st {b : Nat} {B : Option Addr} {m d : Nat} {xs : List Nat} (h : Sl w b B m d xs) (X : Bx w g s A n c) (u v : Value) : Sl ((w.setCell ⟨g, 0, none⟩ u).setCell ⟨g, 1, none⟩ v) b B m d xs :=
 h.keep fun hm => heap_st2 w (fun e => by
   obtain ⟨o, _, hc⟩ := h.at hm
   have := hc 0 hm
   rw [e] at this; exact X.no32 this) u v
theorem Nm.st {B : Option Addr} {m d a : Nat} (h : Nm w B m d a) (X : Bx w g s A n c) (u v : Value) : Nm ((w.setCell ⟨g, 0, none⟩ u).setCell ⟨g, 1, none⟩ v) B m d a := by
 obtain ⟨b, h⟩ := h; exact ⟨b, sl_st h X u v⟩
theorem Wn.st {t : Bool} {B : Option Addr} {m d : Nat} {z : Int} (h : Wn w t B m d z) (X : Bx w g s A n c) (u v : Value) : Wn ((w.setCell ⟨g, 0, none⟩ u).setCell ⟨g, 1, none⟩ v) t B m d z := ⟨h.1.st X u v, h.2⟩
theorem Bx.drew (h : Bx w g s A n c) : Bx w.drew g s A n c := h
theorem Nm.drew {a : Nat} (h : Nm w A n c a) : Nm w.drew A n c a := h
theorem Rd.drew {a : Nat} (h : Rd w A n c a) : Rd w.drew A n c a := h
end
theorem wSigned {w : World} {A : Option Addr} {n c a : Nat} (s : Bool) (h : Nm w A n c a) : Calls Tryd.prog 46 #[.bool s, .slice A n c] w (W1 w n (sg s a)) := by
 have HW := Lib.hid (h.wn s); have hbig := h.rd.big; clear h
 cases s
 · go_enter Tryd.func46, Tryd.ntmps46
   go_wp2; exact bodyPost_ret (v := .agg #[.bool false, .slice A n c]) (by simp [results, Tryd.results46, go_sem]) rfl ⟨false, A, n, c, rfl, HW.out.below (bel1 _ _), Nat.le_refl _, bel1 _ _⟩
 · by_cases h0 : 0 < n
   · have e : decide (0 < n) = true := by simpa using h0
     go_enter Tryd.func46, Tryd.ntmps46
     go_wp2; exact bodyPost_ret (v := .agg #[.bool true, .slice A n c]) (by simp [results, Tryd.results46, go_sem]) rfl ⟨true, A, n, c, rfl, by have := HW.out; rw [e] at this; exact this.below (bel1 _ _), Nat.le_refl _, bel1 _ _⟩
   · obtain rfl : n = 0 := by omega
     go_enter Tryd.func46, Tryd.ntmps46
     go_wp2; exact bodyPost_ret (v := .agg #[.bool false, .slice A 0 c]) (by simp [results, Tryd.results46, go_sem]) rfl ⟨false, A, 0, c, rfl, HW.out.below (bel1 _ _), Nat.le_refl _, bel1 _ _⟩
theorem wMake {w : World} {A : Option Addr} {n c a : Nat} (s : Bool) (h : Rd w A n c a) : Calls Tryd.prog 31 #[.bool s, .slice A n c] w (W1 w n (sg s a)) := by
 go_enter Tryd.func31, Tryd.ntmps31
 go_wp2_with (first
   | (go_at_call 62; ((with_reducible refine (vTrim (h.below (bel1 _ _))).mono ?_); rintro e w1 ⟨A1, n1, c1, rfl, h1, k1, B1⟩))
   | (go_at_call 46; ((with_reducible refine (wSigned s h1).mono ?_); rintro e w2 ⟨s2, A2, n2, c2, rfl, h2, k2, B2⟩; obtain ⟨hc, hf⟩ := bcell (bt B1 B2))))
 have X := (Bx.new w false none 0 0).below (bt B1 B2); exact bodyPost_ret (v := .agg #[.bool s2, .slice A2 n2 c2]) (by simp [results, Tryd.results31, go_sem, X.cell0, X.cell1]) rfl ⟨s2, A2, n2, c2, rfl, h2.st X _ _, by omega, st2 (bt (bel1 _ _) (bt B1 B2)) (Nat.le_refl _) _ _⟩
section
variable {w : World} {A1 A2 : Option Addr} {n m c1 c2 a b : Nat}
theorem vLen (h1 : Rd w A1 n c1 a) : Calls Tryd.prog 43 #[.slice A1 n c1] w (PI w (blen a : Nat)) := by
 obtain ⟨b1, xs, h1, rfl⟩ := h1; refine (len_any w b1 A1 n c1 xs h1).mono ?_; rintro e w' ⟨rfl, rfl⟩; exact ⟨rfl, Below.refl _ _⟩
theorem vLenE {z : Int} (h1 : Rd w A1 n c1 a) (hz : ((blen a : Nat) : Int) = z) : Calls Tryd.prog 43 #[.slice A1 n c1] w (PI w z) := hz ▸ vLen h1
end
theorem cmpI_self (a : Nat) : cmpI (a : Int) (a : Int) = 0 := cmpI_eq rfl
theorem cmpI_bd (a b : Int) : -1 ≤ cmpI a b ∧ cmpI a b ≤ 1 := by unfold cmpI; split <;> (try split) <;> omega
theorem blen_eq_zero {a : Nat} : blen a = 0 ↔ a = 0 := by
 constructor
 · intro h
   have := blen_lt a
   rw [h] at this
   simpa using this
 · rintro rfl; rfl
def mayB (s : Bool) (n a : Nat) : Bool := decide ((limbs a).length = n) && (decide (0 < n) || !s)
theorem mayB_zero (s : Bool) {a : Nat} (h : a < 4294967296 ^ 0) : mayB s 0 a = !s := by
 obtain rfl : a = 0 := by simpa using h
 simp [mayB, limbs_zero]
theorem mayB_pos (s : Bool) {n : Nat} {xs : List Nat} (hl : Lim xs) (h : xs.length = n) (hn : 0 < n) : mayB s n (val xs) = (((xs.getD (n - 1) 0 : Nat) : Int) != 0) := by
 have h1 : decide (0 < n) = true := by simpa using hn
 unfold mayB
 rw [h1, Bool.true_or, Bool.and_true]
 by_cases e : xs.getD (n - 1) 0 = 0
 · rw [e]
   have : (limbs (val xs)).length ≤ n - 1 := by
     apply limbs_length_le
     have e3 : val (xs.drop (n - 1)) = 0 := by rw [val_drop (by omega), e, show n - 1 + 1 = n by omega, List.drop_of_length_le (by omega)]; rfl
     have e2 := val_take_drop xs (k := n - 1) (by omega); rw [e3, Nat.mul_zero, Nat.add_zero] at e2; rw [e2]
     have := val_lt (hl.take (n - 1))
     rwa [List.length_take, h, Nat.min_eq_left (by omega)] at this
   simp
   omega
 · have := take_eq_limbs hl (k := n) (by omega) (by rw [List.drop_of_length_le (by omega)]; rfl) (fun _ => e)
   have hlen : (limbs (val xs)).length = n := by rw [← this, List.length_take]; omega
   rw [hlen]
   have e' : ((xs.getD (n - 1) 0 : Nat) : Int) ≠ 0 := by omega
   simp only [decide_true]; exact (bne_iff_ne.2 e').symm
theorem wMay {w : World} {A : Option Addr} {n c a : Nat} {s : Bool} {r : Bool} (h : Rd w A n c a) (hr : mayB s n a = r) : Calls Tryd.prog 84 #[.agg #[.bool s, .slice A n c]] w (PB w r) := by
 rcases Nat.eq_zero_or_pos n with e | hn
 · subst e; rw [mayB_zero s h.bound] at hr; subst hr
   go_enter Tryd.func84, Tryd.ntmps84
   go_wp2
   go_ret
   exact ⟨rfl, bel1 _ _⟩
 · obtain ⟨b, xs, h, rfl⟩ := h; rw [mayB_pos s h.lim h.len hn] at hr; have hbig := h.big; have hcap := h.cap; have hlt := h.lt hn; obtain ⟨o, rfl, hcell⟩ := h.at hn; have hck := hcell (n - 1) (by omega); clear hcell h
   have hi : ((n : Int) - 1).toNat = n - 1 := by omega
   revert hr hck
   generalize xs.getD (n - 1) 0 = x
   intro hr hck
   have HR := Lib.hid hr
   have hq : ((n : Int) == 0) = false := by have : (n : Int) ≠ 0 := by omega
                                            simpa using this
   have hne : b ≠ w.heap.size := by omega
   clear hr
   go_enter Tryd.func84, Tryd.ntmps84
   go_wp2
   go_ret
   exact ⟨ret_bool HR.out, bel1 _ _⟩
def Bo (w : World) (g : Nat) (cs : Array Value) (T : TypeId) : Prop := w.heap[g]? = some (.cells cs T (0, 0))
def no32 (v : Value) : Bool := match v with
 | .int .u32 _ => false
 | _ => true
section
variable {w w' : World} {g : Nat} {cs : Array Value} {T : TypeId}
theorem Bo.lt (h : Bo w g cs T) : g < w.heap.size := by
 rcases Nat.lt_or_ge g w.heap.size with hlt | hge
 · exact hlt
 · unfold Bo at h; rw [Array.getElem?_eq_none hge] at h; cases h
theorem Bo.keep (h : Bo w g cs T) (hk : w'.heap[g]? = w.heap[g]?) : Bo w' g cs T := hk.trans h
theorem Bo.below (h : Bo w g cs T) (hb : Below w.heap.size w w') : Bo w' g cs T := h.keep (hb.block g h.lt)
theorem Bo.drew (h : Bo w g cs T) : Bo w.drew g cs T := h
theorem Bo.new (w : World) (cs : Array Value) (T : TypeId) : Bo (w.alloc (.cells cs T)) w.heap.size cs T := heap_alloc_new w _
theorem Bo.newAt (w : World) {g : Nat} (hg : w.heap.size = g) (cs : Array Value) (T : TypeId) : Bo (w.alloc (.cells cs T)) g cs T := hg ▸ heap_alloc_new w _
theorem Bo.cell (h : Bo w g cs T) (i : Nat) : w.cell? ⟨g, i, none⟩ = cs[i]? := by rw [cell_of_row w g i _ _ (0, 0) h]
theorem Bo.frozen (h : Bo w g cs T) (i : Nat) : w.frozen? ⟨g, i, none⟩ = false := by
 unfold Bo at h
 simp [World.frozen?, h]
theorem Bo.set (h : Bo w g cs T) (i : Nat) (v : Value) : Bo (w.setCell ⟨g, i, none⟩ v) g (cs.setIfInBounds i v) T := by
 unfold Bo at h ⊢
 simp [World.setCell, Array.getElem?_modify, h]
theorem Bo.no (h : Bo w g cs T) (hn : cs.all no32 = true) {o : Nat} {x : Int} (hc : w.cell? ⟨g, o, none⟩ = some (.int .u32 x)) : False := by
 rw [h.cell] at hc; rw [Array.all_eq_true] at hn; obtain ⟨hlt, he⟩ := Array.getElem?_eq_some_iff.1 hc
 have := hn o hlt
 rw [he] at this
 cases this
theorem sl_store {b : Nat} {B : Option Addr} {m d : Nat} {xs : List Nat} (h : Sl w b B m d xs) (X : Bo w g cs T) (hn : cs.all no32 = true) (i : Nat) (v : Value) : Sl (w.setCell ⟨g, i, none⟩ v) b B m d xs :=
 h.keep fun hm => Below.heap_setCell w _ _ _ (fun e => by
   obtain ⟨o, _, hc⟩ := h.at hm
   have := hc 0 hm
   rw [e] at this; exact X.no hn this)
theorem Nm.store {B : Option Addr} {m d a : Nat} (h : Nm w B m d a) (X : Bo w g cs T) (hn : cs.all no32 = true) (i : Nat) (v : Value) : Nm (w.setCell ⟨g, i, none⟩ v) B m d a := by
 obtain ⟨b, h⟩ := h; exact ⟨b, sl_store h X hn i v⟩
theorem Wn.store {s : Bool} {B : Option Addr} {m d : Nat} {z : Int} (h : Wn w s B m d z) (X : Bo w g cs T) (hn : cs.all no32 = true) (i : Nat) (v : Value) : Wn (w.setCell ⟨g, i, none⟩ v) s B m d z := ⟨h.1.store X hn i v, h.2⟩
theorem below_store {B : Nat} {a : World} (h : Below B a w) {b : Nat} (hp : B ≤ b) (i : Nat) (u : Value) : Below B a (w.setCell ⟨b, i, none⟩ u) := h.setCell (p := ⟨b, i, none⟩) hp u
end
theorem bel5 (w : World) (a b c d e : Obj) : Below w.heap.size w (((((w.alloc a).alloc b).alloc c).alloc d).alloc e) := (bel4 w a b c d).alloc (by simp; omega) _
section
variable {w : World} {A1 A2 : Option Addr} {n m c1 c2 a b : Nat}
theorem limbs_shl_len {a n s : Nat} (ha : a < 4294967296 ^ n) : (limbs (a * 2 ^ s)).length ≤ n + s / 32 + 1 := by
 have := limbs_mul_len (m := s / 32 + 1) (b := 2 ^ s) ha (by rw [pow32]; exact Nat.pow_lt_pow_right (by decide) (by omega))
 omega
theorem vShl (s : Nat) (h1 : Rd w A1 n c1 a) (hn : n ≤ 1073741824) (hs : s ≤ 16777216) : Calls Tryd.prog 67 #[.slice A1 n c1, .int .i64 (s : Int)] w (P1 w (n + s / 32 + 1) (a * 2 ^ s)) := by
 have hl := limbs_shl_len (s := s) h1.bound; obtain ⟨b1, xs, h1, rfl⟩ := h1; refine (shl_any w b1 A1 n c1 xs s h1 hs (by omega)).mono ?_; rintro e w' ⟨g, A, c, rfl, hm, hb⟩; exact ⟨A, _, c, rfl, hm.nm, hl, hb⟩
theorem vShl_low (z : Int) (h1 : Rd w A1 n c1 a) (hz : z < 1) : Calls Tryd.prog 67 #[.slice A1 n c1, .int .i64 z] w (P1 w n a) := by
 have hl := h1.limbs_le; obtain ⟨b1, xs, h1, rfl⟩ := h1; refine (shl_low w b1 A1 n c1 xs z h1 hz).mono ?_; rintro e w' ⟨g, A, c, rfl, hm, hb⟩; exact ⟨A, _, c, rfl, hm.nm, hl, hb⟩
theorem vShlE {s r : Nat} (h1 : Rd w A1 n c1 a) (hn : n ≤ 1073741824) (hs : s ≤ 16777216) (hr : a * 2 ^ s = r) : Calls Tryd.prog 67 #[.slice A1 n c1, .int .i64 (s : Int)] w (P1 w (n + s / 32 + 1) r) := hr ▸ vShl s h1 hn hs
end
theorem blen_shl {a s : Nat} (ha : a ≠ 0) : blen (a * 2 ^ s) = blen a + s := by
 have h1 := blen_lt a; have h2 := blen_le ha
 have h3 : blen a ≠ 0 := fun e => by rw [e] at h1; simp at h1; exact ha h1
 have hp := Nat.two_pow_pos s
 have := blen_uniq (n := a * 2 ^ s) (k := blen a - 1 + s) (by have := Nat.mul_pos (Nat.pos_of_ne_zero ha) hp; omega)
   (by rw [Nat.pow_add]; exact Nat.mul_le_mul_right _ h2)
   (by rw [show blen a - 1 + s + 1 = blen a + s by omega, Nat.pow_add]; exact Nat.mul_lt_mul_of_pos_right h1 hp)
 omega
theorem wSum {w : World} {A B : Option Addr} {n c m d a b : Nat} (s t : Bool) {r : Int} (h : Rd w A n c a) (k : Rd w B m d b) (hn : n ≤ 1073741824) (hm : m ≤ 1073741824) (hr : sg s a + sg t b = r) :
   Calls Tryd.prog 35 #[.bool s, .slice A n c, .bool t, .slice B m d] w (W1 w (n + m + 1) r) := by
 by_cases hs : s = t
 · subst hs
   have HR : Hid (sg s (a + b) = r) := Lib.hid (by rw [← hr]; cases s <;> simp [sg] <;> omega)
   have hq : (s == s) = true := by simp
   clear hr
   go_enter Tryd.func35, Tryd.ntmps35
   go_wp2_with (first
     | (go_at_call 61; ((with_reducible refine (vAdd (h.below (bel1 _ _)) (k.below (bel1 _ _)) hn hm).mono ?_); rintro e w1 ⟨A1, n1, c1, rfl, h1, k1, B1⟩))
     | (go_at_call 46; ((with_reducible refine (wSigned s h1).mono ?_); rintro e w2 ⟨s2, A2, n2, c2, rfl, h2, k2, B2⟩; obtain ⟨hc, hf⟩ := bcell (bt B1 B2))))
   have X := (Bx.new w false none 0 0).below (bt B1 B2); exact bodyPost_ret (v := .agg #[.bool s2, .slice A2 n2 c2]) (by simp [results, Tryd.results35, go_sem, X.cell0, X.cell1]) rfl ⟨s2, A2, n2, c2, rfl, HR.out ▸ h2.st X _ _, by omega, st2 (bt (bel1 _ _) (bt B1 B2)) (Nat.le_refl _) _ _⟩
 · have hq : (s == t) = false := by simpa using hs
   have hs' : t = !s := by cases s <;> cases t <;> simp_all
   by_cases hab : b ≤ a
   · have HR : Hid (sg s (a - b) = r) := Lib.hid (by rw [← hr, hs']; cases s <;> simp [sg] <;> omega)
     have HS := Lib.hid hs; clear hr hs' hs
     go_enter Tryd.func35, Tryd.ntmps35
     go_wp2_with (first
       | (go_at_call 64; ((with_reducible refine (vSub (h.below (bel1 _ _)) (k.below (bel1 _ _)) hab).mono ?_); rintro e w1 ⟨A1, n1, c1, rfl, h1, k1, B1⟩))
       | (go_at_call 46; ((with_reducible refine (wSigned s h1).mono ?_); rintro e w2 ⟨s2, A2, n2, c2, rfl, h2, k2, B2⟩; obtain ⟨hc, hf⟩ := bcell (bt B1 B2))))
     have X := (Bx.new w false none 0 0).below (bt B1 B2); exact bodyPost_ret (v := .agg #[.bool s2, .slice A2 n2 c2]) (by simp [results, Tryd.results35, go_sem, X.cell0, X.cell1]) rfl ⟨s2, A2, n2, c2, rfl, HR.out ▸ h2.st X _ _, by omega, st2 (bt (bel1 _ _) (bt B1 B2)) (Nat.le_refl _) _ _⟩
   · have HR : Hid (sg t (b - a) = r) := Lib.hid (by rw [← hr, hs']; cases s <;> simp [sg] <;> omega)
     have HS := Lib.hid hs
     have hlt : a < b := by omega
     have hle : a ≤ b := by omega
     clear hr hs' hs hab
     go_enter Tryd.func35, Tryd.ntmps35
     go_wp2_with (first
       | (go_at_call 64; ((with_reducible refine (vSub_lt (h.below (bel1 _ _)) (k.below (bel1 _ _)) hlt).mono ?_); rintro e w0 ⟨rfl, B0⟩))
       | (go_at_call 64; ((with_reducible refine (vSub (k.below (bt (bel1 _ _) B0)) (h.below (bt (bel1 _ _) B0)) hle).mono ?_); rintro e w1 ⟨A1, n1, c1, rfl, h1, k1, B1⟩))
       | (go_at_call 46; ((with_reducible refine (wSigned t h1).mono ?_); rintro e w2 ⟨s2, A2, n2, c2, rfl, h2, k2, B2⟩; obtain ⟨hc, hf⟩ := bcell (bt B0 (bt B1 B2)))))
     have X := (Bx.new w false none 0 0).below (bt B0 (bt B1 B2)); exact bodyPost_ret (v := .agg #[.bool s2, .slice A2 n2 c2]) (by simp [results, Tryd.results35, go_sem, X.cell0, X.cell1]) rfl ⟨s2, A2, n2, c2, rfl, HR.out ▸ h2.st X _ _, by omega, st2 (bt (bel1 _ _) (bt B0 (bt B1 B2))) (Nat.le_refl _) _ _⟩
theorem wAdd {w : World} {A B : Option Addr} {n c m d : Nat} {s t : Bool} {x y r : Int} (h : Wr w s A n c x) (k : Wr w t B m d y) (hn : n ≤ 1073741824) (hm : m ≤ 1073741824) (hr : x + y = r) :
   Calls Tryd.prog 11 #[.agg #[.bool s, .slice A n c], .agg #[.bool t, .slice B m d]] w (W1 w (n + m + 1) r) := by
 obtain ⟨a, h, e1⟩ := h; obtain ⟨b, k, e2⟩ := k
 have HR : Hid (sg s a + sg t b = r) := Lib.hid (by rw [← hr, e1, e2])
 clear hr e1 e2
 go_enter Tryd.func11, Tryd.ntmps11
 go_wp2_with (first
   | (go_at_call 35; ((with_reducible refine (wSum s t (h.below (bel3 _ _ _ _)) (k.below (bel3 _ _ _ _)) hn hm HR.out).mono ?_); rintro e w2 ⟨s2, A2, n2, c2, rfl, h2, k2, B2⟩; obtain ⟨hc, hf⟩ := bcell B2)))
 have X : Bx w2 (w.heap.size + 2) false none 0 0 := (Bx.newAt _ (by simp) false none 0 0).below B2
 exact bodyPost_ret (v := .agg #[.bool s2, .slice A2 n2 c2]) (by simp [results, Tryd.results11, go_sem, X.cell0, X.cell1]) rfl ⟨s2, A2, n2, c2, rfl, h2.st X _ _, k2, st2 (bt (bel3 _ _ _ _) B2) (by omega) _ _⟩
theorem wSub {w : World} {A B : Option Addr} {n c m d : Nat} {s t : Bool} {x y r : Int} (h : Wr w s A n c x) (k : Wr w t B m d y) (hn : n ≤ 1073741824) (hm : m ≤ 1073741824) (hr : x - y = r) :
   Calls Tryd.prog 16 #[.agg #[.bool s, .slice A n c], .agg #[.bool t, .slice B m d]] w (W1 w (n + m + 1) r) := by
 obtain ⟨a, h, e1⟩ := h; obtain ⟨b, k, e2⟩ := k
 have HR : Hid (sg s a + sg (!t) b = r) := Lib.hid (by rw [← hr, ← e1, ← e2]; cases t <;> simp [sg] <;> omega)
 clear hr e1 e2
 go_enter Tryd.func16, Tryd.ntmps16
 go_wp2_with (first
   | (go_at_call 35; ((with_reducible refine (wSum s (!t) (h.below (bel3 _ _ _ _)) (k.below (bel3 _ _ _ _)) hn hm HR.out).mono ?_); rintro e w2 ⟨s2, A2, n2, c2, rfl, h2, k2, B2⟩; obtain ⟨hc, hf⟩ := bcell B2)))
 have X : Bx w2 (w.heap.size + 2) false none 0 0 := (Bx.newAt _ (by simp) false none 0 0).below B2
 exact bodyPost_ret (v := .agg #[.bool s2, .slice A2 n2 c2]) (by simp [results, Tryd.results16, go_sem, X.cell0, X.cell1]) rfl ⟨s2, A2, n2, c2, rfl, h2.st X _ _, k2, st2 (bt (bel3 _ _ _ _) B2) (by omega) _ _⟩
def RowIn (w : World) (a : Option Addr) (len cap : Nat) (zs : List Int) : Prop :=
 (a = none ∧ len = 0 ∧ cap = 0 ∧ zs = []) ∨
 ∃ x, a = some x ∧ len ≤ cap ∧ cap ≤ maxLen ∧ zs.length = cap ∧ (∀ i, i < zs.length → w.cell? (x.add i) = some (.int .u32 (zs.getD i 0))) ∧ ∀ n ∈ zs, (Lit.int .u32 n).wf = true
theorem RowIn.len {w : World} {a : Option Addr} {len cap : Nat} {zs : List Int} (h : RowIn w a len cap zs) : len ≤ 9223372036854775807 := by
 rcases h with ⟨_, rfl, _, _⟩ | ⟨x, _, h1, h2, _⟩
 · omega
 · unfold maxLen at h2; omega
end Go.Proofs.YtmmallhniijdfaaDoor
