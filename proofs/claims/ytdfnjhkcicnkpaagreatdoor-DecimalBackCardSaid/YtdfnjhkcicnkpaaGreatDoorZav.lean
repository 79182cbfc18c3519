/-
  Contracts and words that the statements' proofs rest on, several texts in one: Sb, Sc, Ta, Te, Tb.
-/
import Derived.Lib.OthersKept
import Derived.Lib.FrozenHead2
import Derived.Lib.UnsafeStr
import Derived.RegionTactic
import Derived.Test.YtdfnjhkcicnkpaaGreatDoorZac
import Derived.Test.YtdfnjhkcicnkpaaGreatDoorZai
import Derived.Test.YtdfnjhkcicnkpaaGreatDoorZat
/-
  What a builder's methods do (the library's Builder lies in a struct of its own), and what they leave alone.
-/
namespace Go.Proofs.YtdfnjhkcicnkpaaGreatDoor
open Go.RowKit
set_option linter.unusedVariables false
set_option maxRecDepth 100000

/-- The box b is a builder that holds the bytes l; its row is made at B or behind. -/
def Bu (w : World) (B b : Nat) (l : List UInt8) : Prop := Lib.IsBuilder 64 5 B b (Lib.byteCells l) w
/-- All blocks but the builder's and rows of bytes stand as they stood. -/
def Kp (b : Nat) (w w' : World) : Prop := Lib.OthersKept 5 (some b) w w'

theorem Bu.new (w : World) {b : Nat} (hb : w.heap.size = b) : Bu (w.alloc (.cells #[.pointer none, .slice none 0 0] 64)) b b [] := by
  subst hb
  exact Lib.fresh_isBuilder _ _ w
theorem info8 : (Tryz.prog.info? 5).map (fun i => (i.zero, i.size, i.bytes)) = some (some (.int .u8 0), 1, 1) := by kernel_rfl
theorem infoBu : (Tryz.prog.info? 62).map (fun i => i.size) = some 2 := by kernel_rfl
theorem liesBu : liesAt Tryz.prog Tryz.prog.depth 64 (2 / Tryz.prog.cellsOf 64) 0 62 1 = true := by kernel_rfl

set_option maxHeartbeats 1000000 in
theorem bCheck_used (b : Nat) (w : World) (h0 : w.cell? ⟨b, 0, none⟩ = some (.pointer (some ⟨b, 0, none⟩))) :
    Calls Tryz.prog 86 #[.pointer (some ⟨b, 0, none⟩)] w fun e w' => e = .returned (.tuple #[]) ∧ w' = w := by
  obtain ⟨j, hj, _⟩ := Option.map_eq_some_iff.1 infoBu
  go_enter Tryz.func86, Tryz.ntmps86
  go_wp2
  rw [Lib.run_neq_ptr_same w _ Tryz.underlying59 hj]
  go_wp2
  go_end0
  exact ⟨rfl, rfl⟩

set_option maxHeartbeats 1000000 in
theorem bCheck_fresh (b : Nat) (w : World) (h0 : w.cell? ⟨b, 0, none⟩ = some (.pointer none)) (hsh : w.shape? b = some (64, 2)) (hfz : w.frozen? ⟨b, 0, none⟩ = false) :
    Calls Tryz.prog 86 #[.pointer (some ⟨b, 0, none⟩)] w fun e w' => e = .returned (.tuple #[]) ∧ w' = w.setCell ⟨b, 0, none⟩ (.pointer (some ⟨b, 0, none⟩)) := by
  obtain ⟨j, hj, hjs⟩ := Option.map_eq_some_iff.1 infoBu
  go_enter Tryz.func86, Tryz.ntmps86
  go_wp2
  rw [Lib.run_to_unsafe w ⟨b, 0, none⟩ Tryz.underlying59 Tryz.underlying133 hj (by rw [hjs]; decide) hsh (Nat.zero_lt_succ 1)]
  simp only [Result.andThen]
  rw [Oper.upon_value]
  go_wp2
  rw [run_callFunc_extern Tryz.func109 (by kernel_rfl) (by kernel_rfl) (by kernel_rfl) (e := Extern.AbiNoEscape.same) (by kernel_rfl)]
  rw [Lib.run_noEscape]
  simp only [Result.andThen]
  rw [Oper.upon_value]
  go_wp2
  rw [Lib.run_from_unsafe w ⟨b, 0, none⟩ Tryz.underlying133 Tryz.underlying59 hj hsh liesBu]
  simp only [Result.andThen]
  rw [Oper.upon_value]
  go_wp2
  go_end0
  exact ⟨rfl, rfl⟩

theorem bCheck {B b : Nat} {l : List UInt8} {w : World} (h : Bu w B b l) :
    Calls Tryz.prog 86 #[.pointer (some ⟨b, 0, none⟩)] w fun e w' => e = .returned (.tuple #[]) ∧ (Lib.BuilderAt 64 5 B b (.pointer (some ⟨b, 0, none⟩)) (Lib.byteCells l) w' ∧ Below B w w' ∧ Kp b w w') := by
  rcases h with h | h
  · refine (bCheck_fresh b w h.cell0 h.shape h.frozen0).mono ?_
    rintro e w' ⟨rfl, rfl⟩
    exact ⟨rfl, h.used _, (Below.refl B w).setCell (p := ⟨b, 0, none⟩) h.1 _, (Lib.OthersKept.refl _ _ w).setCell ⟨b, 0, none⟩ rfl _⟩
  · refine (bCheck_used b w h.cell0).mono ?_
    rintro e w' ⟨rfl, rfl⟩
    exact ⟨rfl, h, Below.refl B _, Lib.OthersKept.refl _ _ _⟩

theorem own_kind {w : World} {B : Nat} {e : TypeId} {v : Value} {n : Nat} {xs : List Value} (h : w.ownsRow B e 1 v n xs) : ∀ g, v.ownBlock = some g → ∃ c fz, w.heap[g]? = some (.cells c e fz) := by
  intro g hg
  rcases h.2 with ⟨rfl, _⟩ | ⟨g', cap, cur, rfl, _, hb, _⟩
  · simp [Value.ownBlock] at hg
  · simp [Value.ownBlock] at hg
    subst hg
    exact ⟨_, _, hb⟩
/-- What a write leaves: the builder with more bytes. -/
def PW (w : World) (B b : Nat) (l : List UInt8) (v : Value) (e : Ending) (w' : World) : Prop := e = .returned v ∧ Bu w' B b l ∧ Below B w w' ∧ Kp b w w'

set_option maxHeartbeats 4000000 in
theorem bWriteByte {B b : Nat} {l : List UInt8} {w : World} (c : UInt8) (h : Bu w B b l) (hl : l.length ≤ 1000000) (hB : B ≤ w.heap.size) :
    Calls Tryz.prog 51 #[.pointer (some ⟨b, 0, none⟩), .int .u8 (c.toNat : Int)] w (PW w B b (l ++ [c]) .nilIface) := by
  obtain ⟨i0, hi, hz0, hz1, hz2⟩ := info_parts info8
  have hlen : (Lib.byteCells l).length = l.length := Lib.byteCells_length l
  go_enter Tryz.func51, Tryz.ntmps51
  go_wp2_with (go_at_call 86; refine (bCheck h).mono ?_)
  rintro e w1 ⟨rfl, h1, hb1, hk1⟩
  obtain ⟨hBb, v, hbk, hown, hne⟩ := h1
  have c0 : w1.cell? ⟨b, 0, none⟩ = some (.pointer (some ⟨b, 0, none⟩)) := by rw [Lib.cell_of_heap hbk]; rfl
  have c1 : w1.cell? ⟨b, 1, none⟩ = some v := by rw [Lib.cell_of_heap hbk]; rfl
  go_wp2_with (at_builtin; refine wpList_append_own _ rfl _ _ 60 rfl B 5 i0 (.int .u8 0) 1 1 Tryz.underlying60 hi hz0 hz1 hz2 rfl (by decide) _ _ _ rfl (hown.alloc _) ⟨w1.heap.size, 0, none⟩ 1 1 [.int .u8 (c.toNat : Int)] rfl rfl ?c1 ?c2 ?c3 ?c4 ?c5 ?_)
  case c1 =>
    intro j u hj
    match j, hj with
    | 0, hj => simp at hj; subst hj; simp [Addr.add]
  case c2 => intro u hu; simp at hu; subst hu; rfl
  case c3 => unfold maxLen; omega
  case c4 => omega
  case c5 => have := hb1.size; simp; omega
  intro v' w2 hown' hgrow _
  have hlt : b < w1.heap.size := by
    rcases Nat.lt_or_ge b w1.heap.size with h' | h'
    · exact h'
    · simp [Array.getElem?_eq_none h'] at hbk
  have hb2 : w2.heap[b]? = some (.cells #[.pointer (some ⟨b, 0, none⟩), v] 64 (0, 0)) := by
    rw [hgrow.block b (by simp; omega) (fun e => hne e.symm), Lib.alloc_old w1 _ b hlt]
    exact hbk
  have d0 : w2.cell? ⟨b, 0, none⟩ = some (.pointer (some ⟨b, 0, none⟩)) := by rw [Lib.cell_of_heap hb2]; rfl
  have d1 : w2.cell? ⟨b, 1, none⟩ = some v := by rw [Lib.cell_of_heap hb2]; rfl
  have f1 : w2.frozen? ⟨b, 1, none⟩ = false := Lib.frozen_of_heap hb2 1
  obtain ⟨g, cap, rfl⟩ : ∃ g cap, v' = .slice (some ⟨g, 0, none⟩) (l.length + 1) cap := by
    rcases hown'.2 with ⟨_, h0⟩ | ⟨g, cap, cur, hv, _⟩
    · omega
    · exact ⟨g, cap, hv⟩
  go_wp2
  go_ret
  refine ⟨rfl, ?_, ?_, ?_⟩
  · refine Or.inr (Lib.BuilderAt.put (T := 64) (e := 5) hBb hb2 (bs' := Lib.byteCells (l ++ [c])) ?_ (by decide))
    rw [show Lib.byteCells (l ++ [c]) = Lib.byteCells l ++ [.int .u8 (c.toNat : Int)] by simp [Lib.byteCells]]
    simpa [hlen] using hown'
  · exact ((hb1.alloc (by have := hb1.size; omega) _).grown hgrow (by have := hb1.size; simp; omega) (fun k hk => (hown.lt k hk).1)).setCell (p := ⟨b, 1, none⟩) hBb _
  · exact ((hk1.alloc _).grown hgrow (own_kind (hown.alloc _))).setCell ⟨b, 1, none⟩ rfl _

set_option maxHeartbeats 4000000 in
theorem bWriteString {B b : Nat} {l : List UInt8} {w : World} (m : List UInt8) (h : Bu w B b l) (hl : l.length + m.length ≤ 1000000) (hB : B ≤ w.heap.size) :
    Calls Tryz.prog 52 #[.pointer (some ⟨b, 0, none⟩), .string (st m)] w (PW w B b (l ++ m) (.tuple #[.int .i64 (m.length : Int), .nilIface])) := by
  obtain ⟨i0, hi, hz0, hz1, hz2⟩ := info_parts info8
  have hlen : (Lib.byteCells l).length = l.length := Lib.byteCells_length l
  have hsz : (st m).size = m.length := st_size m
  go_enter Tryz.func52, Tryz.ntmps52
  go_wp2_with (go_at_call 86; refine (bCheck h).mono ?_)
  rintro e w1 ⟨rfl, h1, hb1, hk1⟩
  obtain ⟨hBb, v, hbk, hown, hne⟩ := h1
  have c0 : w1.cell? ⟨b, 0, none⟩ = some (.pointer (some ⟨b, 0, none⟩)) := by rw [Lib.cell_of_heap hbk]; rfl
  have c1 : w1.cell? ⟨b, 1, none⟩ = some v := by rw [Lib.cell_of_heap hbk]; rfl
  go_wp2_with (at_builtin; refine Lib.wpList_append_own_string _ rfl _ _ 60 9 rfl B 5 i0 Tryz.underlying60 Tryz.underlying9 hi hz0 hz1 hz2 _ _ _ rfl hown (st m) rfl ?c3 ?c4 ?c5 ?_)
  case c3 => unfold maxLen; omega
  case c4 => omega
  case c5 => have := hb1.size; omega
  intro v' w2 hown' hgrow _
  have hlt : b < w1.heap.size := by
    rcases Nat.lt_or_ge b w1.heap.size with h' | h'
    · exact h'
    · simp [Array.getElem?_eq_none h'] at hbk
  have hb2 : w2.heap[b]? = some (.cells #[.pointer (some ⟨b, 0, none⟩), v] 64 (0, 0)) := by
    rw [hgrow.block b hlt (fun e => hne e.symm)]
    exact hbk
  have d0 : w2.cell? ⟨b, 0, none⟩ = some (.pointer (some ⟨b, 0, none⟩)) := by rw [Lib.cell_of_heap hb2]; rfl
  have d1 : w2.cell? ⟨b, 1, none⟩ = some v := by rw [Lib.cell_of_heap hb2]; rfl
  have f1 : w2.frozen? ⟨b, 1, none⟩ = false := Lib.frozen_of_heap hb2 1
  obtain ⟨ao, n', cap, rfl⟩ : ∃ ao n' cap, v' = .slice ao n' cap := by
    rcases hown'.2 with ⟨hv, _⟩ | ⟨g, cap, cur, hv, _⟩
    · exact ⟨_, _, _, hv⟩
    · exact ⟨_, _, _, hv⟩
  go_wp2
  go_ret2
  refine ⟨by rw [← hsz]; rfl, ?_, ?_, ?_⟩
  · refine Or.inr (Lib.BuilderAt.put (T := 64) (e := 5) hBb hb2 (bs' := Lib.byteCells (l ++ m)) ?_ (by decide))
    rw [show Lib.byteCells (l ++ m) = Lib.byteCells l ++ Lib.strCells (st m) by simp [Lib.byteCells, Lib.strCells]]
    simpa [Lib.strCells_length, hlen, hsz] using hown'
  · exact (hb1.grown hgrow (by have := hb1.size; omega) (fun k hk => (hown.lt k hk).1)).setCell (p := ⟨b, 1, none⟩) hBb _
  · exact (hk1.grown hgrow (own_kind hown)).setCell ⟨b, 1, none⟩ rfl _
end Go.Proofs.YtdfnjhkcicnkpaaGreatDoor

/-
  What a builder's String answers; limbs in rows of their own, which a builder's writes leave alone.
-/
namespace Go.Proofs.YtdfnjhkcicnkpaaGreatDoor
open Go.RowKit
set_option linter.unusedVariables false
set_option maxRecDepth 100000

set_option maxHeartbeats 4000000 in
theorem bString {B b : Nat} {l : List UInt8} {w : World} (h : Bu w B b l) (h0 : l ≠ []) :
    Calls Tryz.prog 43 #[.pointer (some ⟨b, 0, none⟩)] w fun e w' => e = .returned (.string (st l)) ∧ Below B w w' := by
  obtain ⟨p, hB, v, hbk, hown, hne⟩ : ∃ p, Lib.BuilderAt 64 5 B b p (Lib.byteCells l) w := by
    rcases h with h | h
    · exact ⟨_, h⟩
    · exact ⟨_, h⟩
  have hl0 : l.length ≠ 0 := by simpa using h0
  rw [Lib.byteCells_length] at hown
  obtain ⟨g, cap, cur, rfl, hbg, hg, hnc, hcm, hcs, htake⟩ : ∃ g cap cur, v = .slice (some ⟨g, 0, none⟩) l.length cap ∧ B ≤ g ∧ w.heap[g]? = some (.cells cur 5 (0, 0)) ∧ l.length ≤ cap ∧ cap ≤ maxLen ∧ cur.size = cap * 1 ∧ cur.toList.take (l.length * 1) = Lib.byteCells l := by
    rcases hown.2 with ⟨_, hz⟩ | ⟨g, cap, cur, hv, r⟩
    · exact absurd hz hl0
    · exact ⟨g, cap, cur, hv, r⟩
  have c1 : w.drew.cell? ⟨b, 1, none⟩ = some (.slice (some ⟨g, 0, none⟩) l.length cap) := by
    have : w.drew.heap[b]? = some (.cells #[p, .slice (some ⟨g, 0, none⟩) l.length cap] 64 (0, 0)) := hbk
    rw [Lib.cell_of_heap this]; rfl
  have hSD : (Builtin.unsafeSliceData_ #[60] 113 #[.slice (some ⟨g, 0, none⟩) l.length cap]).run Tryz.prog w.drew = .ok (.pointer (some ⟨g, 0, none⟩)) w.drew :=
    Lib.run_unsafeSliceData_row _ _ _ _ _ _ (by omega)
  have hUS : (Builtin.unsafeString_ #[113, 3] 9 #[.pointer (some ⟨g, 0, none⟩), .int .i64 l.length]).run Tryz.prog w.drew = .ok (.string ⟨l.toArray⟩) (w.drew.freeze ⟨g, 0, none⟩ l.length) := by
    refine Lib.run_unsafeString_row w.drew 113 3 9 5 Tryz.underlying113 (by kernel_rfl) g cur.size (by have hg' : w.drew.heap[g]? = some (.cells cur 5 (0, 0)) := hg; simp [World.shape?, hg']) l h0 (by omega) (by unfold maxLen at hcm; omega) ?_
    intro j x hx
    have := hown.cells (g := g) rfl j (.int .u8 x.toNat) (by simp [Lib.byteCells, hx])
    exact this
  have HG := Lib.hid (And.intro hB hbg)
  clear hB hbg hg hnc hcm hcs htake hown hne hl0 h h0 hbk
  go_enter Tryz.func43, Tryz.ntmps43
  go_wp2
  go_region
  all_goals (go_wp2; go_ret; exact ⟨rfl, Lib.below_freeze (Below.drew (Below.refl B w)) (p := ⟨g, 0, none⟩) HG.out.2 _⟩)

/-- Just the limbs of v, in a row of limbs. -/
def Nt (w : World) (A : Option Addr) (n c v : Nat) : Prop := ∃ b, Sl w b A n c (limbs v) ∧ (0 < n → ∃ cs, w.heap[b]? = some (.cells cs 70 (0, 0)))
section
variable {w w' : World} {A : Option Addr} {n c v : Nat}
theorem Nt.nm (h : Nt w A n c v) : Nm w A n c v := by
  obtain ⟨b, h, _⟩ := h
  exact ⟨b, h⟩
theorem Nt.keep (h : Nt w A n c v) (hk : ∀ (b : Nat) (cs : Array Value), w.heap[b]? = some (Obj.cells cs 70 (0, 0)) → w'.heap[b]? = w.heap[b]?) : Nt w' A n c v := by
  obtain ⟨b, h, k⟩ := h
  refine ⟨b, h.keep fun hn => ?_, fun hn => ?_⟩
  · obtain ⟨cs, e⟩ := k hn
    exact hk b cs e
  · obtain ⟨cs, e⟩ := k hn
    exact ⟨cs, (hk b cs e).trans e⟩
theorem Nt.below (h : Nt w A n c v) (hb : Below w.heap.size w w') : Nt w' A n c v := h.keep fun b cs e => hb.block b (by
  exact (Array.getElem?_eq_some_iff.1 e).1)
theorem Nt.kp {b : Nat} (h : Nt w A n c v) {x : Array Value} (hx : w.heap[b]? = some (.cells x 64 (0, 0))) (hk : Kp b w w') : Nt w' A n c v := h.keep fun k cs e => by
  rw [e]
  refine hk k _ e (fun hb => ?_) (fun c fz he => ?_)
  · cases hb
    rw [hx] at e
    simp at e
  · simp at he
theorem Bu.heap {B b : Nat} {l : List UInt8} (h : Bu w B b l) : ∃ x, w.heap[b]? = some (.cells x 64 (0, 0)) := by
  rcases h with h | h
  · obtain ⟨_, v, hb, _⟩ := h; exact ⟨_, hb⟩
  · obtain ⟨_, v, hb, _⟩ := h; exact ⟨_, hb⟩
theorem Nt.bu {B b : Nat} {l : List UInt8} (h : Nt w A n c v) (hb : Bu w B b l) (hk : Kp b w w') : Nt w' A n c v := by
  obtain ⟨x, hx⟩ := hb.heap
  exact h.kp hx hk
theorem Made.nt {W : World} {g : Nat} (h : Made W w (limbs v) g A c) : Nt w A (limbs v).length c v := ⟨g, h.1, fun hn => ⟨_, (h.2 hn).2.2⟩⟩
theorem Out.nt (h : Out w (limbs v) A c) : Nt w A (limbs v).length c v := by
  obtain ⟨b, h, k⟩ := h
  exact ⟨b, h, k⟩
end
/-- A builder stands while others are made. -/
theorem Bu.below {w w' : World} {B b : Nat} {l : List UInt8} (h : Bu w B b l) (hb : Below w.heap.size w w') : Bu w' B b l := by
  have key : ∀ p, Lib.BuilderAt 64 5 B b p (Lib.byteCells l) w → Lib.BuilderAt 64 5 B b p (Lib.byteCells l) w' := by
    intro p h
    have hlt := h.lt
    obtain ⟨hB, v, hbk, hown, hne⟩ := h
    exact ⟨hB, v, (hb.block b hlt).trans hbk, hown.kept (row := none) (grown_below hb none) (by cases hv : v.ownBlock <;> simp), hne⟩
  rcases h with h | h
  · exact Or.inl (key _ h)
  · exact Or.inr (key _ h)
theorem Kp.refl (b : Nat) (w : World) : Kp b w w := Lib.OthersKept.refl _ _ w
theorem Kp.trans {b : Nat} {a c d : World} (h : Kp b a c) (k : Kp b c d) : Kp b a d := Lib.OthersKept.trans h k
theorem Kp.of {b : Nat} {w w' : World} (h : Below w.heap.size w w') : Kp b w w' := fun k o hk _ _ => (h.block k (Array.getElem?_eq_some_iff.1 hk).1).trans hk
theorem Bu.lt {w : World} {B b : Nat} {l : List UInt8} (h : Bu w B b l) : B ≤ b ∧ b < w.heap.size := by
  rcases h with h | h
  · exact ⟨h.1, h.lt⟩
  · exact ⟨h.1, h.lt⟩

/-- The call answers limbs in a row of their own. -/
def P1N (w : World) (K v : Nat) (e : Ending) (w' : World) : Prop := ∃ A n c, e = .returned (.slice A n c) ∧ Nt w' A n c v ∧ n ≤ K ∧ Below w.heap.size w w'
def P3N (w : World) (K q r : Nat) (e : Ending) (w' : World) : Prop :=
  ∃ A n c B m d, e = .returned (.tuple #[.slice A n c, .slice B m d, .bool true]) ∧ Nt w' A n c q ∧ Nt w' B m d r ∧ n ≤ K ∧ m ≤ K ∧ Below w.heap.size w w'
section
variable {w : World} {A1 A2 : Option Addr} {n m c1 c2 a b : Nat}
theorem vMulN (h1 : Rd w A1 n c1 a) (h2 : Rd w A2 m c2 b) (hn : n ≤ 1073741824) (hm : m ≤ 1073741824) : Calls Tryz.prog 67 #[.slice A1 n c1, .slice A2 m c2] w (P1N w (n + m) (a * b)) := by
  have hl := limbs_mul_len h1.bound h2.bound
  obtain ⟨b1, xs, h1, rfl⟩ := h1
  obtain ⟨b2, ys, h2, rfl⟩ := h2
  refine (mul_any w b1 b2 A1 A2 n m c1 c2 xs ys h1 h2 (by omega) (by omega)).mono ?_
  rintro e w' ⟨g, A, c, rfl, hm, hb⟩
  exact ⟨A, _, c, rfl, hm.nt, hl, hb⟩
theorem vDivN (h1 : Rd w A1 n c1 a) (h2 : Rd w A2 m c2 b) (hn : n ≤ 1073741824) (h0 : b ≠ 0) : Calls Tryz.prog 73 #[.slice A1 n c1, .slice A2 m c2] w (P3N w n (a / b) (a % b)) := by
  have hl1 := Nat.le_trans (limbs_length_mono (Nat.div_le_self a b)) h1.limbs_le
  have hl2 := Nat.le_trans (limbs_length_mono (Nat.mod_le a b)) h1.limbs_le
  obtain ⟨b1, xs, h1, rfl⟩ := h1
  obtain ⟨b2, ys, h2, rfl⟩ := h2
  refine (div_any w b1 b2 A1 A2 n m c1 c2 xs ys h1 h2 (by omega) h0).mono ?_
  rintro e w' ⟨A3, c3, A4, c4, rfl, o3, o4, hb⟩
  exact ⟨A3, _, c3, A4, _, c4, rfl, o3.nt, o4.nt, hl1, hl2, hb⟩
end
end Go.Proofs.YtdfnjhkcicnkpaaGreatDoor

/-
  What decimal.ten, power, multiple, within do.
-/
namespace Go.Proofs.YtdfnjhkcicnkpaaGreatDoor
open Go.RowKit
set_option linter.unusedVariables false
set_option maxRecDepth 100000

theorem Nm.few {w : World} {A : Option Addr} {n c v K : Nat} (h : Nm w A n c v) (hv : v < 4294967296 ^ K) : n ≤ K := by
  have h1 := h.len
  have h2 := limbs_length_le hv
  omega
theorem limbs_one {x : Nat} (h0 : 0 < x) (h : x < 4294967296) : limbs x = [x] := by
  rw [limbs_pos (by omega), Nat.mod_eq_of_lt h, Nat.div_eq_of_lt h, limbs_zero]
theorem lit_nt (w : World) {g x : Nat} {z : Int} (hg : w.heap.size = g) (hz : z = x) (h0 : 0 < x) (h : x < 4294967296) : Nt (w.alloc (.cells #[.int .u32 z] 70)) (some ⟨g, 0, none⟩) 1 1 x := by
  subst hz; subst hg
  have hh := heap_alloc_new w (.cells #[.int .u32 (x : Int)] 70)
  refine ⟨w.heap.size, ?_, fun _ => ⟨_, hh⟩⟩
  rw [limbs_one h0 h]
  refine ⟨rfl, Nat.le_refl _, by decide, fun y hy => ?_, fun _ => ⟨0, rfl, fun k hk => ?_⟩⟩
  · simp at hy; subst hy; exact h
  · obtain rfl : k = 0 := by omega
    rw [cell_of_row _ _ _ _ _ _ hh]
    rfl
theorem ten_lt (n : Nat) : 10 ^ n < 4294967296 ^ (n + 1) := by
  have h1 : 10 ^ n ≤ 4294967296 ^ n := Nat.pow_le_pow_left (by decide) n
  have h2 : 4294967296 ^ n < 4294967296 ^ (n + 1) := Nat.pow_lt_pow_right (by decide) (by omega)
  omega
theorem few10 {w : World} {A : Option Addr} {m c n : Nat} (h : Nt w A m c (10 ^ n)) : m ≤ n + 1 := h.nm.few (ten_lt n)
theorem vTen (w : World) : Calls Tryz.prog 36 #[] w (P1N w 1 10) := by
  go_enter Tryz.func36, Tryz.ntmps36
  go_wp2
  go_ret
  exact ⟨_, _, _, rfl, lit_nt w rfl rfl (by decide) (by decide), Nat.le_refl _, bel1 _ _⟩
theorem vWithin (t : Int) (w : World) : Calls Tryz.prog 46 #[.int .i64 t] w fun e w' => e = .returned (.bool (decide (-400 ≤ t) && decide (t ≤ 400))) ∧ w' = w := by
  by_cases h1 : -400 ≤ t
  · by_cases h2 : t ≤ 400
    · have e1 : decide (-400 ≤ t) = true := by simpa using h1
      have e2 : decide (t ≤ 400) = true := by simpa using h2
      go_enter Tryz.func46, Tryz.ntmps46
      go_wp2
      go_ret
      exact ⟨by rw [e1, e2]; rfl, rfl⟩
    · have e1 : decide (-400 ≤ t) = true := by simpa using h1
      have e2 : decide (t ≤ 400) = false := by simpa using h2
      go_enter Tryz.func46, Tryz.ntmps46
      go_wp2
      go_ret
      exact ⟨rfl, rfl⟩
  · have e1 : decide (-400 ≤ t) = false := by simpa using h1
    go_enter Tryz.func46, Tryz.ntmps46
    go_wp2
    go_ret
    exact ⟨rfl, rfl⟩
theorem vMultiple {w : World} {A : Option Addr} {n c a : Nat} (h : Rd w A n c a) (hn : n ≤ 1073741824) : Calls Tryz.prog 49 #[.slice A n c] w (PB w (decide (a % 10 = 0))) := by
  go_enter Tryz.func49, Tryz.ntmps49
  go_wp2_with (first
    | (go_at_call 36; ((with_reducible refine (vTen _).mono ?_); rintro e w1 ⟨A1, n1, c1, rfl, h1, k1, B1⟩))
    | (go_at_call 73; ((with_reducible refine (vDivN (h.below B1) h1.nm.rd hn (by decide)).mono ?_); rintro e w2 ⟨A2, n2, c2, A3, n3, c3, rfl, h2, h3, k2, k3, B2⟩)))
  go_ret
  refine ⟨?_, bt B1 B2⟩
  have hp := h3.nm.pos
  congr 2
  by_cases e : a % 10 = 0
  · have : n3 = 0 := by omega
    simp [e, this]
  · have : n3 ≠ 0 := by omega
    simp [e, this]

set_option maxHeartbeats 1000000 in
theorem vPower : ∀ (n : Nat) (w : World), n ≤ 1000 → Calls Tryz.prog 48 #[.int .i64 n] w (P1N w (n + 1) (10 ^ n)) := by
  intro n
  induction n using Nat.strongRecOn with
  | _ n ih =>
    intro w hn
    by_cases h0 : n = 0
    · subst h0
      go_enter Tryz.func48, Tryz.ntmps48
      go_wp2
      go_ret
      exact ⟨_, _, _, rfl, lit_nt w rfl rfl (by decide) (by decide), Nat.le_refl _, bel1 _ _⟩
    · have IH0 := ih (n / 2) (by omega) w (by omega)
      rw [show ((n / 2 : Nat) : Int) = (n : Int) / 2 by omega] at IH0
      have IH := Lib.hid IH0
      have hsq : 10 ^ (n / 2) * 10 ^ (n / 2) = 10 ^ (n / 2 * 2) := by rw [← Nat.pow_add]; congr 1; omega
      have HS := Lib.hid hsq
      clear ih IH0 hsq
      have e0 : ((n : Int) == 0) = false := by simp; omega
      by_cases hp : n % 2 = 0
      · have e1 : ((n : Int) % 2 == 0) = true := by simp; omega
        go_enter Tryz.func48, Tryz.ntmps48
        go_wp2_with (first
          | (go_at_call 48; refine IH.out.mono ?_; rintro e w1 ⟨A1, n1, c1, rfl, h1, k1, B1⟩)
          | (go_at_call 67; ((with_reducible refine (vMulN h1.nm.rd h1.nm.rd (by omega) (by omega)).mono ?_); rintro e w2 ⟨A2, n2, c2, rfl, h2, k2, B2⟩)))
        go_ret
        rw [HS.out, show n / 2 * 2 = n by omega] at h2
        exact ⟨_, _, _, rfl, h2, few10 h2, bt B1 B2⟩
      · have e1 : ((n : Int) % 2 == 0) = false := by simp; omega
        go_enter Tryz.func48, Tryz.ntmps48
        go_wp2_with (first
          | (go_at_call 48; refine IH.out.mono ?_; rintro e w1 ⟨A1, n1, c1, rfl, h1, k1, B1⟩)
          | (go_at_call 36; ((with_reducible refine (vTen _).mono ?_); rintro e w3 ⟨A3, n3, c3, rfl, h3, k3, B3⟩))
          | (go_at_call 67; ((with_reducible refine (vMulN h1.nm.rd h1.nm.rd (by omega) (by omega)).mono ?_); rintro e w2 ⟨A2, n2, c2, rfl, h2, k2, B2⟩))
          | (go_at_call 67; ((with_reducible refine (vMulN (h2.nm.rd.below B3) h3.nm.rd (by omega) (by omega)).mono ?_); rintro e w4 ⟨A4, n4, c4, rfl, h4, k4, B4⟩)))
        go_ret
        rw [HS.out, ← Nat.pow_succ, show (n / 2 * 2).succ = n by omega] at h4
        exact ⟨_, _, _, rfl, h4, few10 h4, bt B1 (bt B2 (bt B3 B4))⟩
end Go.Proofs.YtdfnjhkcicnkpaaGreatDoor

/-
  What a builder's putPiece and putPieces put.
-/
namespace Go.Proofs.YtdfnjhkcicnkpaaGreatDoor
open Go.RowKit
set_option linter.unusedVariables false
set_option maxRecDepth 100000

theorem Pt.under {w w' : World} {B : Nat} (h : Pt w) (hg : 3 < B) (hb : Below B w w') : Pt w' := by
  obtain ⟨T, fz, h⟩ := h
  exact ⟨T, fz, (hb.block _ hg).trans h⟩
theorem Bu.drew {w : World} {B b : Nat} {l : List UInt8} (h : Bu w B b l) : Bu w.drew B b l := h
theorem sRepZ {z : Int} (c : Nat) (w : World) (hz : z = c) (hc : c ≤ 100) : Calls Tryz.prog 103 #[.string ⟨#[48]⟩, .int .i64 z] w (PS w (List.replicate c 48)) := hz ▸ sRep c w hc
theorem sFmtZ {z : Int} (u : Nat) (hz : z = u) (hu : u < 18446744073709551616) (w : World) (hP : Pt w) : Calls Tryz.prog 102 #[.int .u64 z, .int .i64 10] w (PS w (Lib.decDigits u)) := hz ▸ sFmt u hu w hP

set_option maxHeartbeats 4000000 in
theorem bPutPiece {w : World} {B b : Nat} {l : List UInt8} {A : Option Addr} {n c v : Nat} (h : Bu w B b l) (hm : Nt w A n c v) (hv : v < 1000000000) (hl : l.length ≤ 500000) (hB : B ≤ w.heap.size) (hP : Pt w) :
    Calls Tryz.prog 79 #[.pointer (some ⟨b, 0, none⟩), .slice A n c] w (PW w B b (l ++ padL 9 v) (.tuple #[])) := by
  have hpad := pad_dec 9 v (by decide) hv
  have hnd := Lib.decDigits_length v
  have hn9 : Lib.nDigits v ≤ 9 := nDig_le (k := 8) hv
  have hpos := hm.nm.pos
  obtain ⟨b', hsl, _⟩ := id hm
  obtain ⟨D, hD⟩ : ∃ D, Lib.decDigits v = D := ⟨_, rfl⟩
  obtain ⟨d, hd⟩ : ∃ d, Lib.nDigits v = d := ⟨_, rfl⟩
  rw [hD, hd] at hpad
  rw [hD, hd] at hnd
  rw [hd] at hn9
  have hDs : (st D).size = d := (st_size D).trans hnd
  have hwr : IntKind.i64.wrap (9 - (d : Int)) = ((9 - d : Nat) : Int) := by rw [IntKind.wrap_i64]; omega
  have HD := Lib.hid hD
  have HN := Lib.hid hnd
  have HPD := Lib.hid hpad
  clear hpad hD hnd hd
  by_cases h0 : v = 0
  · obtain rfl : n = 0 := by omega
    go_enter Tryz.func79, Tryz.ntmps79
    go_wp2_with fail
    refine (sFmtZ v (by omega) (by omega) _ hP).mono ?_
    rintro e w1 ⟨rfl, B1⟩
    rw [HD.out]
    have HB1 := Lib.hid B1
    have h1 := h.below B1
    have hB1 : B ≤ w1.heap.size := Nat.le_trans hB B1.size
    clear h B1
    go_wp2
    go_region_with (first
      | (go_at_call 103; refine (sRepZ (9 - d) _ (by first | rfl | exact hwr) (by omega)).mono ?_; rintro e w2 ⟨rfl, B2⟩)
      | (go_at_call 52; refine (bWriteString _ (h1.drew.below B2) (by have := HN.out; simp; omega) (Nat.le_trans hB1 B2.size)).mono ?_; rintro e w3 ⟨rfl, h3, B3, k3⟩))
    all_goals (
      go_wp2_with (go_at_call 52; refine (bWriteString D h3 (by have := HN.out; simp; omega) (Nat.le_trans hB1 (Nat.le_trans B2.size B3.size))).mono ?_; rintro e w4 ⟨rfl, h4, B4, k4⟩)
      go_end0
      refine ⟨rfl, ?_, (((HB1.out.mono hB).drew.trans (B2.mono hB1)).trans B3).trans B4, (((Kp.of HB1.out).trans (Kp.of ((Below.refl _ _).drew.trans B2))).trans k3).trans k4⟩
      rw [List.append_assoc, HPD.out] at h4
      exact h4)
  · obtain rfl : n = 1 := by
      have h1 := hm.nm.len
      rw [limbs_one (by omega) (by omega)] at h1
      simpa using h1.symm
    obtain ⟨o, rfl, hcell⟩ := hsl.at (by omega)
    have hc0 := hcell 0 (by omega)
    rw [limbs_one (by omega) (by omega)] at hc0
    simp only [Nat.add_zero, List.getD_cons_zero] at hc0
    clear hcell
    go_enter Tryz.func79, Tryz.ntmps79
    go_wp2_with fail
    refine (sFmtZ v (by omega) (by omega) _ hP).mono ?_
    rintro e w1 ⟨rfl, B1⟩
    rw [HD.out]
    clear hc0 hsl hm hpos
    have HB1 := Lib.hid B1
    have h1 := h.below B1
    have hB1 : B ≤ w1.heap.size := Nat.le_trans hB B1.size
    clear h B1
    go_wp2
    go_region_with (first
      | (go_at_call 103; refine (sRepZ (9 - d) _ (by first | rfl | exact hwr) (by omega)).mono ?_; rintro e w2 ⟨rfl, B2⟩)
      | (go_at_call 52; refine (bWriteString _ (h1.drew.below B2) (by have := HN.out; simp; omega) (Nat.le_trans hB1 B2.size)).mono ?_; rintro e w3 ⟨rfl, h3, B3, k3⟩))
    all_goals (
      go_wp2_with (go_at_call 52; refine (bWriteString D h3 (by have := HN.out; simp; omega) (Nat.le_trans hB1 (Nat.le_trans B2.size B3.size))).mono ?_; rintro e w4 ⟨rfl, h4, B4, k4⟩)
      go_end0
      refine ⟨rfl, ?_, (((HB1.out.mono hB).drew.trans (B2.mono hB1)).trans B3).trans B4, (((Kp.of HB1.out).trans (Kp.of ((Below.refl _ _).drew.trans B2))).trans k3).trans k4⟩
      rw [List.append_assoc, HPD.out] at h4
      exact h4)
end Go.Proofs.YtdfnjhkcicnkpaaGreatDoor

/-
  What decimal.without does: limbs without their factors.
-/
namespace Go.Proofs.YtdfnjhkcicnkpaaGreatDoor
open Go.RowKit
set_option linter.unusedVariables false
set_option maxRecDepth 100000

theorem sq_pow (p k : Nat) : (p * p) ^ k = p ^ (2 * k) := by rw [← Nat.pow_two, ← Nat.pow_mul]
theorem wo_even {v p q0 q1 l k : Nat} (h1 : v = q0 * p) (h2 : q0 = q1 * (p * p) ^ k) (h3 : q1 = l * p) : v = l * p ^ (2 * k + 2) := by
  subst h3; subst h2; subst h1
  rw [sq_pow, Nat.pow_add, Nat.pow_two]
  simp only [Nat.mul_assoc, Nat.mul_left_comm, Nat.mul_comm]
theorem wo_odd {v p q0 q1 k : Nat} (h1 : v = q0 * p) (h2 : q0 = q1 * (p * p) ^ k) : v = q1 * p ^ (2 * k + 1) := by
  subst h2; subst h1
  rw [sq_pow, Nat.pow_add, Nat.pow_one, Nat.mul_assoc]
theorem wo_len {v p q k n : Nat} (hv : v = q * p ^ k) (h0 : v ≠ 0) (hp : 2 ≤ p) (hn : v < 4294967296 ^ n) : k < 32 * n := by
  have hq : 1 ≤ q := by
    rcases Nat.eq_zero_or_pos q with e | e
    · subst e; simp at hv; omega
    · exact e
  have h1 : 2 ^ k ≤ p ^ k := Nat.pow_le_pow_left hp k
  have h2 : 1 * p ^ k ≤ q * p ^ k := Nat.mul_le_mul_right _ hq
  rw [show (4294967296 : Nat) = 2 ^ 32 by decide, ← Nat.pow_mul] at hn
  exact (Nat.pow_lt_pow_iff_right (by decide : 1 < 2)).1 (by omega)
theorem le_of_mod {v p : Nat} (h0 : v ≠ 0) (h : v % p = 0) : p ≤ v := Nat.le_of_dvd (by omega) (Nat.dvd_of_mod_eq_zero h)
theorem div_mul' {v p : Nat} (h : v % p = 0) : v = v / p * p := by
  have := Nat.div_add_mod v p
  rw [h, Nat.mul_comm] at this
  omega
theorem sq_not {q p : Nat} (h : q % (p * p) ≠ 0) (hq : q % p = 0) : q / p % p ≠ 0 := by
  intro e
  apply h
  have h1 := div_mul' hq
  have h2 := div_mul' e
  rw [h1, h2, Nat.mul_assoc]
  exact Nat.mul_mod_left _ _

/-- Limbs without their factors p, and how many these were. -/
def PWo (w : World) (n v p : Nat) (e : Ending) (w' : World) : Prop :=
  ∃ A m c q k, e = .returned (.tuple #[.slice A m c, .int .i64 ((k : Nat) : Int)]) ∧ Nm w' A m c q ∧ m ≤ n ∧ v = q * p ^ k ∧ q % p ≠ 0 ∧ k ≤ 32 * n ∧ Below w.heap.size w w'

set_option maxHeartbeats 4000000 in
theorem vWithout (N : Nat) (hN : N ≤ 1000000) : ∀ (v : Nat) (w : World) (A B : Option Addr) (n c m d p : Nat), Nm w A n c v → Nm w B m d p → v ≠ 0 → 2 ≤ p → n ≤ N →
    Calls Tryz.prog 34 #[.slice A n c, .slice B m d] w (PWo w n v p) := by
  intro v
  induction v using Nat.strongRecOn with
  | _ v ih =>
    intro w A B n c m d p h k h0 hp hn
    have hbd := h.rd.bound
    have hm2 : v / p < v := Nat.div_lt_self (by omega) (by omega)
    by_cases hr : v % p = 0
    · have hpv := le_of_mod h0 hr
      have hmn : m ≤ n := k.few (by omega)
      have hq0 : v / p ≠ 0 := by
        intro e
        have := div_mul' hr
        rw [e] at this
        simp at this
        omega
      have IH := Lib.hid (ih (v / p) hm2)
      have HB := Lib.hid hbd
      have HR := Lib.hid hr
      have HV := Lib.hid h0
      clear ih hbd hm2 hr hpv h0
      have hpp : 2 ≤ p * p := Nat.le_trans hp (Nat.le_mul_of_pos_left p (by omega))
      have HPP := Lib.hid hpp
      clear hpp
      go_enter Tryz.func34, Tryz.ntmps34
      go_wp2_with (first
        | (go_at_call 73; ((with_reducible refine (vDivN h.rd k.rd (by omega) (by omega)).mono ?_); rintro e w1 ⟨A1, n1, c1, A2, n2, c2, rfl, h1, h2, k1, k2, B1⟩; obtain rfl : n2 = 0 := by (have hz := h2.nm.pos; rw [HR.out] at hz; omega)))
        | (go_at_call 67; ((with_reducible refine (vMulN (k.rd.below B1) (k.rd.below B1) (by omega) (by omega)).mono ?_); rintro e w2 ⟨A3, n3, c3, rfl, h3, k3, B2⟩))
        | (go_at_call 34; ((with_reducible refine (IH.out _ _ _ _ _ _ _ _ (h1.nm.below B2) h3.nm hq0 HPP.out (by omega)).mono ?_); rintro e w3 ⟨A4, n4, c4, q1, k1', rfl, h4, k4, e4, f4, g4, B3⟩)))
      have hq1 : q1 ≠ 0 := by rintro rfl; simp at f4
      refine (vDivN h4.rd (k.rd.below (bt B1 (bt B2 B3))) (by omega) (by omega)).mono ?_
      rintro e w4 ⟨A5, n5, c5, A6, n6, c6, rfl, h5, h6, k5, k6, B4⟩
      have BB := Lib.hid (bt B1 (bt B2 (bt B3 B4)))
      have E1 := div_mul' HR.out
      have hz := h6.nm.pos
      by_cases hq : q1 % p = 0
      · have E2 := wo_even E1 e4 (div_mul' hq)
        have hlen := wo_len E2 HV.out hp HB.out
        have F2 := Lib.hid (sq_not f4 hq)
        have HE := Lib.hid E2
        obtain rfl : n6 = 0 := by omega
        clear E2 E1 hq f4 e4 hz HR HB HV hq0 hq1
        go_wp2
        go_ret2
        exact ⟨A5, n5, c5, _, 2 * k1' + 2, rfl, h5.nm, by omega, HE.out, F2.out, by omega, BB.out⟩
      · have E2 := wo_odd E1 e4
        have hlen := wo_len E2 HV.out hp HB.out
        have HE := Lib.hid E2
        have HQ := Lib.hid hq
        have hz6 : ((n6 : Int) == 0) = false := by simp; omega
        clear E2 E1 hq f4 e4 hz HR HB HV hq0 hq1
        go_wp2
        go_ret2
        exact ⟨A4, n4, c4, _, 2 * k1' + 1, rfl, h4.below B4, by omega, HE.out, HQ.out, by omega, BB.out⟩
    · have HR := Lib.hid hr
      clear ih hm2 hbd
      have hrp : 0 < v % p := by omega
      clear hr
      go_enter Tryz.func34, Tryz.ntmps34
      go_wp2_with (first
        | (go_at_call 73; ((with_reducible refine (vDivN h.rd k.rd (by omega) (by omega)).mono ?_); rintro e w1 ⟨A1, n1, c1, A2, n2, c2, rfl, h1, h2, k1, k2, B1⟩; have hz : 0 < n2 := h2.nm.pos.2 hrp)))
      go_ret2
      exact ⟨A, n, c, v, 0, rfl, h.below B1, Nat.le_refl _, by simp, HR.out, by omega, B1⟩
end Go.Proofs.YtdfnjhkcicnkpaaGreatDoor
