/-
  What nat.addTo, nat.addTimes and nat.takeFrom do to limbs of the call's own.
-/
import Derived.Test.YtbendmhcimadpaaCut
import Derived.Test.YtbendmhcimadpaaBits
namespace Go.Proofs.Ytbendmhcimadpaa
open Go.RowKit
set_option linter.unusedVariables false

/-- Limbs from place o on of block g have turned to zs, and nothing else of what was there has turned. -/
def Turned (w : World) (g o : Nat) (l zs : List Nat) (w' : World) : Prop := Own w' g (mid l o zs) ∧ w.grownBy w' (some g) ∧ Lim zs

theorem Turned.step {w wr : World} {g o : Nat} {l zs : List Nat} (h : Turned w g o l zs wr) (hk : o + zs.length < l.length) {x : Nat} (hx : x < 4294967296) :
    Turned w g o l (zs ++ [x]) (wr.setCell ⟨g, o + zs.length, none⟩ (.int .u32 (x : Int))) :=
  ⟨by have := h.1.set (o + zs.length) x; rwa [mid_set hk] at this, grown_set h.2.1 _, h.2.2.append (Lim.cons hx Lim.nil)⟩

theorem Turned.cell {w wr : World} {g o : Nat} {l zs : List Nat} (h : Turned w g o l zs wr) (hk : o + zs.length < l.length) : wr.cell? ⟨g, o + zs.length, none⟩ = some (.int .u32 (l.getD (o + zs.length) 0 : Nat)) := by
  rw [h.1.cell (by rw [mid_length (by omega)]; omega), mid_getD hk]

def AddInv (w : World) (g o : Nat) (l ys : List Nat) (k cy : Nat) (wr : World) : Prop :=
  ∃ zs, zs.length = k ∧ Turned w g o l zs wr ∧ cy ≤ 1 ∧ val zs + cy * 4294967296 ^ k = val ((l.drop o).take k) + val (ys.take k)

theorem AddInv.step {w wr : World} {g o : Nat} {l ys : List Nat} {k cy x y : Nat} (h : AddInv w g o l ys k cy wr) (hk : o + k < l.length) (hx : l.getD (o + k) 0 = x) (hy : ys.getD k 0 = y) (hl : Lim l) (hly : Lim ys) :
    AddInv w g o l ys (k + 1) ((x + y + cy) / 4294967296) (wr.setCell ⟨g, o + k, none⟩ (.int .u32 (((x + y + cy) % 4294967296 : Nat) : Int))) := by
  obtain ⟨zs, rfl, ht, hc, hv⟩ := h
  have bx : x < 4294967296 := by rw [← hx]; exact hl.getD _
  have by' : y < 4294967296 := by rw [← hy]; exact hly.getD _
  refine ⟨zs ++ [(x + y + cy) % 4294967296], by simp, ht.step hk (by omega), by omega, ?_⟩
  rw [val_snoc, val_take_more, val_take_more, hy, getD_drop, hx, Nat.pow_succ]
  exact add_step hv

/-- What addTo leaves. -/
def AddPost (w : World) (g o n : Nat) (l ys : List Nat) (e : Ending) (w' : World) : Prop :=
  e = .returned (.tuple #[]) ∧ ∃ zs cy, zs.length = n ∧ Turned w g o l zs w' ∧ cy ≤ 1 ∧ val zs + cy * 4294967296 ^ n = val ((l.drop o).take n) + val ys

theorem AddInv.done {w wr : World} {g o n : Nat} {l ys : List Nat} {cy : Nat} (h : AddInv w g o l ys n cy wr) (hm : ys.length ≤ n) : AddPost w g o n l ys (.returned (.tuple #[])) wr := by
  obtain ⟨zs, hz, ht, hc, hv⟩ := h
  exact ⟨rfl, zs, cy, hz, ht, hc, by rw [hv, val_take_all hm]⟩

theorem mid_more {l zs : List Nat} {o n : Nat} (h : o + n ≤ l.length) (hz : zs.length ≤ n) : mid l o (zs ++ (l.drop (o + zs.length)).take (n - zs.length)) = mid l o zs := by
  unfold mid
  have e : (zs ++ (l.drop (o + zs.length)).take (n - zs.length)).length = n := by simp; omega
  rw [e, List.append_assoc, List.append_assoc, List.append_assoc]
  congr 2
  have : l.drop (o + n) = (l.drop (o + zs.length)).drop (n - zs.length) := by rw [List.drop_drop]; congr 1; omega
  rw [this, List.take_append_drop]

theorem val_seg_split {l : List Nat} {o n k : Nat} (h : o + n ≤ l.length) (hk : k ≤ n) : val ((l.drop o).take n) = val ((l.drop o).take k) + 4294967296 ^ k * val ((l.drop (o + k)).take (n - k)) := by
  have h1 := val_take_drop ((l.drop o).take n) (k := k) (by simp; omega)
  rw [List.take_take, Nat.min_eq_left hk, List.drop_take, List.drop_drop] at h1
  exact h1

theorem AddInv.early {w wr : World} {g o n k : Nat} {l ys : List Nat} (h : AddInv w g o l ys k 0 wr) (hl : Lim l) (hn : o + n ≤ l.length) (hk : k ≤ n) (hm : ys.length ≤ k) : AddPost w g o n l ys (.returned (.tuple #[])) wr := by
  obtain ⟨zs, rfl, ht, hc, hv⟩ := h
  refine ⟨rfl, zs ++ (l.drop (o + zs.length)).take (n - zs.length), 0, by simp; omega, ⟨by rw [mid_more hn hk]; exact ht.1, ht.2.1, ht.2.2.append ((hl.drop _).take _)⟩, by omega, ?_⟩
  rw [val_append, val_seg_split hn hk]
  rw [val_take_all hm] at hv
  omega

set_option maxHeartbeats 1000000 in
theorem addTo_any (w : World) (g o n c b m c2 : Nat) (A : Option Addr) (l ys : List Nat) (hg : Own w g l) (hl : Lim l) (hn : o + n ≤ l.length) (hbl : l.length ≤ 1099511627776) (h2 : Sl w b A m c2 ys) (hne : 0 < m → b ≠ g) (hm : m ≤ n) :
    Calls Try.prog 60 #[.slice (some ⟨g, o, none⟩) n c, .slice A m c2] w (AddPost w g o n l ys) := by
  have hl2 := Lib.hid h2.len
  go_enter Try.func60, Try.ntmps60
  go_wp2
  go_loopw [4, 9] (fun u i wr => ∃ k cy : Nat, k ≤ n ∧ i = .int .i64 k ∧ u = .int .u32 cy ∧ AddInv w g o l ys k cy wr) (fun _ i _ => n - (intOf i).toNat)
  case atStart => exact ⟨0, 0, Nat.zero_le _, rfl, rfl, [], rfl, ⟨by rw [mid_nil]; exact hg, grown_refl _ _, Lim.nil⟩, by omega, by simp [val]⟩
  case round =>
    obtain ⟨k, cy, hk, rfl, rfl, hI⟩ := hrel
    have HI := Lib.hid hI
    clear hI
    by_cases hlt : k < n
    · have HI' := HI
      obtain ⟨zs, hz, ht, hcy, -⟩ := HI'
      have hcell := ht.cell (by omega)
      rw [hz] at hcell
      have hfr : wr.frozen? ⟨g, o + k, none⟩ = false := ht.1.frozen _
      have bx := hl.getD (o + k)
      have HS := Lib.hid (fun y hy => HI.out.step (y := y) (by omega) rfl hy hl h2.lim)
      have hsl := h2.grown ht.2.1 (fun h => by simpa using hne h)
      clear ht hz hg
      obtain ⟨x, hx⟩ : ∃ x, l.getD (o + k) 0 = x := ⟨_, rfl⟩
      rw [hx] at hcell bx HS
      clear hx
      by_cases hkm : k < m
      · obtain ⟨o2, rfl, hc2⟩ := hsl.at (by omega)
        have hcell2 := hc2 k hkm
        have by' := h2.lim.getD k
        have HS' := Lib.hid (HS.out _ rfl)
        clear HS hc2
        revert hcell2 by' HS'
        generalize ys.getD k 0 = y
        intro hcell2 by' HS'
        go_wp2_with (go_at_call 73; ((with_reducible refine (add32_any x y cy bx by' hcy _).mono ?_); rintro e w' ⟨rfl, rfl⟩))
        go_roundw
        case rel => exact ⟨k + 1, _, by omega, by go_num, rfl, HS'.out⟩
        case measure => simp [intOf]; omega
      · have HS' := Lib.hid (HS.out 0 (getD_beyond (by rw [hl2.out]; omega)))
        clear HS
        by_cases hc0 : cy = 0
        · subst hc0
          go_wp2
          refine bodyPost_ret (results_none rfl _ _ _) rfl ?_
          exact HI.out.early hl hn hk (by rw [hl2.out]; omega)
        · have hc0' : ((cy : Int) == 0) = false := by simpa using hc0
          go_wp2_with (go_at_call 73; ((with_reducible refine (add32_zero x cy bx hcy _).mono ?_); rintro e w' ⟨rfl, rfl⟩))
          go_roundw
          case rel => exact ⟨k + 1, _, by omega, by go_num, rfl, HS'.out⟩
          case measure => simp [intOf]; omega
    · go_wp2
      go_end0
      have hkn : k = n := by omega
      subst hkn
      exact HI.out.done (by rw [hl2.out]; omega)
def MulInv (w : World) (g o : Nat) (l ys : List Nat) (f k cy : Nat) (wr : World) : Prop :=
  ∃ zs, zs.length = k ∧ Turned w g o l zs wr ∧ cy < 4294967296 ∧ val zs + cy * 4294967296 ^ k = val ((l.drop o).take k) + f * val (ys.take k)

theorem prod_lt {y f : Nat} (hy : y < 4294967296) (hf : f < 4294967296) : y * f ≤ 4294967295 * 4294967295 := Nat.mul_le_mul (by omega) (by omega)

theorem wrap_u64_nat (s : Nat) (h : s < 18446744073709551616) : IntKind.u64.wrap (s : Int) = s := by
  rw [show IntKind.u64.wrap (s : Int) = (s : Int) % 18446744073709551616 from by simp [IntKind.wrap, IntKind.bits, IntKind.signed]]
  omega

/-- The three sums of a step, none of which wraps. -/
theorem mul_sums {y f x cy : Nat} (hy : y < 4294967296) (hf : f < 4294967296) (hx : x < 4294967296) (hc : cy < 4294967296) :
    ∃ p q s : Nat, Hid (s = y * f + x + cy) ∧ Hid (s / 4294967296 < 4294967296) ∧ IntKind.u64.wrap ((y : Int) * f) = p ∧ IntKind.u64.wrap ((p : Int) + x) = q ∧ IntKind.u64.wrap ((q : Int) + cy) = s := by
  have hp := prod_lt hy hf
  refine ⟨y * f, y * f + x, y * f + x + cy, rfl, ?_, ?_, ?_, ?_⟩
  · show _ < _; omega
  · have := wrap_u64_nat (y * f) (by omega); simpa using this
  · have := wrap_u64_nat (y * f + x) (by omega); simpa using this
  · have := wrap_u64_nat (y * f + x + cy) (by omega); simpa using this

theorem MulInv.step {w wr : World} {g o : Nat} {l ys : List Nat} {f k cy x y s : Nat} (h : MulInv w g o l ys f k cy wr) (hk : o + k < l.length) (hx : l.getD (o + k) 0 = x) (hy : ys.getD k 0 = y)
    (hs : s = y * f + x + cy) (hb : s / 4294967296 < 4294967296) (q : Nat) :
    MulInv w g o l ys f (k + 1) (s / 4294967296) ((wr.drewN q).setCell ⟨g, o + k, none⟩ (.int .u32 ((s % 4294967296 : Nat) : Int))) := by
  obtain ⟨zs, rfl, ht, hc, hv⟩ := h
  have ht' : Turned w g o l zs (wr.drewN q) := ⟨ht.1, grown_drewN ht.2.1 q, ht.2.2⟩
  refine ⟨zs ++ [s % 4294967296], by simp, ht'.step hk (by omega), hb, ?_⟩
  rw [val_snoc, val_take_more, val_take_more, hy, getD_drop, hx, Nat.pow_succ, hs]
  exact mul_step hv

/-- What addTimes leaves. -/
def MulPost (w : World) (g o n : Nat) (l ys : List Nat) (f : Nat) (e : Ending) (w' : World) : Prop :=
  ∃ cy : Nat, e = .returned (.int .u32 (cy : Int)) ∧ ∃ zs, zs.length = n ∧ Turned w g o l zs w' ∧ cy < 4294967296 ∧ val zs + cy * 4294967296 ^ n = val ((l.drop o).take n) + f * val ys

set_option maxHeartbeats 1000000 in
theorem addTimes_any (w : World) (g o n c b c2 f : Nat) (A : Option Addr) (l ys : List Nat) (hg : Own w g l) (hl : Lim l) (hn : o + n ≤ l.length) (hbl : l.length ≤ 1099511627776) (h2 : Sl w b A n c2 ys) (hne : 0 < n → b ≠ g) (hf : f < 4294967296) :
    Calls Try.prog 65 #[.slice (some ⟨g, o, none⟩) n c, .slice A n c2, .int .u32 (f : Int)] w (MulPost w g o n l ys f) := by
  have hl2 := Lib.hid h2.len
  go_enter Try.func65, Try.ntmps65
  go_wp2
  go_loopw [7, 12] (fun u i wr => ∃ k cy : Nat, k ≤ n ∧ i = .int .i64 k ∧ u = .int .u64 cy ∧ MulInv w g o l ys f k cy wr) (fun _ i _ => n - (intOf i).toNat)
  case atStart => exact ⟨0, 0, Nat.zero_le _, rfl, rfl, [], rfl, ⟨by rw [mid_nil]; exact hg, grown_refl _ _, Lim.nil⟩, by omega, by simp [val]⟩
  case round =>
    obtain ⟨k, cy, hk, rfl, rfl, hI⟩ := hrel
    have HI := Lib.hid hI
    clear hI
    by_cases hlt : k < n
    · have HI' := HI
      obtain ⟨zs, hz, ht, hcy, -⟩ := HI'
      have hcell := ht.cell (by omega)
      rw [hz] at hcell
      have hfr : wr.frozen? ⟨g, o + k, none⟩ = false := ht.1.frozen _
      have bx := hl.getD (o + k)
      have hsl := h2.grown ht.2.1 (fun h => by simpa using hne h)
      clear ht hz hg
      obtain ⟨x, hx⟩ : ∃ x, l.getD (o + k) 0 = x := ⟨_, rfl⟩
      rw [hx] at hcell bx
      have HX := Lib.hid hx
      clear hx
      obtain ⟨o2, rfl, hc2⟩ := hsl.at (by omega)
      have hcell2 := hc2 k hlt
      have by' := h2.lim.getD k
      clear hc2
      obtain ⟨y, hy⟩ : ∃ y, ys.getD k 0 = y := ⟨_, rfl⟩
      rw [hy] at hcell2 by'
      have HY := Lib.hid hy
      clear hy
      obtain ⟨p, q, s, HS, HB, e1, e2, e3⟩ := mul_sums by' hf bx hcy
      go_wp2
      go_quiet (fail)
      go_wp2
      go_roundw
      case rel => exact ⟨k + 1, s / 4294967296, by omega, by go_num, by go_num, HI.out.step (by omega) HX.out HY.out HS.out HB.out _⟩
      case measure => simp [intOf]; omega
    · obtain ⟨zs, hz, ht, hcy, hv⟩ := HI.out
      have HV := Lib.hid hv
      clear hv
      have hkn : k = n := by omega
      subst hkn
      go_wp2
      go_ret
      refine ⟨cy, ret_int (by omega), zs, hz, ht, hcy, ?_⟩
      rw [HV.out, val_take_all (xs := ys) (by rw [hl2.out]; omega)]
/-- One step of a difference. -/
theorem take_step {p A Y v x y f ov bo s a b : Nat} (h : A + (ov + bo) * p = v + f * Y) (hs : s = ov + y * f) (ha : x + b * 4294967296 = a + s % 4294967296 + bo) :
    (A + p * x) + (s / 4294967296 + b) * (p * 4294967296) = (v + p * a) + f * (Y + p * y) := by
  have e := Nat.mod_add_div s 4294967296
  have e2 : p * (x + b * 4294967296) = p * (a + s % 4294967296 + bo) := by rw [ha]
  have e3 : p * (s % 4294967296 + 4294967296 * (s / 4294967296)) = p * (ov + y * f) := by rw [e, hs]
  grind

def TakeInv (w : World) (g o : Nat) (l ys : List Nat) (f k ov bo : Nat) (wr : World) : Prop :=
  ∃ zs, zs.length = k ∧ Turned w g o l zs wr ∧ ov < 4294967296 ∧ bo ≤ 1 ∧ val ((l.drop o).take k) + (ov + bo) * 4294967296 ^ k = val zs + f * val (ys.take k)

theorem bor_eq {x t bo : Nat} (hx : x < 4294967296) (ht : t < 4294967296) (hb : bo ≤ 1) : x + bor x t bo * 4294967296 = (x + 4294967296 - t - bo) % 4294967296 + t + bo := by
  unfold bor
  split <;> omega

theorem TakeInv.step {w wr : World} {g o : Nat} {l ys : List Nat} {f k ov bo x y s t u : Nat} (h : TakeInv w g o l ys f k ov bo wr) (hk : o + k < l.length) (hx : l.getD (o + k) 0 = x) (hl : Lim l) (hy : ys.getD k 0 = y)
    (hs : s = ov + y * f) (ht : t = s % 4294967296) (hu : u = s / 4294967296) (hb : s / 4294967296 < 4294967296) :
    TakeInv w g o l ys f (k + 1) u (bor x t bo) (wr.setCell ⟨g, o + k, none⟩ (.int .u32 (((x + 4294967296 - t - bo) % 4294967296 : Nat) : Int))) := by
  obtain ⟨zs, rfl, hT, hov, hbo, hv⟩ := h
  subst ht; subst hu
  have bx : x < 4294967296 := by rw [← hx]; exact hl.getD _
  refine ⟨zs ++ [(x + 4294967296 - s % 4294967296 - bo) % 4294967296], by simp, hT.step hk (by omega), hb, bor_le _ _ _, ?_⟩
  rw [val_snoc, val_take_more, val_take_more, hy, getD_drop, hx, Nat.pow_succ]
  exact take_step hv hs (bor_eq bx (by omega) hbo)

/-- What takeFrom leaves. -/
def TakePost (w : World) (g o n : Nat) (l ys : List Nat) (f : Nat) (e : Ending) (w' : World) : Prop :=
  ∃ q : Nat, e = .returned (.bool (decide (0 < q))) ∧ ∃ zs, zs.length = n ∧ Turned w g o l zs w' ∧ val ((l.drop o).take n) + q * 4294967296 ^ n = val zs + f * val ys

theorem TakeInv.early {w wr : World} {g o n k : Nat} {l ys : List Nat} {f : Nat} (h : TakeInv w g o l ys f k 0 0 wr) (hl : Lim l) (hn : o + n ≤ l.length) (hk : k ≤ n) (hm : ys.length ≤ k) : TakePost w g o n l ys f (.returned (.bool false)) wr := by
  obtain ⟨zs, rfl, ht, _, _, hv⟩ := h
  refine ⟨0, rfl, zs ++ (l.drop (o + zs.length)).take (n - zs.length), by simp; omega, ⟨by rw [mid_more hn hk]; exact ht.1, ht.2.1, ht.2.2.append ((hl.drop _).take _)⟩, ?_⟩
  rw [val_append, val_seg_split hn hk]
  rw [val_take_all hm] at hv
  omega

theorem TakeInv.done {w wr : World} {g o n : Nat} {l ys : List Nat} {f ov bo : Nat} (h : TakeInv w g o l ys f n ov bo wr) (hm : ys.length ≤ n) {t : Bool} (ht : t = decide (0 < ov + bo)) : TakePost w g o n l ys f (.returned (.bool t)) wr := by
  obtain ⟨zs, hz, hT, _, _, hv⟩ := h
  exact ⟨ov + bo, by rw [ht], zs, hz, hT, by rw [hv, val_take_all hm]⟩

/-- The sums of a step, none of which wraps. -/
theorem take_sums {y f ov : Nat} (hy : y < 4294967296) (hf : f < 4294967296) (hc : ov < 4294967296) :
    ∃ p s t u : Nat, Hid (s = ov + y * f) ∧ Hid (t = s % 4294967296) ∧ Hid (u = s / 4294967296) ∧ Hid (s / 4294967296 < 4294967296) ∧ t < 4294967296 ∧ IntKind.u64.wrap ((y : Int) * f) = p ∧ IntKind.u64.wrap ((ov : Int) + p) = s ∧
      (s : Int) % 4294967296 = t ∧ (s : Int) / 4294967296 = u := by
  have hp := prod_lt hy hf
  refine ⟨y * f, ov + y * f, (ov + y * f) % 4294967296, (ov + y * f) / 4294967296, rfl, rfl, rfl, ?_, by omega, ?_, ?_, by omega, by omega⟩
  · show _ < _; omega
  · have := wrap_u64_nat (y * f) (by omega); simpa using this
  · have := wrap_u64_nat (ov + y * f) (by omega); simpa using this

set_option maxHeartbeats 1000000 in
theorem takeFrom_any (w : World) (g o n c b m c2 f : Nat) (A : Option Addr) (l ys : List Nat) (hg : Own w g l) (hl : Lim l) (hn : o + n ≤ l.length) (hbl : l.length ≤ 1099511627776) (h2 : Sl w b A m c2 ys) (hne : 0 < m → b ≠ g) (hm : m ≤ n) (hf : f < 4294967296) :
    Calls Try.prog 61 #[.slice (some ⟨g, o, none⟩) n c, .slice A m c2, .int .u32 (f : Int)] w (TakePost w g o n l ys f) := by
  have hl2 := Lib.hid h2.len
  go_enter Try.func61, Try.ntmps61
  go_wp2
  go_loopw [7, 8, 12] (fun v u i wr => ∃ k ov bo : Nat, k ≤ n ∧ i = .int .i64 k ∧ v = .int .u64 ov ∧ u = .int .u32 bo ∧ TakeInv w g o l ys f k ov bo wr) (fun _ _ i _ => n - (intOf i).toNat)
  case atStart => exact ⟨0, 0, 0, Nat.zero_le _, rfl, rfl, rfl, [], rfl, ⟨by rw [mid_nil]; exact hg, grown_refl _ _, Lim.nil⟩, by omega, by omega, by simp [val]⟩
  case round =>
    obtain ⟨k, ov, bo, hk, rfl, rfl, rfl, hI⟩ := hrel
    have HI := Lib.hid hI
    clear hI
    by_cases hlt : k < n
    · have HI' := HI
      obtain ⟨zs, hz, ht, hov, hbo, -⟩ := HI'
      have hcell := ht.cell (by omega)
      rw [hz] at hcell
      have hfr : wr.frozen? ⟨g, o + k, none⟩ = false := ht.1.frozen _
      have bx := hl.getD (o + k)
      have hsl := h2.grown ht.2.1 (fun h => by simpa using hne h)
      clear ht hz hg
      obtain ⟨x, hx⟩ : ∃ x, l.getD (o + k) 0 = x := ⟨_, rfl⟩
      rw [hx] at hcell bx
      have HX := Lib.hid hx
      clear hx
      by_cases hkm : k < m
      · obtain ⟨o2, rfl, hc2⟩ := hsl.at (by omega)
        have hcell2 := hc2 k hkm
        have by' := h2.lim.getD k
        clear hc2
        obtain ⟨y, hy⟩ : ∃ y, ys.getD k 0 = y := ⟨_, rfl⟩
        rw [hy] at hcell2 by'
        have HY := Lib.hid hy
        clear hy
        obtain ⟨p, s, t, u, HS, HT, HU, HB, bt, e1, e2, e3, e4⟩ := take_sums by' hf hov
        go_wp2_with (go_at_call 74; ((with_reducible refine (sub32_any x t bo bx bt hbo _).mono ?_); rintro e w' ⟨rfl, rfl⟩))
        go_roundw
        case rel => exact ⟨k + 1, u, bor x t bo, by omega, by go_num, rfl, rfl, HI.out.step (by omega) HX.out hl HY.out HS.out HT.out HU.out HB.out⟩
        case measure => simp [intOf]; omega
      · have HY := Lib.hid (getD_beyond (xs := ys) (k := k) (by rw [hl2.out]; omega))
        have HS' := Lib.hid (HI.out.step (s := ov) (t := ov) (u := 0) (by omega) HX.out hl HY.out (by simp) (by omega) (by omega) (by omega))
        by_cases h0 : ov = 0
        · subst h0
          by_cases h1 : bo = 0
          · subst h1
            go_wp2
            go_ret
            exact HI.out.early hl hn hk (by rw [hl2.out]; omega)
          · have h1' : ((bo : Int) == 0) = false := by simpa using h1
            go_wp2_with (go_at_call 74; ((with_reducible refine (sub32_zero x bo bx hbo _).mono ?_); rintro e w' ⟨rfl, rfl⟩))
            go_roundw
            case rel => exact ⟨k + 1, 0, bor x 0 bo, by omega, by go_num, rfl, rfl, HS'.out⟩
            case measure => simp [intOf]; omega
        · have h0' : ((ov : Int) == 0) = false := by simpa using h0
          go_wp2_with (go_at_call 74; ((with_reducible refine (sub32_any x ov bo bx hov hbo _).mono ?_); rintro e w' ⟨rfl, rfl⟩))
          go_roundw
          case rel => exact ⟨k + 1, 0, bor x ov bo, by omega, by go_num, by congr 1; omega, rfl, HS'.out⟩
          case measure => simp [intOf]; omega
    · have hkn : k = n := by omega
      subst hkn
      have HD := Lib.hid (fun t => HI.out.done (t := t) (by rw [hl2.out]; omega))
      by_cases h0 : ov = 0
      · subst h0
        by_cases h1 : bo = 0
        · subst h1
          go_wp2
          go_ret
          exact HD.out _ (by simp)
        · have h1' : ((bo : Int) != 0) = true := by simpa using h1
          go_wp2
          go_ret
          exact HD.out _ (by simp; omega)
      · have h0' : ((ov : Int) != 0) = true := by simpa using h0
        go_wp2
        go_ret
        exact HD.out _ (by simp; omega)
set_option maxHeartbeats 400000 in
theorem takeFrom_none (w : World) (c m c2 f : Nat) (A B : Option Addr) :
    Calls Try.prog 61 #[.slice B 0 c, .slice A m c2, .int .u32 (f : Int)] w fun e w' => e = .returned (.bool false) ∧ w = w' := by
  go_enter Try.func61, Try.ntmps61
  go_wp2
  go_loop [7, 8, 12] (fun v u i => v = .int .u64 0 ∧ u = .int .u32 0 ∧ i = .int .i64 0) (fun _ _ _ => 0)
  case atStart => exact ⟨rfl, rfl, rfl⟩
  case round =>
    obtain ⟨rfl, rfl, rfl⟩ := hrel
    go_wp2
    go_ret
    exact ⟨rfl, rfl⟩

theorem takeFrom_one (w : World) (g o n c b m c2 : Nat) (A : Option Addr) (l ys : List Nat) (hg : Own w g l) (hl : Lim l) (hn : o + n ≤ l.length) (hbl : l.length ≤ 1099511627776) (h2 : Sl w b A m c2 ys) (hne : 0 < m → b ≠ g) (hm : m ≤ n) :
    Calls Try.prog 61 #[.slice (some ⟨g, o, none⟩) n c, .slice A m c2, .int .u32 1] w (TakePost w g o n l ys 1) := takeFrom_any w g o n c b m c2 1 A l ys hg hl hn hbl h2 hne hm (by omega)
theorem takeFrom_none1 (w : World) (c m c2 : Nat) (A B : Option Addr) :
    Calls Try.prog 61 #[.slice B 0 c, .slice A m c2, .int .u32 1] w fun e w' => e = .returned (.bool false) ∧ w = w' := takeFrom_none w c m c2 1 A B
end Go.Proofs.Ytbendmhcimadpaa
