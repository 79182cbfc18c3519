/-
  Contracts and words that the statement's proof rests on, several texts in one: Kg, Jt, Kh, Ki, Lm, Kl, Kq, Gm, Gn, Gq, Gr, Ha.
-/
import Derived.Below
import Derived.BigQuiet
import Derived.Carry
import Derived.Deep.DeepCutAuto
import Derived.Deep.Draws
import Derived.Deep.MidRow
import Derived.Deep.QuietTactic
import Derived.Deep.RegionHeld3
import Derived.Deep.RegionWith
import Derived.IntWalk
import Derived.Laws.CopyOwn
import Derived.Laws.MakeOwn
import Derived.Laws.OwnMore
import Derived.Laws.Rows
import Derived.Lib.BitFns
import Derived.Lib.Hide
import Derived.Maps.AppendAt
import Derived.StillTailTactics
import Derived.Test.YtpmakljahhhnfaaDoorRows
import Derived.WalkKit
import Derived.WalkLawsBesides
import Derived.WalkSpells
import Derived.Test.YtpmakljahhhnfaaDoorYBaf
import Derived.Test.YtpmakljahhhnfaaDoorYBag
import Derived.Test.YtpmakljahhhnfaaDoorYBah
import Derived.Test.YtpmakljahhhnfaaDoorYBaj
import Derived.Test.YtpmakljahhhnfaaDoorYBak
import Derived.Test.YtpmakljahhhnfaaDoorYBal
import Derived.Test.YtpmakljahhhnfaaDoorYBam
import Derived.Test.YtpmakljahhhnfaaDoorYBao
import Derived.Test.YtpmakljahhhnfaaDoorYBap
/-
  What num.Least and Most do, and the document's.
-/
namespace Go.Proofs.YtpmakljahhhnfaaDoor
open Go.RowKit
set_option linter.unusedVariables false
set_option linter.unusedSimpArgs false
set_option maxRecDepth 100000

/-- A slice of numbers, as they came in or as they are; their places are l. -/
def Nl (w : World) (A : Option Addr) (n c : Nat) (l : List Int) : Prop :=
  l.length = n ∧ n ≤ c ∧ n ≤ 1099511627776 ∧ (0 < n → ∃ b o, A = some ⟨b, o, none⟩ ∧ ∀ k, k < n → ∃ D s M E, w.cell? ⟨b, o + k * 4, none⟩ = some (.int .i64 D) ∧ w.cell? ⟨b, o + k * 4 + 1, none⟩ = some (.bool s) ∧ w.cell? ⟨b, o + k * 4 + 2, none⟩ = some (.int .u64 M) ∧ w.cell? ⟨b, o + k * 4 + 3, none⟩ = some (.int .i64 E) ∧ M < 18446744073709551616 ∧ rk D s M E = l.getD k 0)
theorem Nl.below {w w' : World} {A : Option Addr} {n c : Nat} {l : List Int} (h : Nl w A n c l) (hb : Below w.heap.size w w') : Nl w' A n c l := by
  obtain ⟨h1, h2, h3, h4⟩ := h
  refine ⟨h1, h2, h3, fun hn => ?_⟩
  obtain ⟨b, o, e, hc⟩ := h4 hn
  refine ⟨b, o, e, fun k hk => ?_⟩
  obtain ⟨D, s, M, E, c0, c1, c2, c3, hM, hr⟩ := hc k hk
  exact ⟨D, s, M, E, (hb.cell (p := ⟨b, _, none⟩) (block_lt_of_cell c0)).trans c0, (hb.cell (p := ⟨b, _, none⟩) (block_lt_of_cell c1)).trans c1, (hb.cell (p := ⟨b, _, none⟩) (block_lt_of_cell c2)).trans c2, (hb.cell (p := ⟨b, _, none⟩) (block_lt_of_cell c3)).trans c3, hM, hr⟩
def Jo.Fact.num (r : Int) : Jo.Fact := ⟨fun v w => ∃ K s M E, v = .agg #[.int .i64 K, .bool s, .int .u64 M, .int .i64 E] ∧ Fq K s M E r, fun v w w' h b => h⟩
end Go.Proofs.YtpmakljahhhnfaaDoor

/-
  The joint rule for a region with a store that may come before or behind other operations: the stored box is as it was or as it is to be, all other blocks are as they were. No Go text.
-/
namespace Go.Proofs.YtpmakljahhhnfaaDoor.Jo
open Go Go.RowKit
set_option linter.unusedVariables false

/-- All blocks but g are as they were; g is as it was, or just the cells new. -/
structure Off (g : Nat) (new : Array Value) (R : TypeId) (w w' : World) : Prop where
  os : w'.os = w.os
  tape : w'.tape = w.tape
  output : w'.output = w.output
  size : w.heap.size ≤ w'.heap.size
  block : ∀ k, k < w.heap.size → k ≠ g → w'.heap[k]? = w.heap[k]?
  own : w'.heap[g]? = w.heap[g]? ∨ w'.heap[g]? = some (.cells new R (0, 0))

section
variable {g : Nat} {new : Array Value} {R : TypeId} {w w' w'' : World}
theorem Off.refl (g : Nat) (new : Array Value) (R : TypeId) (w : World) : Off g new R w w := ⟨rfl, rfl, rfl, Nat.le_refl _, fun _ _ _ => rfl, .inl rfl⟩
theorem Off.drew (w : World) : Off g new R w w.drew := ⟨rfl, rfl, rfl, Nat.le_refl _, fun _ _ _ => rfl, .inl rfl⟩
theorem Off.trans (h : Off g new R w w') (k : Off g new R w' w'') : Off g new R w w'' :=
  ⟨k.os.trans h.os, k.tape.trans h.tape, k.output.trans h.output, Nat.le_trans h.size k.size, fun i hi hn => (k.block i (Nat.lt_of_lt_of_le hi h.size) hn).trans (h.block i hi hn), by
    rcases k.own with e | e
    · rcases h.own with f | f
      · exact .inl (e.trans f)
      · exact .inr (e.trans f)
    · exact .inr e⟩
theorem Off.of_below (h : Below w.heap.size w w') (hg : g < w.heap.size) : Off g new R w w' := ⟨h.os, h.tape, h.output, h.size, fun k hk _ => h.block k hk, .inl (h.block g hg)⟩
theorem Off.of_stn {old : Array Value} (S : StN w w' g old new R) : Off g new R w w' := by
  have hb := S.2.2.2 0 w (Nat.zero_le _) (Below.refl 0 w)
  exact ⟨hb.os, hb.tape, hb.output, hb.size, fun k _ hn => S.2.2.1 k hn, .inr S.2.1⟩
theorem Off.below {B : Nat} {a : World} (O : Off g new R w w') (h : Below B a w) (hB : B ≤ g) (hg : g < w.heap.size) : Below B a w' :=
  ⟨O.os.trans h.os, O.tape.trans h.tape, O.output.trans h.output, Nat.le_trans h.size O.size, fun k hk => (O.block k (by omega) (by omega)).trans (h.block k hk)⟩
theorem _root_.Go.Proofs.YtpmakljahhhnfaaDoor.Bo.off {k : Nat} {cs : Array Value} {T : TypeId} (X : Bo w k cs T) (hk : k ≠ g) (O : Off g new R w w') : Bo w' k cs T := X.keep (O.block k X.lt hk)
theorem _root_.Go.Proofs.YtpmakljahhhnfaaDoor.Nm.off {old : Array Value} {B : Option Addr} {m d a : Nat} (h : Nm w B m d a) (X : Bo w g old R) (hn : old.all no32 = true) (O : Off g new R w w') : Nm w' B m d a := by
  obtain ⟨b, h⟩ := h
  exact ⟨b, h.keep fun hm => O.block b (h.lt hm) (fun e => by
    obtain ⟨o, _, hc⟩ := h.at hm
    have := hc 0 hm
    rw [e] at this
    exact X.no hn this)⟩
theorem _root_.Go.Proofs.YtpmakljahhhnfaaDoor.Rd.off {old : Array Value} {B : Option Addr} {m d a : Nat} (h : Rd w B m d a) (X : Bo w g old R) (hn : old.all no32 = true) (O : Off g new R w w') : Rd w' B m d a := by
  obtain ⟨b, xs, h, e⟩ := h
  exact ⟨b, xs, h.keep fun hm => O.block b (h.lt hm) (fun e => by
    obtain ⟨o, _, hc⟩ := h.at hm
    have := hc 0 hm
    rw [e] at this
    exact X.no hn this), e⟩
end

/-- What is known of a value, kept by what such a region does. -/
structure LFact (g : Nat) (new : Array Value) (R : TypeId) where
  P : Value → World → Prop
  keep : ∀ v w w', P v w → Off g new R w w' → P v w'
section
variable {g : Nat} {new : Array Value} {R : TypeId}
def LFact.any : LFact g new R := ⟨fun _ _ => True, fun _ _ _ h _ => h⟩
def LFact.eq (u : Value) : LFact g new R := ⟨fun v _ => v = u, fun _ _ _ h _ => h⟩
/-- The store is done. -/
def LFact.done : LFact g new R := ⟨fun _ w => Bo w g new R, fun v w w' h o => by
  rcases o.own with e | e
  · exact h.keep e
  · exact e⟩
def lphi (F : List (LFact g new R)) (i : Nat) (v : Value) (w : World) : Prop := (F.getD i LFact.any).P v w
variable {P : Program} {ops : Array Oper} {Q : Exit → Act → World → Prop} {a0 : Act} {T : List Nat} {ds : List (Option Tmp)} {ls : List (List Nat)} {k : Nat} {F : List (LFact g new R)} {J : World → Prop}
theorem lcons {i : Nat} {o : Oper} {r : List Nat} {di : Option Tmp} {L : List (Option Tmp × Nat)} {f : LFact g new R} (ho : ops[i]? = some o) (hdi : ds.getD i none = di) (hL : ((ls.getD i []).map fun j => (ds.getD j none, j)) = L) (hf : F.getD i LFact.any = f)
    (h : ∀ vs w, J w → (∀ j ∈ ls.getD i [], lphi F j (vs j) w) → ∀ K : Act → World → Prop, Shut (∀ v w', f.P v w' → Off g new R w w' → K ((putl vs L a0).put di v) w') →
      if Region.wanted o (yielded ops (putl vs L a0).tmps) = true then Oper.wp P o (putl vs L a0) w K Q else K ((putl vs L a0).put o.dst undef) w)
    (hs : Steps P ops Q a0 (dstOf ds) (depOf ls) (lphi F) J (Off g new R) r) : Steps P ops Q a0 (dstOf ds) (depOf ls) (lphi F) J (Off g new R) (i :: r) := by
  refine Steps.cons ho (fun vs w hJ hd K hK => ?_) hs
  have e : base (dstOf ds) vs (depOf ls i) a0 = putl vs L a0 := by
    rw [base_putl, ← hL]
    rfl
  rw [e] at hK ⊢
  refine h vs w hJ hd K ?_
  intro v w' h1 h2
  have := hK.out v w' (by unfold lphi; rw [hf]; exact h1) h2
  rwa [show dstOf ds i = di from hdi] at this
theorem region_late {id fuel : Nat} {w : World} {L : List (Option Tmp × Nat)} (hm : P.follows .mixedOrders = true) (hok : ok .any ops T (dstOf ds) (depOf ls) k a0.tmps.size = true) (hnd : T.Nodup)
    (hL : (T.map fun j => (ds.getD j none, j)) = L) (hfu : ops.size - T.length = fuel)
    (step : Steps P ops (NoPanic Q) a0 (dstOf ds) (depOf ls) (lphi F) (fun wj => Off g new R w wj) (Off g new R) T)
    (fin : ∀ vs wj, Off g new R w wj → (∀ j ∈ T, lphi F j (vs j) wj) → wpAny P .any ops (NoPanic Q) fuel (mark T ops.size) (putl vs L a0) wj) :
    (Code.region id ops true).wp P Q a0 w := by
  refine wp_region_noPanic ?_
  refine wp_region_joint (T := T) (dst := dstOf ds) (D := depOf ls) (k := k) (Φ := lphi F) (J := fun wj => Off g new R w wj) (St := Off g new R) hm hok hnd (fun _ _ _ _ h => h) (fun i _ v w w' h b => (F.getD i LFact.any).keep v w w' h b) (fun _ _ h b => h.trans b) (Off.drew w) step ?_
  intro vs w hJ hd
  have e : base (dstOf ds) vs T a0 = putl vs L a0 := by
    rw [base_putl, ← hL]
    rfl
  rw [e, hfu]
  exact fin vs w hJ hd
end
end Go.Proofs.YtpmakljahhhnfaaDoor.Jo
namespace Go.Proofs.YtpmakljahhhnfaaDoor
open Go.RowKit
open Go in
theorem Jo.ld {g : Nat} {new : Array Value} {R : TypeId} {P : Program} {ops : Array Oper} {Q : Exit → Act → World → Prop} {a0 : Act} {ds : List (Option Tmp)} {ls : List (List Nat)} {F : List (Jo.LFact g new R)} {J : World → Prop} (i : Nat) (di : Option Tmp) (L : List (Option Tmp × Nat)) (f : Jo.LFact g new R) {o : Oper} {r : List Nat} (ho : ops[i]? = some o) (hdi : ds.getD i none = di) (hL : ((ls.getD i []).map fun j => (ds.getD j none, j)) = L) (hf : F.getD i Jo.LFact.any = f)
    (h : ∀ vs w, J w → (∀ j ∈ ls.getD i [], Jo.lphi F j (vs j) w) → ∀ K : Act → World → Prop, Shut (∀ v w', f.P v w' → Jo.Off g new R w w' → K ((Jo.putl vs L a0).put di v) w') →
      if Region.wanted o (yielded ops (Jo.putl vs L a0).tmps) = true then Oper.wp P o (Jo.putl vs L a0) w K Q else K ((Jo.putl vs L a0).put o.dst undef) w)
    (hs : Jo.Steps P ops Q a0 (Jo.dstOf ds) (Jo.depOf ls) (Jo.lphi F) J (Jo.Off g new R) r) : Jo.Steps P ops Q a0 (Jo.dstOf ds) (Jo.depOf ls) (Jo.lphi F) J (Jo.Off g new R) (i :: r) := Jo.lcons ho hdi hL hf h hs
end Go.Proofs.YtpmakljahhhnfaaDoor

/-
  What num.word and cut do, and the document's word.
-/
namespace Go.Proofs.YtpmakljahhhnfaaDoor
open Go.RowKit
set_option linter.unusedVariables false
set_option linter.unusedSimpArgs false
set_option maxRecDepth 100000

theorem vShlA {w : World} {A1 : Option Addr} {n c1 a r : Nat} {z : Int} (h1 : Rd w A1 n c1 a) (hn : n ≤ 1000000) (hz : z ≤ 16777216) (hr : a * 2 ^ z.toNat = r) : Calls Tryd.prog 63 #[.slice A1 n c1, .int .i64 z] w (P1 w (n + z.toNat / 32 + 1) r) := by
  subst hr
  by_cases h0 : z < 1
  · rw [show z.toNat = 0 by omega, Nat.pow_zero, Nat.mul_one]
    refine (vShl_low z h1 h0).mono ?_
    rintro e w' ⟨A, m, c, e, h, k, B⟩
    exact ⟨A, m, c, e, h, by omega, B⟩
  · have := vShl z.toNat h1 (by omega) (by omega)
    rwa [show ((z.toNat : Nat) : Int) = z by omega] at this
/-- A word is answered. -/
def PU (w : World) (z : Int) (e : Ending) (w' : World) : Prop := e = .returned (.int .u64 z) ∧ Below w.heap.size w w'
theorem tp_word {a : Nat} {v : Int} (hv : v = (blen a : Int) - 64) : a / 2 ^ v.toNat * 2 ^ (-v).toNat = tp a := by
  subst hv
  rcases Nat.lt_or_ge (blen a) 64 with h | h
  · rw [show ((blen a : Int) - 64).toNat = 0 by omega, Nat.pow_zero, Nat.div_one, tp_small (by omega), show (-((blen a : Int) - 64)).toNat = 64 - blen a by omega]
  · rw [show (-((blen a : Int) - 64)).toNat = 0 by omega, Nat.pow_zero, Nat.mul_one, tp_big h, show ((blen a : Int) - 64).toNat = blen a - 64 by omega]
theorem limbs_two {v : Nat} (h1 : 4294967296 ≤ v) (h2 : v < 18446744073709551616) : limbs v = [v % 4294967296, v / 4294967296] := by
  rw [limbs_pos (by omega), limbs_pos (by omega), show v / 4294967296 / 4294967296 = 0 by omega, limbs_zero, Nat.mod_eq_of_lt (show v / 4294967296 < 4294967296 by omega)]
set_option maxHeartbeats 4000000 in
theorem nWord {w : World} {A : Option Addr} {n c a : Nat} {L T : Int} (h : Rd w A n c a) (hn : n ≤ 100000) (h0 : a ≠ 0) (hL : ((blen a : Nat) : Int) = L) (hT : ((tp a : Nat) : Int) = T) : Calls Tryd.prog 96 #[.slice A n c, .int .i64 L] w (PU w T) := by
  have hb := h.blen_le
  obtain ⟨v, hv⟩ : ∃ v : Int, L - 64 = v := ⟨_, rfl⟩
  have hw := tp_word (a := a) (v := v) (by omega)
  have HW1 : Hid (IntKind.i64.wrap (L - 64) = v) := Lib.hid (by rw [hv]; exact IntWalk.i64_in _ (by omega))
  have HW2 : Hid (IntKind.i64.wrap (-v) = -v) := Lib.hid (IntWalk.i64_in _ (by omega))
  obtain ⟨q, hq⟩ : ∃ q, a / 2 ^ v.toNat = q := ⟨_, rfl⟩
  rw [hq] at hw
  have HQ := Lib.hid hq
  have HT := Lib.hid hw
  have g1 := tp_ge h0
  have g2 := tp_lt a
  revert hT g1 g2 HT
  generalize tp a = W
  intro hT HT g1 g2
  have hlm := limbs_two (v := W) (by omega) (by omega)
  obtain ⟨X, hX0⟩ : ∃ X, W / 4294967296 = X := ⟨_, rfl⟩
  obtain ⟨Y, hY0⟩ : ∃ Y, W % 4294967296 = Y := ⟨_, rfl⟩
  rw [hX0, hY0] at hlm
  have hX : X < 4294967296 := by omega
  have hY : Y < 4294967296 := by omega
  have hTT : (X : Int) * 4294967296 + (Y : Int) = T := by omega
  have hor := or_join X Y hX hY
  rw [hTT] at hor
  have HS1 := Lib.hid (show IntKind.u64.wrap (X : Int) = X from IntWalk.u64_in _ (by omega))
  have HS2 := Lib.hid (show IntKind.u64.wrap ((X : Int) * 4294967296) = (X : Int) * 4294967296 from IntWalk.u64_in _ (by omega))
  have HS3 := Lib.hid (show IntKind.u64.wrap (Y : Int) = Y from IntWalk.u64_in _ (by omega))
  have hv1 : -64 ≤ v := by omega
  have hv2 : v ≤ 3200000 := by omega
  have HO := Lib.hid hor
  have HL := Lib.hid hlm
  clear hor hlm hTT hT g1 g2 hw hq hv hL hX0 hY0
  go_enter Tryd.func96, Tryd.ntmps96
  have HB := Lib.hid (Below.refl w.heap.size w)
  have hw1 := HW1.out
  go_wp2_with fail
  refine (vShrE h (by omega) HQ.out).mono ?_
  rintro ee w2 ⟨A2, n2, c2, rfl, p2, k2, B⟩
  replace h := h.below B
  replace HB := Lib.hid (bt HB.out B)
  clear B
  clear hw1
  have hw2 := HW2.out
  go_wp2_with fail
  refine (vShlA p2.rd (by omega) (by omega) HT.out).mono ?_
  rintro ee w3 ⟨A3, n3, c3, rfl, p3, k3, B⟩
  replace p2 := p2.below B
  replace HB := Lib.hid (bt HB.out B)
  clear B
  clear hw2 HW1 HW2 HQ HT
  obtain ⟨b, hs⟩ := p3
  have hl := hs.len
  rw [HL.out] at hs hl
  obtain rfl : 2 = n3 := hl
  obtain ⟨o, rfl, hc⟩ := hs.at (by decide)
  have c0 := hc 0 (by decide)
  have c1 := hc 1 (by decide)
  rw [List.getD_cons_zero, Nat.add_zero] at c0
  rw [List.getD_cons_succ, List.getD_cons_zero] at c1
  clear hc hs HL
  go_upto_region 3 with (fail)
  refine Jo.region_joint (T := [0, 1, 2, 3, 4, 5, 6, 7, 8, 9, 10]) (ds := [some 15, some 16, some 17, some 18, some 19, some 20, some 21, some 22, some 23, some 24, some 4]) (ls := [[], [0], [1], [2], [3], [], [5], [6], [7], [4, 8], [9]]) (k := 11) (L := [(some 15, 0), (some 16, 1), (some 17, 2), (some 18, 3), (some 19, 4), (some 20, 5), (some 21, 6), (some 22, 7), (some 23, 8), (some 24, 9), (some 4, 10)]) (fuel := 0) (J := fun wj => Below (World.heap w3).size w3 wj)
    (F := [Jo.Fact.eq (.slice (some ⟨b, o, none⟩) 2 c3), Jo.Fact.eq (.pointer (some ⟨b, o + 1, none⟩)), Jo.Fact.eq (.int .u32 (X : Int)), Jo.Fact.eq (.int .u64 (X : Int)), Jo.Fact.eq (.int .u64 ((X : Int) * 4294967296)), Jo.Fact.eq (.slice (some ⟨b, o, none⟩) 2 c3), Jo.Fact.eq (.pointer (some ⟨b, o, none⟩)), Jo.Fact.eq (.int .u32 (Y : Int)), Jo.Fact.eq (.int .u64 (Y : Int)), Jo.Fact.eq (.int .u64 T), Jo.Fact.eq (.int .u64 T)])
    (by kernel_rfl) (by kernel_rfl) (by decide) rfl rfl (fun _ _ h b => bt h b) ((Below.refl _ _).drew) ?_ (fun vs w4 hJ hd => ?_)
  · refine Jo.jd 0 (some 15) [] (Jo.Fact.eq (.slice (some ⟨b, o, none⟩) 2 c3)) rfl rfl rfl rfl (fun vs wj hJ hd K hK => ?_) ?_
    · simp only [Jo.putl, Jo.ze, Act.put, Jo.za, Jo.zb, Jo.zc] at hK ⊢
      clear hd
      go_simp
      exact hK.out _ _ rfl (Below.refl _ _)
    refine Jo.jd 1 (some 16) [(some 15, 0)] (Jo.Fact.eq (.pointer (some ⟨b, o + 1, none⟩))) rfl rfl rfl rfl (fun vs wj hJ hd K hK => ?_) ?_
    · simp only [Jo.putl, Jo.zd, Jo.ze, Act.put, Jo.za, Jo.zb, Jo.zc] at hK ⊢
      rw [show vs 0 = _ from hd 0 (by decide)] at hK ⊢
      clear hd
      go_simp
      exact hK.out _ _ rfl (Below.refl _ _)
    refine Jo.jd 2 (some 17) [(some 16, 1)] (Jo.Fact.eq (.int .u32 (X : Int))) rfl rfl rfl rfl (fun vs wj hJ hd K hK => ?_) ?_
    · simp only [Jo.putl, Jo.zd, Jo.ze, Act.put, Jo.za, Jo.zb, Jo.zc] at hK ⊢
      rw [show vs 1 = _ from hd 1 (by decide)] at hK ⊢
      clear hd
      have c0' := (hJ.cell (p := ⟨b, _, none⟩) (block_lt_of_cell c0)).trans c0
      have c1' := (hJ.cell (p := ⟨b, _, none⟩) (block_lt_of_cell c1)).trans c1
      go_simp
      exact hK.out _ _ rfl (Below.refl _ _)
    refine Jo.jd 3 (some 18) [(some 17, 2)] (Jo.Fact.eq (.int .u64 (X : Int))) rfl rfl rfl rfl (fun vs wj hJ hd K hK => ?_) ?_
    · simp only [Jo.putl, Jo.zd, Jo.ze, Act.put, Jo.za, Jo.zb, Jo.zc] at hK ⊢
      rw [show vs 2 = _ from hd 2 (by decide)] at hK ⊢
      clear hd
      have hs1 := HS1.out
      go_simp
      exact hK.out _ _ rfl (Below.refl _ _)
    refine Jo.jd 4 (some 19) [(some 18, 3)] (Jo.Fact.eq (.int .u64 ((X : Int) * 4294967296))) rfl rfl rfl rfl (fun vs wj hJ hd K hK => ?_) ?_
    · simp only [Jo.putl, Jo.zd, Jo.ze, Act.put, Jo.za, Jo.zb, Jo.zc] at hK ⊢
      rw [show vs 3 = _ from hd 3 (by decide)] at hK ⊢
      clear hd
      have hs2 := HS2.out
      go_simp
      exact hK.out _ _ rfl (Below.refl _ _)
    refine Jo.jd 5 (some 20) [] (Jo.Fact.eq (.slice (some ⟨b, o, none⟩) 2 c3)) rfl rfl rfl rfl (fun vs wj hJ hd K hK => ?_) ?_
    · simp only [Jo.putl, Jo.ze, Act.put, Jo.za, Jo.zb, Jo.zc] at hK ⊢
      clear hd
      go_simp
      exact hK.out _ _ rfl (Below.refl _ _)
    refine Jo.jd 6 (some 21) [(some 20, 5)] (Jo.Fact.eq (.pointer (some ⟨b, o, none⟩))) rfl rfl rfl rfl (fun vs wj hJ hd K hK => ?_) ?_
    · simp only [Jo.putl, Jo.zd, Jo.ze, Act.put, Jo.za, Jo.zb, Jo.zc] at hK ⊢
      rw [show vs 5 = _ from hd 5 (by decide)] at hK ⊢
      clear hd
      go_simp
      exact hK.out _ _ rfl (Below.refl _ _)
    refine Jo.jd 7 (some 22) [(some 21, 6)] (Jo.Fact.eq (.int .u32 (Y : Int))) rfl rfl rfl rfl (fun vs wj hJ hd K hK => ?_) ?_
    · simp only [Jo.putl, Jo.zd, Jo.ze, Act.put, Jo.za, Jo.zb, Jo.zc] at hK ⊢
      rw [show vs 6 = _ from hd 6 (by decide)] at hK ⊢
      clear hd
      have c0' := (hJ.cell (p := ⟨b, _, none⟩) (block_lt_of_cell c0)).trans c0
      have c1' := (hJ.cell (p := ⟨b, _, none⟩) (block_lt_of_cell c1)).trans c1
      go_simp
      exact hK.out _ _ rfl (Below.refl _ _)
    refine Jo.jd 8 (some 23) [(some 22, 7)] (Jo.Fact.eq (.int .u64 (Y : Int))) rfl rfl rfl rfl (fun vs wj hJ hd K hK => ?_) ?_
    · simp only [Jo.putl, Jo.zd, Jo.ze, Act.put, Jo.za, Jo.zb, Jo.zc] at hK ⊢
      rw [show vs 7 = _ from hd 7 (by decide)] at hK ⊢
      clear hd
      have hs3 := HS3.out
      go_simp
      exact hK.out _ _ rfl (Below.refl _ _)
    refine Jo.jd 9 (some 24) [(some 19, 4), (some 23, 8)] (Jo.Fact.eq (.int .u64 T)) rfl rfl rfl rfl (fun vs wj hJ hd K hK => ?_) ?_
    · simp only [Jo.putl, Jo.zd, Jo.ze, Act.put, Jo.za, Jo.zb, Jo.zc] at hK ⊢
      rw [show vs 4 = _ from hd 4 (by decide), show vs 8 = _ from hd 8 (by decide)] at hK ⊢
      clear hd
      have hor := HO.out
      go_simp
      exact hK.out _ _ rfl (Below.refl _ _)
    refine Jo.jd 10 (some 4) [(some 24, 9)] (Jo.Fact.eq (.int .u64 T)) rfl rfl rfl rfl (fun vs wj hJ hd K hK => ?_) ?_
    · simp only [Jo.putl, Jo.zd, Jo.ze, Act.put, Jo.za, Jo.zb, Jo.zc] at hK ⊢
      rw [show vs 9 = _ from hd 9 (by decide)] at hK ⊢
      clear hd
      go_simp
      exact hK.out _ _ rfl (Below.refl _ _)
    exact Jo.Steps.nil
  simp only [Jo.putl, Jo.zd, Jo.ze, Act.put, Jo.za, Jo.zb, Jo.zc]
  rw [show vs 0 = _ from hd 0 (by decide), show vs 2 = _ from hd 2 (by decide), show vs 3 = _ from hd 3 (by decide), show vs 4 = _ from hd 4 (by decide), show vs 5 = _ from hd 5 (by decide), show vs 7 = _ from hd 7 (by decide), show vs 8 = _ from hd 8 (by decide), show vs 9 = _ from hd 9 (by decide), show vs 10 = _ from hd 10 (by decide)]
  clear hd
  replace HB := Lib.hid (bt HB.out hJ)
  refine Jo.jdone (by kernel_rfl) ?_
  go_wp2
  go_ret
  exact ⟨rfl, HB.out⟩

/-- A number and a truth are answered. -/
def PNB (w : World) (r : Int) (t : Bool) (e : Ending) (w' : World) : Prop := ∃ K s M E, e = .returned (.tuple #[.agg #[.int .i64 K, .bool s, .int .u64 M, .int .i64 E], .bool t]) ∧ Fq K s M E r ∧ Below w.heap.size w w'
set_option maxHeartbeats 4000000 in
theorem ncut_zero {w : World} {A : Option Addr} {n c a : Nat} {s : Bool} {E L x r : Int} {t : Bool} (h : Rd w A n c a) (hn : n ≤ 100000) (b1 : -4194304 ≤ E) (b2 : E ≤ 4194304) (h0 : a = 0) (hr : 0 = r) (ht : true = t) :
    Calls Tryd.prog 86 #[.agg #[.bool s, .slice A n c, .int .i64 E]] w (PNB w r t) := by
  have hb := h.blen_le
  subst h0
  subst hr
  subst ht
  go_enter Tryd.func86, Tryd.ntmps86
  go_upto_region 1 with (fail)
  have X1 := (Bo.newAt w (g := w.heap.size) (by simp) #[.bool s, .slice A n c, .int .i64 E] 30).below (bel1 _ (.cells #[.int .i64 0, .bool false, .int .u64 0, .int .i64 0] 24))
  have XR := (Bo.newAt (w.alloc (.cells #[.bool s, .slice A n c, .int .i64 E] 30)) (g := w.heap.size + 1) (by simp) #[.int .i64 0, .bool false, .int .u64 0, .int .i64 0] 24)
  have HB := Lib.hid (bel2 w (.cells #[.bool s, .slice A n c, .int .i64 E] 30) (.cells #[.int .i64 0, .bool false, .int .u64 0, .int .i64 0] 24))
  replace h := h.below HB.out
  generalize hW1 : ((w.alloc (.cells #[.bool s, .slice A n c, .int .i64 E] 30)).alloc (.cells #[.int .i64 0, .bool false, .int .u64 0, .int .i64 0] 24)) = w1 at *
  clear hW1
  have xX10 := X1.a 0 (.bool s) rfl
  have xX11 := X1.a 1 (.slice A n c) rfl
  have xX12 := X1.a 2 (.int .i64 E) rfl
  go_wp2_with fail
  refine (vLenE (z := 0) h rfl).mono ?_
  rintro ee w2 ⟨rfl, B⟩
  clear xX10 xX11 xX12
  replace X1 := X1.below B
  replace XR := XR.below B
  replace h := h.below B
  replace HB := Lib.hid (bt HB.out B)
  clear B
  have xXR0 := XR.a 0 (.int .i64 0) rfl
  have zXR0 := XR.frozen 0
  have xXR1 := XR.a 1 (.bool false) rfl
  have zXR1 := XR.frozen 1
  have xXR2 := XR.a 2 (.int .u64 0) rfl
  have zXR2 := XR.frozen 2
  have xXR3 := XR.a 3 (.int .i64 0) rfl
  have zXR3 := XR.frozen 3
  have xX10 := X1.a 0 (.bool s) rfl
  have xX11 := X1.a 1 (.slice A n c) rfl
  have xX12 := X1.a 2 (.int .i64 E) rfl
  go_wp2
  clear xXR0 zXR0 xXR1 zXR1 xXR2 zXR2 xXR3 zXR3 xX10 xX11 xX12
  have SX := StN.mk4 XR (.int .i64 0) (.bool false) (.int .u64 0) (.int .i64 0)
  replace X1 := X1.stn SX (by omega)
  replace h := h.stn SX (by simp [no32])
  replace HB := Lib.hid (SX.below HB.out (by omega))
  replace XR := SX.box
  clear SX
  generalize (World.setCell (World.setCell (World.setCell (World.setCell w2 ⟨w.heap.size + 1, 0, none⟩ (.int .i64 0)) ⟨w.heap.size + 1, 1, none⟩ (.bool false)) ⟨w.heap.size + 1, 2, none⟩ (.int .u64 0)) ⟨w.heap.size + 1, 3, none⟩ (.int .i64 0)) = w3 at *
  have r0 := XR.cell 0
  have r1 := XR.cell 1
  have r2 := XR.cell 2
  have r3 := XR.cell 3
  exact bodyPost_ret (v := .tuple #[.agg #[.int .i64 0, .bool false, .int .u64 0, .int .i64 0], .bool true]) (by simp [results, Tryd.results86, go_sem, r0, r1, r2, r3]) rfl ⟨_, _, _, _, rfl, Fq.nought, HB.out⟩
set_option maxHeartbeats 4000000 in
theorem ncut_big {w : World} {A : Option Addr} {n c a : Nat} {s : Bool} {E L x r : Int} (h : Rd w A n c a) (hn : n ≤ 100000) (b1 : -4194304 ≤ E) (b2 : E ≤ 4194304) (h0 : a ≠ 0) (hL : ((blen a : Nat) : Int) = L) (hx : E + L - 64 = x) (hx3 : 1048576 < x) (hr : sgi s 19342822337206103650074624 = r) :
    Calls Tryd.prog 86 #[.agg #[.bool s, .slice A n c, .int .i64 E]] w (PNB w r false) := by
  have hb := h.blen_le
  have h1 : blen a ≠ 0 := fun e => h0 (blen_eq_zero.1 e)
  have HL := Lib.hid hL
  have HX1 : Hid (IntKind.i64.wrap (E + L) = E + L) := Lib.hid (IntWalk.i64_in _ (by omega))
  have HX2 : Hid (IntKind.i64.wrap (E + L - 64) = x) := Lib.hid (by rw [hx]; exact IntWalk.i64_in _ (by omega))
  have e0 : (L == 0) = false := by
    have : L ≠ 0 := by omega
    simpa using this
  have hF : Fq 1 s 18446744073709551615 1048576 r := Fq.fin (by decide) (by decide) (by decide) (by decide) hr
  clear hL hx hr h1
  go_enter Tryd.func86, Tryd.ntmps86
  go_upto_region 1 with (fail)
  have X1 := (Bo.newAt w (g := w.heap.size) (by simp) #[.bool s, .slice A n c, .int .i64 E] 30).below (bel1 _ (.cells #[.int .i64 0, .bool false, .int .u64 0, .int .i64 0] 24))
  have XR := (Bo.newAt (w.alloc (.cells #[.bool s, .slice A n c, .int .i64 E] 30)) (g := w.heap.size + 1) (by simp) #[.int .i64 0, .bool false, .int .u64 0, .int .i64 0] 24)
  have HB := Lib.hid (bel2 w (.cells #[.bool s, .slice A n c, .int .i64 E] 30) (.cells #[.int .i64 0, .bool false, .int .u64 0, .int .i64 0] 24))
  replace h := h.below HB.out
  generalize hW1 : ((w.alloc (.cells #[.bool s, .slice A n c, .int .i64 E] 30)).alloc (.cells #[.int .i64 0, .bool false, .int .u64 0, .int .i64 0] 24)) = w1 at *
  clear hW1
  have xX10 := X1.a 0 (.bool s) rfl
  have xX11 := X1.a 1 (.slice A n c) rfl
  have xX12 := X1.a 2 (.int .i64 E) rfl
  go_wp2_with fail
  refine (vLenE h HL.out).mono ?_
  rintro ee w2 ⟨rfl, B⟩
  clear xX10 xX11 xX12
  replace X1 := X1.below B
  replace XR := XR.below B
  replace h := h.below B
  replace HB := Lib.hid (bt HB.out B)
  clear B
  have hx1 := HX1.out
  have hx2 := HX2.out
  have xX10 := X1.a 0 (.bool s) rfl
  have xX11 := X1.a 1 (.slice A n c) rfl
  have xX12 := X1.a 2 (.int .i64 E) rfl
  go_wp2_with fail
  refine (nH).mono ?_
  rintro ee w3 ⟨rfl, B⟩
  clear xX10 xX11 xX12
  replace X1 := X1.below B
  replace XR := XR.below B
  replace h := h.below B
  replace HB := Lib.hid (bt HB.out B)
  clear B
  have xXR0 := XR.a 0 (.int .i64 0) rfl
  have zXR0 := XR.frozen 0
  have xXR1 := XR.a 1 (.bool false) rfl
  have zXR1 := XR.frozen 1
  have xXR2 := XR.a 2 (.int .u64 0) rfl
  have zXR2 := XR.frozen 2
  have xXR3 := XR.a 3 (.int .i64 0) rfl
  have zXR3 := XR.frozen 3
  have xX10 := X1.a 0 (.bool s) rfl
  have xX11 := X1.a 1 (.slice A n c) rfl
  have xX12 := X1.a 2 (.int .i64 E) rfl
  go_wp2
  clear xXR0 zXR0 xXR1 zXR1 xXR2 zXR2 xXR3 zXR3 xX10 xX11 xX12
  have SX := StN.mk4 XR (.int .i64 1) (.bool s) (.int .u64 18446744073709551615) (.int .i64 1048576)
  replace X1 := X1.stn SX (by omega)
  replace h := h.stn SX (by simp [no32])
  replace HB := Lib.hid (SX.below HB.out (by omega))
  replace XR := SX.box
  clear SX
  generalize (World.setCell (World.setCell (World.setCell (World.setCell w3 ⟨w.heap.size + 1, 0, none⟩ (.int .i64 1)) ⟨w.heap.size + 1, 1, none⟩ (.bool s)) ⟨w.heap.size + 1, 2, none⟩ (.int .u64 18446744073709551615)) ⟨w.heap.size + 1, 3, none⟩ (.int .i64 1048576)) = w4 at *
  have r0 := XR.cell 0
  have r1 := XR.cell 1
  have r2 := XR.cell 2
  have r3 := XR.cell 3
  exact bodyPost_ret (v := .tuple #[.agg #[.int .i64 1, .bool s, .int .u64 18446744073709551615, .int .i64 1048576], .bool false]) (by simp [results, Tryd.results86, go_sem, r0, r1, r2, r3]) rfl ⟨_, _, _, _, rfl, hF, HB.out⟩
set_option maxHeartbeats 4000000 in
theorem ncut_low {w : World} {A : Option Addr} {n c a : Nat} {s : Bool} {E L x : Int} (h : Rd w A n c a) (hn : n ≤ 100000) (b1 : -4194304 ≤ E) (b2 : E ≤ 4194304) (h0 : a ≠ 0) (hL : ((blen a : Nat) : Int) = L) (hx : E + L - 64 = x) (hx3 : x < -1048576) :
    Calls Tryd.prog 86 #[.agg #[.bool s, .slice A n c, .int .i64 E]] w (PNB w 0 false) := by
  have hb := h.blen_le
  have h1 : blen a ≠ 0 := fun e => h0 (blen_eq_zero.1 e)
  have HL := Lib.hid hL
  have HX1 : Hid (IntKind.i64.wrap (E + L) = E + L) := Lib.hid (IntWalk.i64_in _ (by omega))
  have HX2 : Hid (IntKind.i64.wrap (E + L - 64) = x) := Lib.hid (by rw [hx]; exact IntWalk.i64_in _ (by omega))
  have e0 : (L == 0) = false := by
    have : L ≠ 0 := by omega
    simpa using this
  clear hL hx h1
  go_enter Tryd.func86, Tryd.ntmps86
  go_upto_region 1 with (fail)
  have X1 := (Bo.newAt w (g := w.heap.size) (by simp) #[.bool s, .slice A n c, .int .i64 E] 30).below (bel1 _ (.cells #[.int .i64 0, .bool false, .int .u64 0, .int .i64 0] 24))
  have XR := (Bo.newAt (w.alloc (.cells #[.bool s, .slice A n c, .int .i64 E] 30)) (g := w.heap.size + 1) (by simp) #[.int .i64 0, .bool false, .int .u64 0, .int .i64 0] 24)
  have HB := Lib.hid (bel2 w (.cells #[.bool s, .slice A n c, .int .i64 E] 30) (.cells #[.int .i64 0, .bool false, .int .u64 0, .int .i64 0] 24))
  replace h := h.below HB.out
  generalize hW1 : ((w.alloc (.cells #[.bool s, .slice A n c, .int .i64 E] 30)).alloc (.cells #[.int .i64 0, .bool false, .int .u64 0, .int .i64 0] 24)) = w1 at *
  clear hW1
  have xX10 := X1.a 0 (.bool s) rfl
  have xX11 := X1.a 1 (.slice A n c) rfl
  have xX12 := X1.a 2 (.int .i64 E) rfl
  go_wp2_with fail
  refine (vLenE h HL.out).mono ?_
  rintro ee w2 ⟨rfl, B⟩
  clear xX10 xX11 xX12
  replace X1 := X1.below B
  replace XR := XR.below B
  replace h := h.below B
  replace HB := Lib.hid (bt HB.out B)
  clear B
  have hx1 := HX1.out
  have hx2 := HX2.out
  have xXR0 := XR.a 0 (.int .i64 0) rfl
  have zXR0 := XR.frozen 0
  have xXR1 := XR.a 1 (.bool false) rfl
  have zXR1 := XR.frozen 1
  have xXR2 := XR.a 2 (.int .u64 0) rfl
  have zXR2 := XR.frozen 2
  have xXR3 := XR.a 3 (.int .i64 0) rfl
  have zXR3 := XR.frozen 3
  have xX10 := X1.a 0 (.bool s) rfl
  have xX11 := X1.a 1 (.slice A n c) rfl
  have xX12 := X1.a 2 (.int .i64 E) rfl
  go_wp2
  clear xXR0 zXR0 xXR1 zXR1 xXR2 zXR2 xXR3 zXR3 xX10 xX11 xX12
  have SX := StN.mk4 XR (.int .i64 0) (.bool false) (.int .u64 0) (.int .i64 0)
  replace X1 := X1.stn SX (by omega)
  replace h := h.stn SX (by simp [no32])
  replace HB := Lib.hid (SX.below HB.out (by omega))
  replace XR := SX.box
  clear SX
  generalize (World.setCell (World.setCell (World.setCell (World.setCell w2 ⟨w.heap.size + 1, 0, none⟩ (.int .i64 0)) ⟨w.heap.size + 1, 1, none⟩ (.bool false)) ⟨w.heap.size + 1, 2, none⟩ (.int .u64 0)) ⟨w.heap.size + 1, 3, none⟩ (.int .i64 0)) = w4 at *
  have r0 := XR.cell 0
  have r1 := XR.cell 1
  have r2 := XR.cell 2
  have r3 := XR.cell 3
  exact bodyPost_ret (v := .tuple #[.agg #[.int .i64 0, .bool false, .int .u64 0, .int .i64 0], .bool false]) (by simp [results, Tryd.results86, go_sem, r0, r1, r2, r3]) rfl ⟨_, _, _, _, rfl, Fq.nought, HB.out⟩
set_option maxHeartbeats 4000000 in
theorem ncut_mid {w : World} {A : Option Addr} {n c a : Nat} {s : Bool} {E L x r : Int} {t : Bool} (h : Rd w A n c a) (hn : n ≤ 100000) (b1 : -4194304 ≤ E) (b2 : E ≤ 4194304) (h0 : a ≠ 0) (hL : ((blen a : Nat) : Int) = L) (hx : E + L - 64 = x) (hx3 : -1048576 ≤ x) (hx4 : x ≤ 1048576) (hr : sgi s ((tp a : Int) - 9223372036854775808 + 1 + (x + 1048576) * 9223372036854775808) = r) (ht : decide (L ≤ 64) = t) :
    Calls Tryd.prog 86 #[.agg #[.bool s, .slice A n c, .int .i64 E]] w (PNB w r t) := by
  have hb := h.blen_le
  have h1 : blen a ≠ 0 := fun e => h0 (blen_eq_zero.1 e)
  have HL := Lib.hid hL
  have HX1 : Hid (IntKind.i64.wrap (E + L) = E + L) := Lib.hid (IntWalk.i64_in _ (by omega))
  have HX2 : Hid (IntKind.i64.wrap (E + L - 64) = x) := Lib.hid (by rw [hx]; exact IntWalk.i64_in _ (by omega))
  have e0 : (L == 0) = false := by
    have : L ≠ 0 := by omega
    simpa using this
  obtain ⟨T, hT⟩ : ∃ T, ((tp a : Nat) : Int) = T := ⟨_, rfl⟩
  rw [hT] at hr
  have hF : Fq 1 s T x r := by
    have g1 := tp_ge h0
    have g2 := tp_lt a
    exact Fq.fin (by omega) (by omega) hx3 hx4 hr
  have HT := Lib.hid hT
  have HTT := Lib.hid ht
  clear hL hx hr h1 hT ht
  go_enter Tryd.func86, Tryd.ntmps86
  go_upto_region 1 with (fail)
  have X1 := (Bo.newAt w (g := w.heap.size) (by simp) #[.bool s, .slice A n c, .int .i64 E] 30).below (bel1 _ (.cells #[.int .i64 0, .bool false, .int .u64 0, .int .i64 0] 24))
  have XR := (Bo.newAt (w.alloc (.cells #[.bool s, .slice A n c, .int .i64 E] 30)) (g := w.heap.size + 1) (by simp) #[.int .i64 0, .bool false, .int .u64 0, .int .i64 0] 24)
  have HB := Lib.hid (bel2 w (.cells #[.bool s, .slice A n c, .int .i64 E] 30) (.cells #[.int .i64 0, .bool false, .int .u64 0, .int .i64 0] 24))
  replace h := h.below HB.out
  generalize hW1 : ((w.alloc (.cells #[.bool s, .slice A n c, .int .i64 E] 30)).alloc (.cells #[.int .i64 0, .bool false, .int .u64 0, .int .i64 0] 24)) = w1 at *
  clear hW1
  have xX10 := X1.a 0 (.bool s) rfl
  have xX11 := X1.a 1 (.slice A n c) rfl
  have xX12 := X1.a 2 (.int .i64 E) rfl
  go_wp2_with fail
  refine (vLenE h HL.out).mono ?_
  rintro ee w2 ⟨rfl, B⟩
  clear xX10 xX11 xX12
  replace X1 := X1.below B
  replace XR := XR.below B
  replace h := h.below B
  replace HB := Lib.hid (bt HB.out B)
  clear B
  have hx1 := HX1.out
  have hx2 := HX2.out
  have xX10 := X1.a 0 (.bool s) rfl
  have xX11 := X1.a 1 (.slice A n c) rfl
  have xX12 := X1.a 2 (.int .i64 E) rfl
  go_upto_region 9 with (fail)
  clear hx1 hx2
  clear xX10 xX11 xX12
  refine Jo.region_late (g := w.heap.size + 1) (new := #[.int .i64 1, .bool s, .int .u64 T, .int .i64 x]) (R := 24) (T := [0, 1, 2, 3, 4, 5, 6, 7, 8, 9, 10, 11, 12]) (ds := [some 27, some 28, some 29, some 30, some 31, some 32, some 33, some 34, some 35, some 36, some 37, some 38, none, some 3]) (ls := [[], [0], [1], [], [3], [4], [], [5, 6], [], [2, 7, 8], [], [10], [9], []]) (k := 14) (L := [(some 27, 0), (some 28, 1), (some 29, 2), (some 30, 3), (some 31, 4), (some 32, 5), (some 33, 6), (some 34, 7), (some 35, 8), (some 36, 9), (some 37, 10), (some 38, 11), (none, 12)]) (fuel := 1)
    (F := [Jo.LFact.eq (.pointer (some ⟨w.heap.size, 0, none⟩)), Jo.LFact.eq (.pointer (some ⟨w.heap.size, 0, none⟩)), Jo.LFact.eq (.bool s), Jo.LFact.eq (.pointer (some ⟨w.heap.size, 0, none⟩)), Jo.LFact.eq (.pointer (some ⟨w.heap.size, 1, none⟩)), Jo.LFact.eq (.slice A n c), Jo.LFact.eq (.int .i64 L), Jo.LFact.eq (.int .u64 T), Jo.LFact.eq (.int .i64 x), Jo.LFact.eq (.agg #[.int .i64 1, .bool s, .int .u64 T, .int .i64 x]), Jo.LFact.eq (.int .i64 L), Jo.LFact.eq (.bool t), Jo.LFact.done, Jo.LFact.any])
    (by kernel_rfl) (by kernel_rfl) (by decide) rfl rfl ?_ (fun vs w3 hJ hd => ?_)
  · refine Jo.ld 0 (some 27) [] (Jo.LFact.eq (.pointer (some ⟨w.heap.size, 0, none⟩))) rfl rfl rfl rfl (fun vs wj hJ hd K hK => ?_) ?_
    · simp only [Jo.putl, Jo.ze, Act.put, Jo.za, Jo.zb, Jo.zc] at hK ⊢
      clear hd
      go_simp
      exact hK.out _ _ rfl (Jo.Off.refl _ _ _ _)
    refine Jo.ld 1 (some 28) [(some 27, 0)] (Jo.LFact.eq (.pointer (some ⟨w.heap.size, 0, none⟩))) rfl rfl rfl rfl (fun vs wj hJ hd K hK => ?_) ?_
    · simp only [Jo.putl, Jo.zd, Jo.ze, Act.put, Jo.za, Jo.zb, Jo.zc] at hK ⊢
      rw [show vs 0 = _ from hd 0 (by decide)] at hK ⊢
      clear hd
      go_simp
      exact hK.out _ _ rfl (Jo.Off.refl _ _ _ _)
    refine Jo.ld 2 (some 29) [(some 28, 1)] (Jo.LFact.eq (.bool s)) rfl rfl rfl rfl (fun vs wj hJ hd K hK => ?_) ?_
    · simp only [Jo.putl, Jo.zd, Jo.ze, Act.put, Jo.za, Jo.zb, Jo.zc] at hK ⊢
      rw [show vs 1 = _ from hd 1 (by decide)] at hK ⊢
      clear hd
      replace X1 := X1.off (by omega) hJ
      have xX10 := X1.a 0 (.bool s) rfl
      have xX11 := X1.a 1 (.slice A n c) rfl
      have xX12 := X1.a 2 (.int .i64 E) rfl
      go_simp
      exact hK.out _ _ rfl (Jo.Off.refl _ _ _ _)
    refine Jo.ld 3 (some 30) [] (Jo.LFact.eq (.pointer (some ⟨w.heap.size, 0, none⟩))) rfl rfl rfl rfl (fun vs wj hJ hd K hK => ?_) ?_
    · simp only [Jo.putl, Jo.ze, Act.put, Jo.za, Jo.zb, Jo.zc] at hK ⊢
      clear hd
      go_simp
      exact hK.out _ _ rfl (Jo.Off.refl _ _ _ _)
    refine Jo.ld 4 (some 31) [(some 30, 3)] (Jo.LFact.eq (.pointer (some ⟨w.heap.size, 1, none⟩))) rfl rfl rfl rfl (fun vs wj hJ hd K hK => ?_) ?_
    · simp only [Jo.putl, Jo.zd, Jo.ze, Act.put, Jo.za, Jo.zb, Jo.zc] at hK ⊢
      rw [show vs 3 = _ from hd 3 (by decide)] at hK ⊢
      clear hd
      go_simp
      exact hK.out _ _ rfl (Jo.Off.refl _ _ _ _)
    refine Jo.ld 5 (some 32) [(some 31, 4)] (Jo.LFact.eq (.slice A n c)) rfl rfl rfl rfl (fun vs wj hJ hd K hK => ?_) ?_
    · simp only [Jo.putl, Jo.zd, Jo.ze, Act.put, Jo.za, Jo.zb, Jo.zc] at hK ⊢
      rw [show vs 4 = _ from hd 4 (by decide)] at hK ⊢
      clear hd
      replace X1 := X1.off (by omega) hJ
      have xX10 := X1.a 0 (.bool s) rfl
      have xX11 := X1.a 1 (.slice A n c) rfl
      have xX12 := X1.a 2 (.int .i64 E) rfl
      go_simp
      exact hK.out _ _ rfl (Jo.Off.refl _ _ _ _)
    refine Jo.ld 6 (some 33) [] (Jo.LFact.eq (.int .i64 L)) rfl rfl rfl rfl (fun vs wj hJ hd K hK => ?_) ?_
    · simp only [Jo.putl, Jo.ze, Act.put, Jo.za, Jo.zb, Jo.zc] at hK ⊢
      clear hd
      go_simp
      exact hK.out _ _ rfl (Jo.Off.refl _ _ _ _)
    refine Jo.ld 7 (some 34) [(some 32, 5), (some 33, 6)] (Jo.LFact.eq (.int .u64 T)) rfl rfl rfl rfl (fun vs wj hJ hd K hK => ?_) ?_
    · simp only [Jo.putl, Jo.zd, Jo.ze, Act.put, Jo.za, Jo.zb, Jo.zc] at hK ⊢
      rw [show vs 5 = _ from hd 5 (by decide), show vs 6 = _ from hd 6 (by decide)] at hK ⊢
      clear hd
      go_simp
      refine (nWord (h.off XR (by simp [no32]) hJ) hn h0 HL.out HT.out).mono ?_
      rintro ee wk ⟨rfl, B⟩
      exact hK.out _ _ rfl (Jo.Off.of_below B (Nat.lt_of_lt_of_le XR.lt hJ.size))
    refine Jo.ld 8 (some 35) [] (Jo.LFact.eq (.int .i64 x)) rfl rfl rfl rfl (fun vs wj hJ hd K hK => ?_) ?_
    · simp only [Jo.putl, Jo.ze, Act.put, Jo.za, Jo.zb, Jo.zc] at hK ⊢
      clear hd
      go_simp
      exact hK.out _ _ rfl (Jo.Off.refl _ _ _ _)
    refine Jo.ld 9 (some 36) [(some 29, 2), (some 34, 7), (some 35, 8)] (Jo.LFact.eq (.agg #[.int .i64 1, .bool s, .int .u64 T, .int .i64 x])) rfl rfl rfl rfl (fun vs wj hJ hd K hK => ?_) ?_
    · simp only [Jo.putl, Jo.zd, Jo.ze, Act.put, Jo.za, Jo.zb, Jo.zc] at hK ⊢
      rw [show vs 2 = _ from hd 2 (by decide), show vs 7 = _ from hd 7 (by decide), show vs 8 = _ from hd 8 (by decide)] at hK ⊢
      clear hd
      go_simp
      exact hK.out _ _ rfl (Jo.Off.refl _ _ _ _)
    refine Jo.ld 10 (some 37) [] (Jo.LFact.eq (.int .i64 L)) rfl rfl rfl rfl (fun vs wj hJ hd K hK => ?_) ?_
    · simp only [Jo.putl, Jo.ze, Act.put, Jo.za, Jo.zb, Jo.zc] at hK ⊢
      clear hd
      go_simp
      exact hK.out _ _ rfl (Jo.Off.refl _ _ _ _)
    refine Jo.ld 11 (some 38) [(some 37, 10)] (Jo.LFact.eq (.bool t)) rfl rfl rfl rfl (fun vs wj hJ hd K hK => ?_) ?_
    · simp only [Jo.putl, Jo.zd, Jo.ze, Act.put, Jo.za, Jo.zb, Jo.zc] at hK ⊢
      rw [show vs 10 = _ from hd 10 (by decide)] at hK ⊢
      clear hd
      have htt := HTT.out
      go_simp
      exact hK.out _ _ (by first | rfl | (show Value.bool _ = Value.bool _; rw [htt])) (Jo.Off.refl _ _ _ _)
    refine Jo.ld 12 (none) [(some 36, 9)] (Jo.LFact.done) rfl rfl rfl rfl (fun vs wj hJ hd K hK => ?_) ?_
    · simp only [Jo.putl, Jo.zd, Jo.ze, Act.put, Jo.za, Jo.zb, Jo.zc] at hK ⊢
      rw [show vs 9 = _ from hd 9 (by decide)] at hK ⊢
      clear hd
      obtain ⟨v0, v1, v2, v3, XO⟩ : ∃ v0 v1 v2 v3, Bo wj (w.heap.size + 1) #[v0, v1, v2, v3] 24 := by
        rcases hJ.own with e | e
        · exact ⟨_, _, _, _, XR.keep e⟩
        · exact ⟨_, _, _, _, e⟩
      have y0 := XO.a 0 (v0) rfl
      have u0 := XO.frozen 0
      have y1 := XO.a 1 (v1) rfl
      have u1 := XO.frozen 1
      have y2 := XO.a 2 (v2) rfl
      have u2 := XO.frozen 2
      have y3 := XO.a 3 (v3) rfl
      have u3 := XO.frozen 3
      go_simp
      have SX := StN.mk4 XO (.int .i64 1) (.bool s) (.int .u64 T) (.int .i64 x)
      exact hK.out undef _ SX.box (Jo.Off.of_stn SX)
    exact Jo.Steps.nil
  have d12 : (Jo.LFact.done).P (vs 12) w3 := hd 12 (by decide)
  simp only [Jo.putl, Jo.zd, Jo.ze, Act.put, Jo.za, Jo.zb, Jo.zc]
  rw [show vs 2 = _ from hd 2 (by decide), show vs 5 = _ from hd 5 (by decide), show vs 6 = _ from hd 6 (by decide), show vs 7 = _ from hd 7 (by decide), show vs 8 = _ from hd 8 (by decide), show vs 9 = _ from hd 9 (by decide), show vs 10 = _ from hd 10 (by decide), show vs 11 = _ from hd 11 (by decide)]
  clear hd
  generalize vs 12 = u12 at d12 ⊢
  replace h := h.off XR (by simp [no32]) hJ
  replace HB := Lib.hid (hJ.below HB.out (by omega) XR.lt)
  replace X1 := X1.off (by omega) hJ
  replace XR : Bo w3 (w.heap.size + 1) #[.int .i64 1, .bool s, .int .u64 T, .int .i64 x] 24 := d12
  refine Jo.jnext (i := 13) (o := ⟨some 3, _, _, _, _, _⟩) (by kernel_rfl) rfl (fun K hK => ?_)
  go_simp
  refine hK.out _ _ ?_
  clear hK K
  refine Jo.jdone (by kernel_rfl) ?_
  go_wp2
  have r0 := XR.cell 0
  have r1 := XR.cell 1
  have r2 := XR.cell 2
  have r3 := XR.cell 3
  exact bodyPost_ret (v := .tuple #[.agg #[.int .i64 1, .bool s, .int .u64 T, .int .i64 x], .bool t]) (by simp [results, Tryd.results86, go_sem, r0, r1, r2, r3]) rfl ⟨_, _, _, _, rfl, hF, HB.out⟩
theorem nCut {w : World} {A : Option Addr} {n c a : Nat} {s : Bool} {E r : Int} {t : Bool} (h : Rd w A n c a) (hn : n ≤ 100000) (b1 : -4194304 ≤ E) (b2 : E ≤ 4194304) (hr : sgi s (lo a E) = r) (ht : ext a E = t) :
    Calls Tryd.prog 86 #[.agg #[.bool s, .slice A n c, .int .i64 E]] w (PNB w r t) := by
  unfold lo at hr
  unfold ext at ht
  by_cases h0 : a = 0
  · rw [if_pos h0] at hr
    have e0 : (a == 0) = true := by simpa using h0
    rw [e0] at ht
    exact ncut_zero (L := 0) (x := 0) h hn b1 b2 h0 (by rw [← hr]; cases s <;> rfl) ht
  · rw [if_neg h0] at hr
    have e0 : (a == 0) = false := by simpa using h0
    rw [e0, Bool.false_or] at ht
    have hx : E + ((blen a : Nat) : Int) - 64 = xp a E := rfl
    by_cases c1 : 1048576 < xp a E
    · rw [if_pos c1] at hr
      rw [show decide (xp a E ≤ 1048576) = false from decide_eq_false (by omega), Bool.false_and] at ht
      subst ht
      exact ncut_big h hn b1 b2 h0 rfl hx c1 hr
    · rw [if_neg c1] at hr
      rw [show decide (xp a E ≤ 1048576) = true from decide_eq_true (by omega), Bool.true_and] at ht
      by_cases c2 : xp a E < -1048576
      · rw [if_pos c2] at hr
        rw [show decide (-1048576 ≤ xp a E) = false from decide_eq_false (by omega), Bool.false_and] at ht
        subst ht
        obtain rfl : 0 = r := by rw [← hr]; cases s <;> rfl
        exact ncut_low h hn b1 b2 h0 rfl hx c2
      · rw [if_neg c2] at hr
        rw [show decide (-1048576 ≤ xp a E) = true from decide_eq_true (by omega), Bool.true_and] at ht
        refine ncut_mid h hn b1 b2 h0 rfl hx (by omega) (by omega) hr ?_
        rw [← ht, Bool.eq_iff_iff]
        simp
        omega
end Go.Proofs.YtpmakljahhhnfaaDoor

/-
  What num.Round and Exact do, and the document's limbs and Exact.
-/
namespace Go.Proofs.YtpmakljahhhnfaaDoor
open Go.RowKit
set_option linter.unusedVariables false
set_option linter.unusedSimpArgs false
set_option maxRecDepth 100000

theorem nx_sgi (s : Bool) {x : Int} (h0 : 0 ≤ x) (h1 : x ≤ 19342822337206103650074624) : nx (!s) (sgi s x) = sgi s (x + 1) := by
  have := TP_eq
  unfold nx
  cases s
  · show min TP (x + 1) = x + 1
    omega
  · show max (-TP) (-x - 1) = -(x + 1)
    omega
theorem nx_lo {a : Nat} {E : Int} (s : Bool) (h : ext a E = false) : nx (!s) (sgi s (lo a E)) = sgi s (hi a E) := by
  obtain ⟨h1, h2⟩ := lo_bd a E
  have hh : hi a E = lo a E + 1 := by
    unfold hi
    rw [h, if_neg (by decide)]
  rw [hh, nx_sgi s h1 h2]
theorem pick_t (s : Bool) (x y : Int) (b : Bool) (h : b = true) : sgi s (if b = true then x else y) = sgi s x := by rw [if_pos h]
theorem pick_f (s : Bool) (x y : Int) (b : Bool) (h : b = false) : sgi s (if b = true then x else y) = sgi s y := by rw [h, if_neg (by decide)]
theorem rnd_ext {up : Bool} {N E : Int} (h : ext N.natAbs E = true) : rnd up N E = sgi (decide (N < 0)) (lo N.natAbs E) := by
  unfold rnd hi
  rw [if_pos h]
  cases hb : (up != decide (N < 0))
  · exact pick_f _ _ _ _ rfl
  · exact pick_t _ _ _ _ rfl
theorem rnd_same {up s : Bool} {N E : Int} (hs : s = decide (N < 0)) (h : s = up) : rnd up N E = sgi s (lo N.natAbs E) := by
  unfold rnd
  rw [← hs, h]
  exact pick_f _ _ _ _ (by cases up <;> rfl)
theorem rnd_diff {s : Bool} {N E : Int} (hs : s = decide (N < 0)) : rnd (!s) N E = sgi s (hi N.natAbs E) := by
  unfold rnd
  rw [← hs]
  exact pick_t _ _ _ _ (by cases s <;> rfl)
set_option maxHeartbeats 4000000 in
theorem nround_y {w : World} {A : Option Addr} {n c : Nat} {s up : Bool} {z e N E r : Int} (hT : Tab w) (h : Wr w s A n c z) (hn : n ≤ 100000) (hN : (mk z e).1 = N) (hE : (mk z e).2 = E) (hr : rnd up N E = r) (hm : mayD s n z.natAbs e = true) :
    Calls Tryd.prog 65 #[.agg #[.bool s, .slice A n c, .int .i64 e], .bool up] w (PN w r) := by
  obtain ⟨b1, b2⟩ := mk_bd z e
  rw [hE] at b1 b2
  have HM := Lib.hid hm
  have HR := Lib.hid hr
  obtain ⟨hwn, hmk⟩ := mayD_true h hm
  obtain rfl : z = N := by rw [← hN, hmk]
  obtain rfl : e = E := by rw [← hE, hmk]
  have HSG := Lib.hid hwn.2
  have hd := hwn.1.rd
  clear hm hr hN hE hmk hwn
  go_enter Tryd.func65, Tryd.ntmps65
  go_upto_region 1 with (fail)
  have X1 := (Bo.newAt w (g := w.heap.size) (by simp) #[.bool s, .slice A n c, .int .i64 e] 30).below (bel1 _ (.cells #[.int .i64 0, .bool false, .int .u64 0, .int .i64 0] 24))
  have XR := (Bo.newAt (w.alloc (.cells #[.bool s, .slice A n c, .int .i64 e] 30)) (g := w.heap.size + 1) (by simp) #[.int .i64 0, .bool false, .int .u64 0, .int .i64 0] 24)
  have HB := Lib.hid (bel2 w (.cells #[.bool s, .slice A n c, .int .i64 e] 30) (.cells #[.int .i64 0, .bool false, .int .u64 0, .int .i64 0] 24))
  replace hT := hT.below HB.out
  replace h := h.below HB.out
  replace hd := hd.below HB.out
  generalize hW1 : ((w.alloc (.cells #[.bool s, .slice A n c, .int .i64 e] 30)).alloc (.cells #[.int .i64 0, .bool false, .int .u64 0, .int .i64 0] 24)) = w1 at *
  clear hW1
  have xX10 := X1.a 0 (.bool s) rfl
  have xX11 := X1.a 1 (.slice A n c) rfl
  have xX12 := X1.a 2 (.int .i64 e) rfl
  go_wp2_with fail
  refine (dMay h.rd HM.out).mono ?_
  rintro ee w2 ⟨rfl, B⟩
  clear xX10 xX11 xX12
  replace X1 := X1.below B
  replace XR := XR.below B
  replace hT := hT.below B
  replace h := h.below B
  replace hd := hd.below B
  replace HB := Lib.hid (bt HB.out B)
  clear B
  obtain ⟨x, hx⟩ : ∃ x, sgi s (lo z.natAbs e) = x := ⟨_, rfl⟩
  obtain ⟨t, ht⟩ : ∃ t, ext z.natAbs e = t := ⟨_, rfl⟩
  have HX := Lib.hid hx
  have HT := Lib.hid ht
  clear hx ht
  have xX10 := X1.a 0 (.bool s) rfl
  have xX11 := X1.a 1 (.slice A n c) rfl
  have xX12 := X1.a 2 (.int .i64 e) rfl
  go_wp2_with fail
  refine (nCut hd hn b1 b2 HX.out HT.out).mono ?_
  rintro ee w5 ⟨K2, s2, M2, E2, rfl, q2, B⟩
  clear xX10 xX11 xX12
  replace X1 := X1.below B
  replace XR := XR.below B
  replace hd := hd.below B
  replace HB := Lib.hid (bt HB.out B)
  clear B
  clear hd
  go_upto_region 4 with (fail)
  have lX5 := Nat.le_refl (World.heap w5).size
  have nX5X1 := X1.lt
  have nX5XR := XR.lt
  replace X1 := X1.below (bel1 _ (.cells #[.int .i64 K2, .bool s2, .int .u64 M2, .int .i64 E2] 24))
  replace XR := XR.below (bel1 _ (.cells #[.int .i64 K2, .bool s2, .int .u64 M2, .int .i64 E2] 24))
  replace HB := Lib.hid (bt HB.out (bel1 _ (.cells #[.int .i64 K2, .bool s2, .int .u64 M2, .int .i64 E2] 24)))
  have X5 := Bo.new w5 #[.int .i64 K2, .bool s2, .int .u64 M2, .int .i64 E2] 24
  generalize hWn : World.alloc w5 (.cells #[.int .i64 K2, .bool s2, .int .u64 M2, .int .i64 E2] 24) = w6 at *
  clear hWn
  clear lX5
  by_cases ht : t = true
  · subst ht
    obtain rfl : x = r := by rw [← HX.out, ← HR.out, rnd_ext HT.out, HSG.out]
    have xXR0 := XR.a 0 (.int .i64 0) rfl
    have zXR0 := XR.frozen 0
    have xXR1 := XR.a 1 (.bool false) rfl
    have zXR1 := XR.frozen 1
    have xXR2 := XR.a 2 (.int .u64 0) rfl
    have zXR2 := XR.frozen 2
    have xXR3 := XR.a 3 (.int .i64 0) rfl
    have zXR3 := XR.frozen 3
    have xX10 := X1.a 0 (.bool s) rfl
    have xX11 := X1.a 1 (.slice A n c) rfl
    have xX12 := X1.a 2 (.int .i64 e) rfl
    have xX50 := X5.a 0 (.int .i64 K2) rfl
    have xX51 := X5.a 1 (.bool s2) rfl
    have xX52 := X5.a 2 (.int .u64 M2) rfl
    have xX53 := X5.a 3 (.int .i64 E2) rfl
    go_wp2
    clear xXR0 zXR0 xXR1 zXR1 xXR2 zXR2 xXR3 zXR3 xX10 xX11 xX12 xX50 xX51 xX52 xX53
    have SX := StN.mk4 XR (.int .i64 K2) (.bool s2) (.int .u64 M2) (.int .i64 E2)
    replace X1 := X1.stn SX (by omega)
    replace X5 := X5.stn SX (by omega)
    replace HB := Lib.hid (SX.below HB.out (by omega))
    replace XR := SX.box
    clear SX
    generalize (World.setCell (World.setCell (World.setCell (World.setCell w6 ⟨w.heap.size + 1, 0, none⟩ (.int .i64 K2)) ⟨w.heap.size + 1, 1, none⟩ (.bool s2)) ⟨w.heap.size + 1, 2, none⟩ (.int .u64 M2)) ⟨w.heap.size + 1, 3, none⟩ (.int .i64 E2)) = w7 at *
    have r0 := XR.cell 0
    have r1 := XR.cell 1
    have r2 := XR.cell 2
    have r3 := XR.cell 3
    exact bodyPost_ret (v := .agg #[.int .i64 K2, .bool s2, .int .u64 M2, .int .i64 E2]) (by simp [results, Tryd.results65, go_sem, r0, r1, r2, r3]) rfl ⟨_, _, _, _, rfl, q2, HB.out⟩
  · have ht : t = false := by simpa using ht
    subst ht
    by_cases hs : s = up
    · obtain rfl : x = r := by rw [← HX.out, ← HR.out, rnd_same HSG.out hs]
      subst hs
      have xXR0 := XR.a 0 (.int .i64 0) rfl
      have zXR0 := XR.frozen 0
      have xXR1 := XR.a 1 (.bool false) rfl
      have zXR1 := XR.frozen 1
      have xXR2 := XR.a 2 (.int .u64 0) rfl
      have zXR2 := XR.frozen 2
      have xXR3 := XR.a 3 (.int .i64 0) rfl
      have zXR3 := XR.frozen 3
      have xX10 := X1.a 0 (.bool s) rfl
      have xX11 := X1.a 1 (.slice A n c) rfl
      have xX12 := X1.a 2 (.int .i64 e) rfl
      have xX50 := X5.a 0 (.int .i64 K2) rfl
      have xX51 := X5.a 1 (.bool s2) rfl
      have xX52 := X5.a 2 (.int .u64 M2) rfl
      have xX53 := X5.a 3 (.int .i64 E2) rfl
      go_wp2
      clear xXR0 zXR0 xXR1 zXR1 xXR2 zXR2 xXR3 zXR3 xX10 xX11 xX12 xX50 xX51 xX52 xX53
      have SX := StN.mk4 XR (.int .i64 K2) (.bool s2) (.int .u64 M2) (.int .i64 E2)
      replace X1 := X1.stn SX (by omega)
      replace X5 := X5.stn SX (by omega)
      replace HB := Lib.hid (SX.below HB.out (by omega))
      replace XR := SX.box
      clear SX
      generalize (World.setCell (World.setCell (World.setCell (World.setCell w6 ⟨w.heap.size + 1, 0, none⟩ (.int .i64 K2)) ⟨w.heap.size + 1, 1, none⟩ (.bool s2)) ⟨w.heap.size + 1, 2, none⟩ (.int .u64 M2)) ⟨w.heap.size + 1, 3, none⟩ (.int .i64 E2)) = w7 at *
      have r0 := XR.cell 0
      have r1 := XR.cell 1
      have r2 := XR.cell 2
      have r3 := XR.cell 3
      exact bodyPost_ret (v := .agg #[.int .i64 K2, .bool s2, .int .u64 M2, .int .i64 E2]) (by simp [results, Tryd.results65, go_sem, r0, r1, r2, r3]) rfl ⟨_, _, _, _, rfl, q2, HB.out⟩
    · obtain rfl : (!s) = up := by cases s <;> cases up <;> first | rfl | exact absurd rfl hs
      clear hs
      have e2 : (s == !s) = false := by cases s <;> rfl
      have HRR : Hid (nx (!s) (rk K2 s2 M2 E2) = r) := Lib.hid (by rw [q2.rk, ← HX.out, nx_lo s HT.out, ← HR.out, rnd_diff HSG.out])
      have xX10 := X1.a 0 (.bool s) rfl
      have xX11 := X1.a 1 (.slice A n c) rfl
      have xX12 := X1.a 2 (.int .i64 e) rfl
      have xX50 := X5.a 0 (.int .i64 K2) rfl
      have xX51 := X5.a 1 (.bool s2) rfl
      have xX52 := X5.a 2 (.int .u64 M2) rfl
      have xX53 := X5.a 3 (.int .i64 E2) rfl
      go_wp2_with fail
      refine (nNext q2.top HRR.out).mono ?_
      rintro ee w7 ⟨K3, s3, M3, E3, rfl, q3, B⟩
      clear xX10 xX11 xX12 xX50 xX51 xX52 xX53
      replace X1 := X1.below B
      replace XR := XR.below B
      replace X5 := X5.below B
      replace HB := Lib.hid (bt HB.out B)
      clear B
      have xXR0 := XR.a 0 (.int .i64 0) rfl
      have zXR0 := XR.frozen 0
      have xXR1 := XR.a 1 (.bool false) rfl
      have zXR1 := XR.frozen 1
      have xXR2 := XR.a 2 (.int .u64 0) rfl
      have zXR2 := XR.frozen 2
      have xXR3 := XR.a 3 (.int .i64 0) rfl
      have zXR3 := XR.frozen 3
      have xX10 := X1.a 0 (.bool s) rfl
      have xX11 := X1.a 1 (.slice A n c) rfl
      have xX12 := X1.a 2 (.int .i64 e) rfl
      have xX50 := X5.a 0 (.int .i64 K2) rfl
      have xX51 := X5.a 1 (.bool s2) rfl
      have xX52 := X5.a 2 (.int .u64 M2) rfl
      have xX53 := X5.a 3 (.int .i64 E2) rfl
      go_wp2
      clear xXR0 zXR0 xXR1 zXR1 xXR2 zXR2 xXR3 zXR3 xX10 xX11 xX12 xX50 xX51 xX52 xX53
      have SX := StN.mk4 XR (.int .i64 K3) (.bool s3) (.int .u64 M3) (.int .i64 E3)
      replace X1 := X1.stn SX (by omega)
      replace X5 := X5.stn SX (by omega)
      replace HB := Lib.hid (SX.below HB.out (by omega))
      replace XR := SX.box
      clear SX
      generalize (World.setCell (World.setCell (World.setCell (World.setCell w7 ⟨w.heap.size + 1, 0, none⟩ (.int .i64 K3)) ⟨w.heap.size + 1, 1, none⟩ (.bool s3)) ⟨w.heap.size + 1, 2, none⟩ (.int .u64 M3)) ⟨w.heap.size + 1, 3, none⟩ (.int .i64 E3)) = w8 at *
      have r0 := XR.cell 0
      have r1 := XR.cell 1
      have r2 := XR.cell 2
      have r3 := XR.cell 3
      exact bodyPost_ret (v := .agg #[.int .i64 K3, .bool s3, .int .u64 M3, .int .i64 E3]) (by simp [results, Tryd.results65, go_sem, r0, r1, r2, r3]) rfl ⟨_, _, _, _, rfl, q3, HB.out⟩
set_option maxHeartbeats 4000000 in
theorem nround_n {w : World} {A : Option Addr} {n c : Nat} {s up : Bool} {z e N E r : Int} (hT : Tab w) (h : Wr w s A n c z) (hn : n ≤ 100000) (hN : (mk z e).1 = N) (hE : (mk z e).2 = E) (hr : rnd up N E = r) (hm : mayD s n z.natAbs e = false) :
    Calls Tryd.prog 65 #[.agg #[.bool s, .slice A n c, .int .i64 e], .bool up] w (PN w r) := by
  obtain ⟨b1, b2⟩ := mk_bd z e
  rw [hE] at b1 b2
  have HM := Lib.hid hm
  have HR := Lib.hid hr
  have HN := Lib.hid hN
  have HE := Lib.hid hE
  clear hm hr hN hE
  go_enter Tryd.func65, Tryd.ntmps65
  go_upto_region 1 with (fail)
  have X1 := (Bo.newAt w (g := w.heap.size) (by simp) #[.bool s, .slice A n c, .int .i64 e] 30).below (bel1 _ (.cells #[.int .i64 0, .bool false, .int .u64 0, .int .i64 0] 24))
  have XR := (Bo.newAt (w.alloc (.cells #[.bool s, .slice A n c, .int .i64 e] 30)) (g := w.heap.size + 1) (by simp) #[.int .i64 0, .bool false, .int .u64 0, .int .i64 0] 24)
  have HB := Lib.hid (bel2 w (.cells #[.bool s, .slice A n c, .int .i64 e] 30) (.cells #[.int .i64 0, .bool false, .int .u64 0, .int .i64 0] 24))
  replace hT := hT.below HB.out
  replace h := h.below HB.out
  generalize hW1 : ((w.alloc (.cells #[.bool s, .slice A n c, .int .i64 e] 30)).alloc (.cells #[.int .i64 0, .bool false, .int .u64 0, .int .i64 0] 24)) = w1 at *
  clear hW1
  have xX10 := X1.a 0 (.bool s) rfl
  have xX11 := X1.a 1 (.slice A n c) rfl
  have xX12 := X1.a 2 (.int .i64 e) rfl
  go_wp2_with fail
  refine (dMay h.rd HM.out).mono ?_
  rintro ee w2 ⟨rfl, B⟩
  clear xX10 xX11 xX12
  replace X1 := X1.below B
  replace XR := XR.below B
  replace hT := hT.below B
  replace h := h.below B
  replace HB := Lib.hid (bt HB.out B)
  clear B
  have xX10 := X1.a 0 (.bool s) rfl
  have xX11 := X1.a 1 (.slice A n c) rfl
  have xX12 := X1.a 2 (.int .i64 e) rfl
  go_wp2_with fail
  refine (dMake hT h hn HN.out HE.out).mono ?_
  rintro ee w3 ⟨s1, A1, n1, c1, rfl, p1, k1, B⟩
  clear xX10 xX11 xX12
  replace X1 := X1.below B
  replace XR := XR.below B
  replace hT := hT.below B
  replace h := h.below B
  replace HB := Lib.hid (bt HB.out B)
  clear B
  have xX10 := X1.a 0 (.bool s) rfl
  have zX10 := X1.frozen 0
  have xX11 := X1.a 1 (.slice A n c) rfl
  have zX11 := X1.frozen 1
  have xX12 := X1.a 2 (.int .i64 e) rfl
  have zX12 := X1.frozen 2
  go_upto_region 3 with (fail)
  clear xX10 zX10 xX11 zX11 xX12 zX12
  have SX := StN.mk3 X1 (.bool s1) (.slice A1 n1 c1) (.int .i64 E)
  replace XR := XR.stn SX (by omega)
  replace p1 := p1.stn SX (by simp [no32])
  replace HB := Lib.hid (SX.below HB.out (by omega))
  replace X1 := SX.box
  clear SX
  generalize (World.setCell (World.setCell (World.setCell w3 ⟨w.heap.size, 0, none⟩ (.bool s1)) ⟨w.heap.size, 1, none⟩ (.slice A1 n1 c1)) ⟨w.heap.size, 2, none⟩ (.int .i64 E)) = w4 at *
  have HSG := Lib.hid p1.2
  have hd := p1.1.rd
  have hn1 : n1 ≤ 100000 := by omega
  clear p1
  obtain ⟨x, hx⟩ : ∃ x, sgi s1 (lo N.natAbs E) = x := ⟨_, rfl⟩
  obtain ⟨t, ht⟩ : ∃ t, ext N.natAbs E = t := ⟨_, rfl⟩
  have HX := Lib.hid hx
  have HT := Lib.hid ht
  clear hx ht
  have xX10 := X1.a 0 (.bool s1) rfl
  have xX11 := X1.a 1 (.slice A1 n1 c1) rfl
  have xX12 := X1.a 2 (.int .i64 E) rfl
  go_wp2_with fail
  refine (nCut hd hn1 b1 b2 HX.out HT.out).mono ?_
  rintro ee w5 ⟨K2, s2, M2, E2, rfl, q2, B⟩
  clear xX10 xX11 xX12
  replace X1 := X1.below B
  replace XR := XR.below B
  replace hd := hd.below B
  replace HB := Lib.hid (bt HB.out B)
  clear B
  clear hd
  go_upto_region 4 with (fail)
  have lX5 := Nat.le_refl (World.heap w5).size
  have nX5X1 := X1.lt
  have nX5XR := XR.lt
  replace X1 := X1.below (bel1 _ (.cells #[.int .i64 K2, .bool s2, .int .u64 M2, .int .i64 E2] 24))
  replace XR := XR.below (bel1 _ (.cells #[.int .i64 K2, .bool s2, .int .u64 M2, .int .i64 E2] 24))
  replace HB := Lib.hid (bt HB.out (bel1 _ (.cells #[.int .i64 K2, .bool s2, .int .u64 M2, .int .i64 E2] 24)))
  have X5 := Bo.new w5 #[.int .i64 K2, .bool s2, .int .u64 M2, .int .i64 E2] 24
  generalize hWn : World.alloc w5 (.cells #[.int .i64 K2, .bool s2, .int .u64 M2, .int .i64 E2] 24) = w6 at *
  clear hWn
  clear lX5
  by_cases ht : t = true
  · subst ht
    obtain rfl : x = r := by rw [← HX.out, ← HR.out, rnd_ext HT.out, HSG.out]
    have xXR0 := XR.a 0 (.int .i64 0) rfl
    have zXR0 := XR.frozen 0
    have xXR1 := XR.a 1 (.bool false) rfl
    have zXR1 := XR.frozen 1
    have xXR2 := XR.a 2 (.int .u64 0) rfl
    have zXR2 := XR.frozen 2
    have xXR3 := XR.a 3 (.int .i64 0) rfl
    have zXR3 := XR.frozen 3
    have xX10 := X1.a 0 (.bool s1) rfl
    have xX11 := X1.a 1 (.slice A1 n1 c1) rfl
    have xX12 := X1.a 2 (.int .i64 E) rfl
    have xX50 := X5.a 0 (.int .i64 K2) rfl
    have xX51 := X5.a 1 (.bool s2) rfl
    have xX52 := X5.a 2 (.int .u64 M2) rfl
    have xX53 := X5.a 3 (.int .i64 E2) rfl
    go_wp2
    clear xXR0 zXR0 xXR1 zXR1 xXR2 zXR2 xXR3 zXR3 xX10 xX11 xX12 xX50 xX51 xX52 xX53
    have SX := StN.mk4 XR (.int .i64 K2) (.bool s2) (.int .u64 M2) (.int .i64 E2)
    replace X1 := X1.stn SX (by omega)
    replace X5 := X5.stn SX (by omega)
    replace HB := Lib.hid (SX.below HB.out (by omega))
    replace XR := SX.box
    clear SX
    generalize (World.setCell (World.setCell (World.setCell (World.setCell w6 ⟨w.heap.size + 1, 0, none⟩ (.int .i64 K2)) ⟨w.heap.size + 1, 1, none⟩ (.bool s2)) ⟨w.heap.size + 1, 2, none⟩ (.int .u64 M2)) ⟨w.heap.size + 1, 3, none⟩ (.int .i64 E2)) = w7 at *
    have r0 := XR.cell 0
    have r1 := XR.cell 1
    have r2 := XR.cell 2
    have r3 := XR.cell 3
    exact bodyPost_ret (v := .agg #[.int .i64 K2, .bool s2, .int .u64 M2, .int .i64 E2]) (by simp [results, Tryd.results65, go_sem, r0, r1, r2, r3]) rfl ⟨_, _, _, _, rfl, q2, HB.out⟩
  · have ht : t = false := by simpa using ht
    subst ht
    by_cases hs : s1 = up
    · obtain rfl : x = r := by rw [← HX.out, ← HR.out, rnd_same HSG.out hs]
      subst hs
      have xXR0 := XR.a 0 (.int .i64 0) rfl
      have zXR0 := XR.frozen 0
      have xXR1 := XR.a 1 (.bool false) rfl
      have zXR1 := XR.frozen 1
      have xXR2 := XR.a 2 (.int .u64 0) rfl
      have zXR2 := XR.frozen 2
      have xXR3 := XR.a 3 (.int .i64 0) rfl
      have zXR3 := XR.frozen 3
      have xX10 := X1.a 0 (.bool s1) rfl
      have xX11 := X1.a 1 (.slice A1 n1 c1) rfl
      have xX12 := X1.a 2 (.int .i64 E) rfl
      have xX50 := X5.a 0 (.int .i64 K2) rfl
      have xX51 := X5.a 1 (.bool s2) rfl
      have xX52 := X5.a 2 (.int .u64 M2) rfl
      have xX53 := X5.a 3 (.int .i64 E2) rfl
      go_wp2
      clear xXR0 zXR0 xXR1 zXR1 xXR2 zXR2 xXR3 zXR3 xX10 xX11 xX12 xX50 xX51 xX52 xX53
      have SX := StN.mk4 XR (.int .i64 K2) (.bool s2) (.int .u64 M2) (.int .i64 E2)
      replace X1 := X1.stn SX (by omega)
      replace X5 := X5.stn SX (by omega)
      replace HB := Lib.hid (SX.below HB.out (by omega))
      replace XR := SX.box
      clear SX
      generalize (World.setCell (World.setCell (World.setCell (World.setCell w6 ⟨w.heap.size + 1, 0, none⟩ (.int .i64 K2)) ⟨w.heap.size + 1, 1, none⟩ (.bool s2)) ⟨w.heap.size + 1, 2, none⟩ (.int .u64 M2)) ⟨w.heap.size + 1, 3, none⟩ (.int .i64 E2)) = w7 at *
      have r0 := XR.cell 0
      have r1 := XR.cell 1
      have r2 := XR.cell 2
      have r3 := XR.cell 3
      exact bodyPost_ret (v := .agg #[.int .i64 K2, .bool s2, .int .u64 M2, .int .i64 E2]) (by simp [results, Tryd.results65, go_sem, r0, r1, r2, r3]) rfl ⟨_, _, _, _, rfl, q2, HB.out⟩
    · obtain rfl : (!s1) = up := by cases s1 <;> cases up <;> first | rfl | exact absurd rfl hs
      clear hs
      have e2 : (s1 == !s1) = false := by cases s1 <;> rfl
      have HRR : Hid (nx (!s1) (rk K2 s2 M2 E2) = r) := Lib.hid (by rw [q2.rk, ← HX.out, nx_lo s1 HT.out, ← HR.out, rnd_diff HSG.out])
      have xX10 := X1.a 0 (.bool s1) rfl
      have xX11 := X1.a 1 (.slice A1 n1 c1) rfl
      have xX12 := X1.a 2 (.int .i64 E) rfl
      have xX50 := X5.a 0 (.int .i64 K2) rfl
      have xX51 := X5.a 1 (.bool s2) rfl
      have xX52 := X5.a 2 (.int .u64 M2) rfl
      have xX53 := X5.a 3 (.int .i64 E2) rfl
      go_wp2_with fail
      refine (nNext q2.top HRR.out).mono ?_
      rintro ee w7 ⟨K3, s3, M3, E3, rfl, q3, B⟩
      clear xX10 xX11 xX12 xX50 xX51 xX52 xX53
      replace X1 := X1.below B
      replace XR := XR.below B
      replace X5 := X5.below B
      replace HB := Lib.hid (bt HB.out B)
      clear B
      have xXR0 := XR.a 0 (.int .i64 0) rfl
      have zXR0 := XR.frozen 0
      have xXR1 := XR.a 1 (.bool false) rfl
      have zXR1 := XR.frozen 1
      have xXR2 := XR.a 2 (.int .u64 0) rfl
      have zXR2 := XR.frozen 2
      have xXR3 := XR.a 3 (.int .i64 0) rfl
      have zXR3 := XR.frozen 3
      have xX10 := X1.a 0 (.bool s1) rfl
      have xX11 := X1.a 1 (.slice A1 n1 c1) rfl
      have xX12 := X1.a 2 (.int .i64 E) rfl
      have xX50 := X5.a 0 (.int .i64 K2) rfl
      have xX51 := X5.a 1 (.bool s2) rfl
      have xX52 := X5.a 2 (.int .u64 M2) rfl
      have xX53 := X5.a 3 (.int .i64 E2) rfl
      go_wp2
      clear xXR0 zXR0 xXR1 zXR1 xXR2 zXR2 xXR3 zXR3 xX10 xX11 xX12 xX50 xX51 xX52 xX53
      have SX := StN.mk4 XR (.int .i64 K3) (.bool s3) (.int .u64 M3) (.int .i64 E3)
      replace X1 := X1.stn SX (by omega)
      replace X5 := X5.stn SX (by omega)
      replace HB := Lib.hid (SX.below HB.out (by omega))
      replace XR := SX.box
      clear SX
      generalize (World.setCell (World.setCell (World.setCell (World.setCell w7 ⟨w.heap.size + 1, 0, none⟩ (.int .i64 K3)) ⟨w.heap.size + 1, 1, none⟩ (.bool s3)) ⟨w.heap.size + 1, 2, none⟩ (.int .u64 M3)) ⟨w.heap.size + 1, 3, none⟩ (.int .i64 E3)) = w8 at *
      have r0 := XR.cell 0
      have r1 := XR.cell 1
      have r2 := XR.cell 2
      have r3 := XR.cell 3
      exact bodyPost_ret (v := .agg #[.int .i64 K3, .bool s3, .int .u64 M3, .int .i64 E3]) (by simp [results, Tryd.results65, go_sem, r0, r1, r2, r3]) rfl ⟨_, _, _, _, rfl, q3, HB.out⟩
theorem nRound {w : World} {A : Option Addr} {n c : Nat} {s up : Bool} {z e N E r : Int} (hT : Tab w) (h : Wr w s A n c z) (hn : n ≤ 100000) (hN : (mk z e).1 = N) (hE : (mk z e).2 = E) (hr : rnd up N E = r) :
    Calls Tryd.prog 65 #[.agg #[.bool s, .slice A n c, .int .i64 e], .bool up] w (PN w r) := by
  cases hm : mayD s n z.natAbs e
  · exact nround_n hT h hn hN hE hr hm
  · exact nround_y hT h hn hN hE hr hm
def exb (D : Int) (s : Bool) (M E : Int) : Bool := decide (MayQ D s M E) && !(D == 2)
def exq (D : Int) (s : Bool) (M E : Int) : Int × Int := if exb D s M E = true then mk (sgi s M) E else (0, 0)
def Jo.Fact.rd (a K : Nat) : Jo.Fact := ⟨fun v w => ∃ A n c, v = .slice A n c ∧ Rd w A n c a ∧ n ≤ K, fun v w w' h b => by
  obtain ⟨A, n, c, e, h, k⟩ := h
  exact ⟨A, n, c, e, h.below b, k⟩⟩
end Go.Proofs.YtpmakljahhhnfaaDoor

/-
  Plain arithmetic for the statements of layer 3: floors, moves, products; the test of sizes.
-/
namespace Go.Proofs.YtpmakljahhhnfaaDoor
open Go.RowKit
set_option linter.unusedVariables false

theorem nat_p2 (k : Nat) : ((2 ^ k : Nat) : Int) = 2 ^ k := by simp
theorem vl_lt {h : Nat} {p : Int × Int} (hh : h ≤ 4194304) (fp : Fit h p) : -(2 ^ h * 2 ^ KK) < vl p ∧ vl p < 2 ^ h * 2 ^ KK := by
  have h1 := fp.2.2
  have hl := fp.lo
  have e1 : (vl p).natAbs * 2 ^ h < 2 ^ h * 2 ^ KK * 2 ^ h := by
    rw [vl_natAbs]
    have k1 : (p.2 + KK).toNat = (p.2 + h).toNat + (KK - h) := by rw [KK_eq]; omega
    rw [k1, Nat.pow_add, ← Nat.mul_assoc, Nat.mul_assoc _ (2 ^ (KK - h)), ← Nat.pow_add, Nat.mul_assoc (2 ^ h), ← Nat.pow_add, ← Nat.pow_add]
    have k2 : h + (KK + h) = 2 * h + (KK - h + h) := by rw [KK_eq]; omega
    rw [k2, Nat.pow_add 2 (2 * h)]
    exact Nat.mul_lt_mul_of_pos_right h1 (Nat.pow_pos (by decide))
  have e2 : (vl p).natAbs < 2 ^ h * 2 ^ KK := Nat.lt_of_mul_lt_mul_right e1
  have e3 : ((vl p).natAbs : Int) < 2 ^ h * 2 ^ KK := by
    have := Int.ofNat_lt.2 e2
    rwa [Int.natCast_mul, nat_p2, nat_p2] at this
  omega
end Go.Proofs.YtpmakljahhhnfaaDoor

/-
  What the statements of layer 5 rest on: how numbers that are rounded lie beside what they are rounded of. Plain arithmetic; no Go text.
-/
namespace Go.Proofs.YtpmakljahhhnfaaDoor
open Go.RowKit
set_option linter.unusedVariables false

theorem sgi_mul (s : Bool) (x y : Int) : sgi s x * y = sgi s (x * y) := by
  cases s
  · rfl
  · exact Int.neg_mul _ _
theorem vp_vr {x : Int} (s : Bool) (h : 0 < x) : vr (sgi s x) = sgi s (vp x) := by
  rw [vr_sgi]
  congr 1
  unfold vr
  rw [if_neg (by omega)]
/-- A number's worth is that of the dyadic one. -/
theorem exq_vl {D : Int} {s : Bool} {M E r : Int} (q : Fq D s M E r) (h1 : -19342822337206103650074625 < r) (h2 : r < 19342822337206103650074625) : exb D s M E = true ∧ vl (exq D s M E) = vr r := by
  have hb : exb D s M E = true := by
    unfold exb
    rw [decide_eq_true q.1, Bool.true_and]
    rcases q.cases with ⟨rfl, rfl, rfl, rfl, h0⟩ | ⟨rfl, _⟩ | ⟨rfl, rfl, rfl, ⟨rfl, h5⟩ | ⟨rfl, h5⟩⟩
    · rfl
    · rfl
    · omega
    · omega
  refine ⟨hb, ?_⟩
  unfold exq
  rw [if_pos hb]
  have hr := q.2.2
  rcases q.1 with ⟨rfl, rfl, rfl, rfl⟩ | ⟨rfl, g1, g2, g3⟩ | ⟨rfl, rfl, rfl⟩
  · obtain rfl : 0 = r := hr
    have e0 : sgi false 0 = 0 := if_neg (by decide)
    rw [e0, mk_zero, vl_zero]
    rfl
  · have hM := q.2.1
    have hpl : plc 1 M E = M - 9223372036854775808 + 1 + (E + 1048576) * 9223372036854775808 := rfl
    rw [hpl] at hr
    have ha : (sgi s M).natAbs = M.toNat := by
      cases s
      · show M.natAbs = M.toNat; omega
      · show (-M).natAbs = M.toNat; omega
    obtain ⟨η, hη⟩ : ∃ η : Nat, 4194304 = η := ⟨_, rfl⟩
    have hf := mk_fit (z := sgi s M) (e := E) (h := η) (by omega) (by omega) (by
      rw [ha]
      have : M.toNat < 2 ^ 64 := by omega
      have := Nat.mul_lt_mul_of_pos_right this (Nat.pow_pos (n := (E + (η : Int)).toNat) (show 0 < 2 by decide))
      rw [← Nat.pow_add] at this
      exact Nat.lt_of_lt_of_le this (Nat.pow_le_pow_right (by decide) (by omega)))
    rw [hf.2, ← hr, vp_vr s (by omega), vp_fin g1 hM (by omega), sgi_mul]
  · exfalso
    have : r = sgi s TP := hr.symm
    have := TP_eq
    cases s
    · have e : sgi false TP = TP := if_neg (by decide)
      omega
    · have e : sgi true TP = -TP := if_pos rfl
      omega
theorem rnd_nought (up : Bool) : rnd up 0 0 = 0 := by
  rw [rnd_ext rfl]
  rfl
/-- A whole number's place, and its worth. -/
def opl (n : Int) : Int := sgi (decide (n < 0)) (lo n.natAbs 0)
theorem opl_zero : opl 0 = 0 := rfl
theorem opl_vr {n : Int} (h1 : -9223372036854775808 ≤ n) (h2 : n ≤ 9223372036854775807) : vr (opl n) = n * 2 ^ KK := by
  by_cases h0 : n = 0
  · subst h0
    rw [opl_zero, Int.zero_mul]
    rfl
  · have q := of_fq h0 h1 h2
    have hs := of_shl h0 h1 h2
    have a3 := blen_mono_le (n := n.natAbs) (k := 64) (by omega)
    have hr : _ = opl n := q.2.2
    have g := q.plc (by decide)
    rcases g with ⟨_, g1, g2, g3, g4, g5⟩ | ⟨g, _⟩
    · rw [← hr, vp_vr _ (by rw [g5]; omega), g5, vp_fin g1 g2 (by omega), ← hs, Int.mul_assoc, ← Int.pow_add, show (64 - (blen n.natAbs : Int)).toNat + (-(64 - (blen n.natAbs : Int)) + (KK : Int)).toNat = KK by rw [KK_eq]; omega, ← sgi_mul]
      congr 1
      by_cases hn : n < 0
      · rw [decide_eq_true hn]; show -(n.natAbs : Int) = n; omega
      · rw [decide_eq_false hn]; show (n.natAbs : Int) = n; omega
    · exact absurd g (by decide)
theorem opl_cmp {a b : Int} (h1 : -9223372036854775808 ≤ a) (h2 : a ≤ 9223372036854775807) (k1 : -9223372036854775808 ≤ b) (k2 : b ≤ 9223372036854775807) : cmpI (opl a) (opl b) = cmpI a b := by
  rw [← vr_cmp, opl_vr h1 h2, opl_vr k1 k2, cmpI_scale (p2pos KK)]
end Go.Proofs.YtpmakljahhhnfaaDoor

/-
  What any dyadic number in normal form is rounded to, however great or small: how it lies beside its neighbours; of a greater one no lesser one. Plain arithmetic; no Go text.
-/
namespace Go.Proofs.YtpmakljahhhnfaaDoor
open Go.RowKit
set_option linter.unusedVariables false

/-- The place of the least number above, and of the greatest below, by the worth alone. -/
def Dn (X r : Int) : Prop := -19342822337206103650074625 ≤ r ∧ r ≤ 19342822337206103650074624 ∧ (-19342822337206103650074625 < r → vr r ≤ X) ∧ (r < 19342822337206103650074624 → X < vr (r + 1))
def Up (X r : Int) : Prop := Dn (-X) (-r)
theorem Dn.mono {X Y r t : Int} (h : Dn X r) (k : Dn Y t) (hXY : X ≤ Y) : r ≤ t := by
  obtain ⟨h1, h2, h3, h4⟩ := h
  obtain ⟨k1, k2, k3, k4⟩ := k
  rcases Int.lt_or_le t r with q | q
  · exfalso
    have a := h3 (by omega)
    have b := k4 (by omega)
    rcases Int.lt_or_eq_of_le (show t + 1 ≤ r by omega) with q | q
    · have := vr_lt q
      omega
    · rw [q] at b
      omega
  · exact q
theorem Dn.uniq {X r t : Int} (h : Dn X r) (k : Dn X t) : r = t := by
  have a := h.mono k (Int.le_refl _)
  have b := k.mono h (Int.le_refl _)
  omega
theorem Up.mono {X Y r t : Int} (h : Up X r) (k : Up Y t) (hXY : X ≤ Y) : r ≤ t := by
  have := Dn.mono k h (by omega)
  omega
theorem Up.uniq {X r t : Int} (h : Up X r) (k : Up X t) : r = t := by
  have := Dn.uniq h k
  omega
/-- A place's own worth is told by it, to either side. -/
theorem dn_self {r : Int} (h1 : -19342822337206103650074625 < r) (h2 : r < 19342822337206103650074625) : Dn (vr r) r := ⟨by omega, by omega, fun _ => Int.le_refl _, fun _ => vr_succ r⟩
theorem up_self {r : Int} (h1 : -19342822337206103650074625 < r) (h2 : r < 19342822337206103650074625) : Up (vr r) r := by
  unfold Up
  rw [← vr_neg]
  exact dn_self (by omega) (by omega)
theorem m_lt (m : Nat) {a b : Int} (ha : 0 ≤ a) (hb : 0 ≤ b) (h : (blen m : Int) + a ≤ b) : (m : Int) * 2 ^ a.toNat < 2 ^ b.toNat := by
  have h1 := Nat.mul_lt_mul_of_pos_right (blen_lt m) (Nat.pow_pos (n := a.toNat) (show 0 < 2 by decide))
  rw [← Nat.pow_add] at h1
  have h2 := Nat.lt_of_lt_of_le h1 (Nat.pow_le_pow_right (show 0 < 2 by decide) (show blen m + a.toNat ≤ b.toNat by omega))
  exact_mod_cast h2
theorem m_ge {m : Nat} (h0 : m ≠ 0) {a b : Int} (ha : 0 ≤ a) (hb : 0 ≤ b) (h : b ≤ (blen m : Int) - 1 + a) : (2 : Int) ^ b.toNat ≤ (m : Int) * 2 ^ a.toNat := by
  have hl : blen m ≠ 0 := fun e => h0 (blen_eq_zero.1 e)
  have h1 := Nat.mul_le_mul_right (2 ^ a.toNat) (blen_le h0)
  rw [← Nat.pow_add] at h1
  have h2 := Nat.le_trans (Nat.pow_le_pow_right (show 0 < 2 by decide) (show b.toNat ≤ blen m - 1 + a.toNat by omega)) h1
  exact_mod_cast h2
theorem vp_one : vp 1 = 2 ^ (63 - 1048576 + (KK : Int)).toNat := by
  have := vp_fin (M := 9223372036854775808) (E := -1048576) (by decide) (by decide) (by decide)
  rw [show (9223372036854775808 : Int) - 9223372036854775808 + 1 + (-1048576 + 1048576) * 9223372036854775808 = 1 by decide] at this
  rw [this, show (63 - 1048576 + (KK : Int)).toNat = 63 + (-1048576 + (KK : Int)).toNat by rw [KK_eq]; omega, Int.pow_add]
  rfl
theorem vp_top : vp 19342822337206103650074624 < 2 ^ (64 + 1048576 + (KK : Int)).toNat := by
  have := vp_fin (M := 18446744073709551615) (E := 1048576) (by decide) (by decide) (by decide)
  rw [show (18446744073709551615 : Int) - 9223372036854775808 + 1 + (1048576 + 1048576) * 9223372036854775808 = 19342822337206103650074624 by decide] at this
  rw [this, show (64 + 1048576 + (KK : Int)).toNat = 64 + (1048576 + (KK : Int)).toNat by rw [KK_eq]; omega, Int.pow_add]
  exact Int.mul_lt_mul_of_pos_right (by decide) (p2pos _)
/-- A number above nought between what is next to it on both sides. -/
theorem lo_dn {m : Nat} {E : Int} (h0 : m ≠ 0) (hE1 : -4194304 ≤ E) (hE2 : E ≤ 4194304) (ho : m % 2 = 1) : Dn ((m : Int) * 2 ^ (E + KK).toNat) (lo m E) ∧ Up ((m : Int) * 2 ^ (E + KK).toNat) (hi m E) ∧ 0 ≤ lo m E ∧ 0 ≤ hi m E := by
  have hk := KK_eq
  obtain ⟨b1, b2⟩ := lo_bd m E
  have hl : blen m ≠ 0 := fun e => h0 (blen_eq_zero.1 e)
  have hx : xp m E = E + (blen m : Nat) - 64 := rfl
  have e0 : (m == 0) = false := by simpa using h0
  have hpos : 0 < (m : Int) * 2 ^ (E + KK).toNat := Int.mul_pos (by omega) (p2pos _)
  by_cases c1 : 1048576 < xp m E
  · have el : lo m E = 19342822337206103650074624 := by
      unfold lo
      rw [if_neg h0, if_pos c1]
    have ex : ext m E = false := by
      unfold ext
      rw [e0, decide_eq_false (show ¬ xp m E ≤ 1048576 by omega)]
      rfl
    have eh : hi m E = lo m E + 1 := by
      unfold hi
      rw [ex, if_neg (by decide)]
    have g := m_ge h0 (a := E + KK) (b := 64 + 1048576 + KK) (by omega) (by omega) (by omega)
    have ht := vp_top
    have ev : vr 19342822337206103650074624 = vp 19342822337206103650074624 := by
      unfold vr
      rw [if_neg (by decide)]
    rw [eh, el]
    refine ⟨⟨by decide, by decide, fun _ => by omega, fun h => absurd h (by decide)⟩, ⟨by decide, by decide, fun h => absurd h (by decide), fun _ => ?_⟩, by decide, by decide⟩
    have en : vr (-(19342822337206103650074624 + 1) + 1) = -vr 19342822337206103650074624 := vr_neg 19342822337206103650074624
    omega
  · by_cases c2 : xp m E < -1048576
    · have el : lo m E = 0 := by
        unfold lo
        rw [if_neg h0, if_neg c1, if_pos c2]
      have ex : ext m E = false := by
        unfold ext
        rw [e0, decide_eq_false (show ¬ -1048576 ≤ xp m E by omega)]
        simp
      have eh : hi m E = lo m E + 1 := by
        unfold hi
        rw [ex, if_neg (by decide)]
      have g := m_lt m (a := E + KK) (b := 63 - 1048576 + KK) (by omega) (by omega) (by omega)
      have h1 := vp_one
      have ev : vr 1 = vp 1 := by
        unfold vr
        rw [if_neg (by decide)]
      have ez : vr 0 = 0 := rfl
      rw [eh, el]
      have en : vr (-(0 + 1)) = -vr 1 := vr_neg 1
      refine ⟨⟨by decide, by decide, fun _ => by omega, fun _ => ?_⟩, ⟨by decide, by decide, fun _ => by omega, fun _ => ?_⟩, by decide, by decide⟩
      · rw [show (0 : Int) + 1 = 1 from rfl]
        omega
      · rw [show (-(0 + 1) + 1 : Int) = 0 from rfl]
        omega
    · obtain ⟨v1, v2, v3, v4⟩ := lo_vr (m := m) (E := E) h0 (by omega) (by omega) (by omega) ho
      revert v1 v2 v3 v4
      have hh : hi m E = if ext m E = true then lo m E else lo m E + 1 := rfl
      cases hx : ext m E
      · rw [hx, if_neg (by decide)] at hh
        rw [hh]
        revert b1 b2
        generalize lo m E = l
        intro b1 b2 v1 v2 v3 v4
        have v5 := v4 rfl
        have n1 := vr_neg (l + 1)
        have n2 := vr_neg l
        refine ⟨⟨by omega, by omega, fun _ => v1, fun _ => v2⟩, ⟨by omega, by omega, fun _ => by omega, fun _ => ?_⟩, b1, by omega⟩
        rw [show -(l + 1) + 1 = -l by omega]
        omega
      · rw [hx, if_pos rfl] at hh
        rw [hh]
        revert b1 b2
        generalize lo m E = l
        intro b1 b2 v1 v2 v3 v4
        have v5 := v3 rfl
        have n1 := vr_neg l
        have n2 := vr_succ (-l)
        refine ⟨⟨by omega, by omega, fun _ => v1, fun _ => v2⟩, ⟨by omega, by omega, fun _ => by omega, fun _ => by omega⟩, b1, b1⟩
theorem up_of_dn {X r : Int} (h : Dn X r) : Up (-X) (-r) := by
  unfold Up
  rw [Int.neg_neg, Int.neg_neg]
  exact h
theorem dn_of_up {X r : Int} (h : Up X r) : Dn (-X) (-r) := h
/-- Rounding is told by the worth alone. -/
theorem rnd_spec {P : Int × Int} (hP : Nf P) : Dn (vl P) (rnd false P.1 P.2) ∧ Up (vl P) (rnd true P.1 P.2) := by
  rcases hP.cases with e | ⟨h0, ho, e1, e2⟩
  · subst e
    rw [rnd_nought, rnd_nought, vl_zero]
    have h := dn_self (r := 0) (by decide) (by decide)
    have k := up_self (r := 0) (by decide) (by decide)
    rw [show vr 0 = 0 from rfl] at h k
    exact ⟨h, k⟩
  · obtain ⟨d, u, _, _⟩ := lo_dn (m := P.1.natAbs) (E := P.2) (by omega) e1 e2 ho
    have hvl : vl P = P.1 * 2 ^ (P.2 + KK).toNat := rfl
    rcases Int.lt_or_lt_of_ne h0 with hn | hp
    · have hs : true = decide (P.1 < 0) := (decide_eq_true hn).symm
      have r1 := rnd_diff (E := P.2) hs
      have r2 := rnd_same (up := true) (E := P.2) hs rfl
      rw [show (!true) = false from rfl] at r1
      have ev : vl P = -((P.1.natAbs : Int) * 2 ^ (P.2 + KK).toNat) := by
        rw [hvl, ← Int.neg_mul]
        congr 1
        omega
      have s1 : ∀ x, sgi true x = -x := fun x => if_pos rfl
      rw [r1, r2, ev, s1, s1]
      exact ⟨dn_of_up u, up_of_dn d⟩
    · have hs : false = decide (P.1 < 0) := (decide_eq_false (by omega)).symm
      have r1 := rnd_same (up := false) (E := P.2) hs rfl
      have r2 := rnd_diff (E := P.2) hs
      rw [show (!false) = true from rfl] at r2
      have ev : vl P = (P.1.natAbs : Int) * 2 ^ (P.2 + KK).toNat := by
        rw [hvl]
        congr 1
        omega
      have s1 : ∀ x, sgi false x = x := fun x => if_neg (by decide)
      rw [r1, r2, ev, s1, s1]
      exact ⟨d, u⟩
theorem rnd_monoA {P Q : Int × Int} (hP : Nf P) (hQ : Nf Q) (h : vl P ≤ vl Q) (up : Bool) : rnd up P.1 P.2 ≤ rnd up Q.1 Q.2 := by
  cases up
  · exact (rnd_spec hP).1.mono (rnd_spec hQ).1 h
  · exact (rnd_spec hP).2.mono (rnd_spec hQ).2 h
/-- What is rounded down is not above what is rounded up, and of the opposite both are turned. -/
theorem rnd_turn {P : Int × Int} (hP : Nf P) (up : Bool) : rnd (!up) (-P.1) P.2 = -rnd up P.1 P.2 := by
  have hn : Nf (ng P) := ng_nf hP
  have hv := vl_ng P
  obtain ⟨a, b⟩ := rnd_spec hP
  obtain ⟨c, d⟩ := rnd_spec hn
  rw [hv] at c d
  cases up
  · have := d.uniq (up_of_dn a)
    exact this
  · have := c.uniq (dn_of_up b)
    exact this
end Go.Proofs.YtpmakljahhhnfaaDoor

/-
  Sums and products of numbers, rounded to either side, told of their places. Plain arithmetic; no Go text.
-/
namespace Go.Proofs.YtpmakljahhhnfaaDoor
open Go.RowKit
set_option linter.unusedVariables false

/-- The dyadic number that a finite place is. -/
def ep (r : Int) : Int × Int := if r = 0 then (0, 0) else mk (sgi (decide (r < 0)) (((r.natAbs : Int) - 1) % 9223372036854775808 + 9223372036854775808)) (((r.natAbs : Int) - 1) / 9223372036854775808 - 1048576)
theorem exq_ep {D : Int} {s : Bool} {M E r : Int} (q : Fq D s M E r) (hx : exb D s M E = true) : exq D s M E = ep r := by
  unfold exq ep
  rw [if_pos hx]
  rcases q.cases with ⟨rfl, rfl, rfl, rfl, h0⟩ | ⟨rfl, h1, h2, h3, h4, ⟨rfl, h5⟩ | ⟨rfl, h5⟩⟩ | ⟨rfl, _⟩
  · rw [if_pos h0, show sgi false 0 = 0 from if_neg (by decide)]
    exact mk_zero 0
  · rw [if_neg (by omega), decide_eq_false (show ¬ r < 0 by omega)]
    congr 2
    · omega
    · omega
  · rw [if_neg (by omega), decide_eq_true (show r < 0 by omega)]
    congr 2
    · omega
    · omega
  · exact absurd hx (by unfold exb; simp)
theorem fq_of {r : Int} (h1 : -19342822337206103650074625 < r) (h2 : r < 19342822337206103650074625) : ∃ D s M E, Fq D s M E r := by
  by_cases h0 : r = 0
  · exact ⟨0, false, 0, 0, h0 ▸ Fq.nought⟩
  · by_cases hn : r < 0
    · refine ⟨1, true, ((r.natAbs : Int) - 1) % 9223372036854775808 + 9223372036854775808, ((r.natAbs : Int) - 1) / 9223372036854775808 - 1048576, Fq.fin (by omega) (by omega) (by omega) (by omega) ?_⟩
      rw [show ∀ x, sgi true x = -x from fun x => if_pos rfl]
      omega
    · refine ⟨1, false, ((r.natAbs : Int) - 1) % 9223372036854775808 + 9223372036854775808, ((r.natAbs : Int) - 1) / 9223372036854775808 - 1048576, Fq.fin (by omega) (by omega) (by omega) (by omega) ?_⟩
      rw [show ∀ x, sgi false x = x from fun x => if_neg (by decide)]
      omega
theorem ep_vl {r : Int} (h1 : -19342822337206103650074625 < r) (h2 : r < 19342822337206103650074625) : vl (ep r) = vr r := by
  obtain ⟨D, s, M, E, q⟩ := fq_of h1 h2
  obtain ⟨a, b⟩ := exq_vl q h1 h2
  rw [← exq_ep q a, b]
/-- So far as exponents go. -/
theorem ep_fit (r : Int) (h1 : -19342822337206103650074625 < r) (h2 : r < 19342822337206103650074625) {h : Nat} (hh : 1048700 ≤ h) (hh2 : h ≤ 4194304) : Fit h (ep r) := by
  unfold ep
  by_cases h0 : r = 0
  · rw [if_pos h0]
    exact Fit.zero h
  · rw [if_neg h0]
    obtain ⟨M, hM⟩ : ∃ M, ((r.natAbs : Int) - 1) % 9223372036854775808 + 9223372036854775808 = M := ⟨_, rfl⟩
    obtain ⟨E, hE⟩ : ∃ E, ((r.natAbs : Int) - 1) / 9223372036854775808 - 1048576 = E := ⟨_, rfl⟩
    rw [hM, hE]
    refine (mk_fit (z := sgi (decide (r < 0)) M) (e := E) (h := h) hh2 (by omega) ?_).1
    have ha : (sgi (decide (r < 0)) M).natAbs = M.toNat := by
      cases decide (r < 0)
      · rw [show sgi false M = M from if_neg (by decide)]; omega
      · rw [show sgi true M = -M from if_pos rfl]; omega
    rw [ha]
    have : M.toNat < 2 ^ 64 := by omega
    have := Nat.mul_lt_mul_of_pos_right this (Nat.pow_pos (n := (E + (h : Int)).toNat) (show 0 < 2 by decide))
    rw [← Nat.pow_add] at this
    exact Nat.lt_of_lt_of_le this (Nat.pow_le_pow_right (by decide) (by omega))
/-- It is infinite. -/
def infp (x : Int) : Bool := x == TP || x == -TP
def mulp (up : Bool) (x y : Int) : Int :=
  if x = 0 ∨ y = 0 then 0 else if infp x = true ∨ infp y = true then sgi (decide (x < 0) != decide (y < 0)) TP else rnd up (ml (ep x) (ep y)).1 (ml (ep x) (ep y)).2
theorem infp_false {x : Int} (h1 : -19342822337206103650074625 ≤ x) (h2 : x ≤ 19342822337206103650074625) (h : infp x = false) : -19342822337206103650074625 < x ∧ x < 19342822337206103650074625 := by
  unfold infp at h
  simp [TP_eq] at h
  omega
theorem infp_true {x : Int} (h : infp x = true) : x = 19342822337206103650074625 ∨ x = -19342822337206103650074625 := by
  unfold infp at h
  simp [TP_eq] at h
  omega
/-- The exact sum's worth, and the rounded one's. -/
theorem sum_spec {x y : Int} (x1 : -19342822337206103650074625 < x) (x2 : x < 19342822337206103650074625) (y1 : -19342822337206103650074625 < y) (y2 : y < 19342822337206103650074625) : Nf (pl (ep x) (ep y)) ∧ vl (pl (ep x) (ep y)) = vr x + vr y := by
  obtain ⟨η, hη⟩ : ∃ η : Nat, η = 2000000 := ⟨_, rfl⟩
  have f := ep_fit x x1 x2 (h := η) (by omega) (by omega)
  have g := ep_fit y y1 y2 (h := η) (by omega) (by omega)
  obtain ⟨a, b⟩ := pl_fit (by omega) f g
  exact ⟨a.nf, by rw [b, ep_vl x1 x2, ep_vl y1 y2]⟩
theorem pro_spec {x y : Int} (x1 : -19342822337206103650074625 < x) (x2 : x < 19342822337206103650074625) (y1 : -19342822337206103650074625 < y) (y2 : y < 19342822337206103650074625) : Nf (ml (ep x) (ep y)) ∧ vl (ml (ep x) (ep y)) * 2 ^ KK = vr x * vr y := by
  obtain ⟨η, hη⟩ : ∃ η : Nat, η = 2000000 := ⟨_, rfl⟩
  have f := ep_fit x x1 x2 (h := η) (by omega) (by omega)
  have g := ep_fit y y1 y2 (h := η) (by omega) (by omega)
  obtain ⟨a, b⟩ := ml_fit (by omega) f g
  exact ⟨a.nf, by rw [b, ep_vl x1 x2, ep_vl y1 y2]⟩
theorem ff : ¬ (false = true) := Bool.false_ne_true
theorem mulp_zero {x y : Int} (up : Bool) (h : x = 0 ∨ y = 0) : mulp up x y = 0 := by
  unfold mulp
  rw [if_pos h]
theorem mulp_inf {x y : Int} (up : Bool) (h : ¬ (x = 0 ∨ y = 0)) (hi : infp x = true ∨ infp y = true) : mulp up x y = sgi (decide (x < 0) != decide (y < 0)) TP := by
  unfold mulp
  rw [if_neg h, if_pos hi]
theorem mulp_fin {x y : Int} (up : Bool) (h : ¬ (x = 0 ∨ y = 0)) (hi : ¬ (infp x = true ∨ infp y = true)) : mulp up x y = rnd up (ml (ep x) (ep y)).1 (ml (ep x) (ep y)).2 := by
  unfold mulp
  rw [if_neg h, if_neg hi]
theorem mulp_comm {x y : Int} (up : Bool) : mulp up x y = mulp up y x := by
  by_cases h0 : x = 0 ∨ y = 0
  · rw [mulp_zero up h0, mulp_zero up h0.symm]
  · have h0' : ¬ (y = 0 ∨ x = 0) := fun c => h0 c.symm
    by_cases h1 : infp x = true ∨ infp y = true
    · rw [mulp_inf up h0 h1, mulp_inf up h0' h1.symm]
      cases decide (x < 0) <;> cases decide (y < 0) <;> rfl
    · rw [mulp_fin up h0 h1, mulp_fin up h0' (fun c => h1 c.symm), ml_comm (ep x) (ep y)]
end Go.Proofs.YtpmakljahhhnfaaDoor

/-
  More of sums and products of places: the product grows with a factor that is not below nought; what nought and one do; what dy.Add may be asked of two finite numbers. Plain arithmetic; no Go text.
-/
namespace Go.Proofs.YtpmakljahhhnfaaDoor
open Go.RowKit
set_option linter.unusedVariables false

theorem vr_pos {x : Int} (h : 0 < x) : 0 < vr x := by
  have := vr_lt h
  rwa [show vr 0 = 0 from rfl] at this
theorem vr_nn {x : Int} (h : 0 ≤ x) : 0 ≤ vr x := by
  rcases Int.lt_or_eq_of_le h with q | q
  · exact Int.le_of_lt (vr_pos q)
  · rw [← q]; decide
theorem vr_le {x y : Int} (h : x ≤ y) : vr x ≤ vr y := by
  rcases Int.lt_or_eq_of_le h with q | q
  · exact Int.le_of_lt (vr_lt q)
  · rw [q]; exact Int.le_refl _
theorem sgT (s : Bool) : sgi s TP = TP ∨ sgi s TP = -TP := by
  cases s
  · exact .inl (if_neg (by decide))
  · exact .inr (if_pos rfl)
theorem ep_zero : ep 0 = (0, 0) := if_pos rfl
end Go.Proofs.YtpmakljahhhnfaaDoor

/-
  One and two as factors; numbers far apart; what is rounded to both sides lies beside the exact one. Plain arithmetic; no Go text.
-/
namespace Go.Proofs.YtpmakljahhhnfaaDoor
open Go.RowKit
set_option linter.unusedVariables false

/-- An exact worth that a place has is rounded to it, to either side. -/
theorem rnd_exact {P : Int × Int} (hP : Nf P) {r : Int} (up : Bool) (h1 : -19342822337206103650074625 < r) (h2 : r < 19342822337206103650074625) (h : vl P = vr r) : rnd up P.1 P.2 = r := by
  obtain ⟨a, b⟩ := rnd_spec hP
  rw [h] at a b
  cases up
  · exact a.uniq (dn_self h1 h2)
  · exact b.uniq (up_self h1 h2)
theorem opl_pos {n : Int} (h : 0 < n) (h1 : n ≤ 9223372036854775807) : 0 < opl n ∧ opl n < 19342822337206103650074625 := by
  have e : opl n = lo n.natAbs 0 := by
    unfold opl
    rw [decide_eq_false (show ¬ n < 0 by omega)]
    exact if_neg (by decide)
  have hc := opl_cmp (a := n) (b := 0) (by omega) h1 (by decide) (by decide)
  rw [opl_zero, cmpI_gt h] at hc
  have := (lo_bd n.natAbs 0).2
  rw [← e] at this
  refine ⟨?_, by omega⟩
  rcases cmpI_tri (opl n) 0 with ⟨a, b⟩ | ⟨a, b⟩ | ⟨a, b⟩
  · rw [b] at hc; exact absurd hc (by decide)
  · rw [b] at hc; exact absurd hc (by decide)
  · exact a
theorem infp_fin {x : Int} (h1 : -19342822337206103650074625 < x) (h2 : x < 19342822337206103650074625) : infp x = false := by
  cases h : infp x
  · rfl
  · have := infp_true h; omega
theorem mulp_one {x : Int} (up : Bool) (x1 : -19342822337206103650074625 ≤ x) (x2 : x ≤ 19342822337206103650074625) : mulp up x (opl 1) = x := by
  have htp := TP_eq
  obtain ⟨o1, o2⟩ := opl_pos (n := 1) (by decide) (by decide)
  have hv := opl_vr (n := 1) (by decide) (by decide)
  rw [Int.one_mul] at hv
  have oi := infp_fin (x := opl 1) (by omega) o2
  revert o1 o2 hv oi
  generalize opl 1 = o
  intro o1 o2 hv oi
  by_cases h0 : x = 0
  · rw [mulp_zero up (.inl h0), h0]
  · cases hx : infp x
    · obtain ⟨x3, x4⟩ := infp_false x1 x2 hx
      rw [mulp_fin up (by omega) (by rw [hx, oi]; simp)]
      obtain ⟨n, v⟩ := pro_spec x3 x4 (show -19342822337206103650074625 < o by omega) o2
      rw [hv] at v
      exact rnd_exact n up x3 x4 (Int.eq_of_mul_eq_mul_right (Int.ne_of_gt (p2pos KK)) v)
    · rw [mulp_inf up (by omega) (.inl hx), decide_eq_false (show ¬ o < 0 by omega)]
      rcases infp_true hx with q | q
      · rw [decide_eq_false (show ¬ x < 0 by omega), show sgi (false != false) TP = TP from if_neg (by decide)]
        omega
      · rw [decide_eq_true (show x < 0 by omega), show sgi (true != false) TP = -TP from if_pos rfl]
        omega
end Go.Proofs.YtpmakljahhhnfaaDoor

/-
  Sums of numbers far apart; half of twice as much. Plain arithmetic; no Go text.
-/
namespace Go.Proofs.YtpmakljahhhnfaaDoor
open Go.RowKit
set_option linter.unusedVariables false

/-- A half's place. -/
def hlf : Int := 9670816261106674691997697
theorem hlf_vr : vr hlf * 2 = 2 ^ KK := by
  have hk := KK_eq
  have := vp_fin (M := 9223372036854775808) (E := -64) (by decide) (by decide) (by decide)
  rw [show (9223372036854775808 : Int) - 9223372036854775808 + 1 + (-64 + 1048576) * 9223372036854775808 = hlf by decide] at this
  have e : vr hlf = vp hlf := by
    unfold vr
    rw [if_neg (by decide)]
  rw [e, this, show (9223372036854775808 : Int) = 2 ^ 63 by decide, Int.mul_right_comm, ← Int.pow_succ, ← Int.pow_add]
  rfl
end Go.Proofs.YtpmakljahhhnfaaDoor

/-
  Sums and products of two numbers within 128 bits: what is rounded of them is what is rounded of the exact ones, though far bits are told by one alone. Plain arithmetic; no Go text.
-/
namespace Go.Proofs.YtpmakljahhhnfaaDoor
open Go.RowKit
set_option linter.unusedVariables false

theorem wsg_f (x : Int) : sgi false x = x := if_neg (by decide)
theorem wsg_t (x : Int) : sgi true x = -x := if_pos rfl
theorem eq_rnd {P Q : Int × Int} (up : Bool) (hP : Nf P) (hQ : Nf Q) (h : vl P = vl Q) : rnd up P.1 P.2 = rnd up Q.1 Q.2 := by
  have a := rnd_monoA hP hQ (Int.le_of_eq h) up
  have b := rnd_monoA hQ hP (Int.le_of_eq h.symm) up
  exact Int.le_antisymm a b
theorem mk_vl {z e : Int} (h : z.natAbs < 2 ^ 128) (h1 : -3000000 ≤ e) (h2 : e ≤ 3000000) : vl (mk z e) = z * 2 ^ (e + KK).toNat := by
  obtain ⟨η, hη⟩ : ∃ η : Nat, η = 4000000 := ⟨_, rfl⟩
  refine (mk_fit (h := η) (by omega) (by omega) ?_).2
  have := Nat.mul_lt_mul_of_pos_right h (Nat.pow_pos (n := (e + (η : Int)).toNat) (show 0 < 2 by decide))
  rw [← Nat.pow_add] at this
  exact Nat.lt_of_lt_of_le this (Nat.pow_le_pow_right (by decide) (by omega))
theorem p2_le {a b : Nat} (h : a ≤ b) : (2 : Int) ^ a ≤ 2 ^ b := by
  have := Nat.pow_le_pow_right (show 0 < 2 by decide) h
  exact_mod_cast this
theorem div_le_self {M p : Int} (h0 : 0 ≤ M) (hp : 0 < p) : 0 ≤ M / p ∧ M / p ≤ M := ⟨Int.ediv_nonneg h0 (Int.le_of_lt hp), Int.ediv_le_self _ h0⟩
theorem fq_vr {s : Bool} {M E x : Int} (q : Fq 1 s M E x) : 9223372036854775808 ≤ M ∧ M < 18446744073709551616 ∧ -1048576 ≤ E ∧ E ≤ 1048576 ∧ -19342822337206103650074625 < x ∧ x < 19342822337206103650074625 ∧ x ≠ 0 ∧ vr x = sgi s (M * 2 ^ (E + KK).toNat) ∧ decide (x < 0) = s := by
  rcases q.cases with ⟨c, _⟩ | ⟨_, h1, h2, h3, h4, h5⟩ | ⟨c, _⟩
  · exact absurd c (by decide)
  · have hv := vp_fin h1 h2 h3
    have hx : x = sgi s (M - 9223372036854775808 + 1 + (E + 1048576) * 9223372036854775808) := by
      rcases h5 with ⟨rfl, h5⟩ | ⟨rfl, h5⟩
      · rw [wsg_f]; omega
      · rw [wsg_t]; omega
    have hw : vr x = sgi s (M * 2 ^ (E + KK).toNat) := by
      rw [hx, vp_vr s (by omega), hv]
    refine ⟨h1, h2, h3, h4, ?_, ?_, ?_, hw, ?_⟩
    · rcases h5 with ⟨_, h5⟩ | ⟨_, h5⟩ <;> omega
    · rcases h5 with ⟨_, h5⟩ | ⟨_, h5⟩ <;> omega
    · rcases h5 with ⟨_, h5⟩ | ⟨_, h5⟩ <;> omega
    · rcases h5 with ⟨rfl, h5⟩ | ⟨rfl, h5⟩
      · exact decide_eq_false (by omega)
      · exact decide_eq_true (by omega)
  · exact absurd c (by decide)
theorem sgi_abs (s : Bool) {S : Int} (h : 0 ≤ S) : (sgi s S).natAbs = S.toNat := by
  cases s
  · rw [wsg_f]; omega
  · rw [wsg_t]; omega
/-- The product of two. -/
theorem pro_wide {s1 s2 : Bool} {M1 M2 E1 E2 x y : Int} (up : Bool) (q1 : Fq 1 s1 M1 E1 x) (q2 : Fq 1 s2 M2 E2 y) :
    0 ≤ M1 * M2 ∧ M1 * M2 < 340282366920938463463374607431768211456 ∧ rnd up (mk (sgi (s1 != s2) (M1 * M2)) (E1 + E2)).1 (mk (sgi (s1 != s2) (M1 * M2)) (E1 + E2)).2 = mulp up x y := by
  obtain ⟨a1, a2, a3, a4, a5, a6, a7, a8, a9⟩ := fq_vr q1
  obtain ⟨b1, b2, b3, b4, b5, b6, b7, b8, b9⟩ := fq_vr q2
  have hk := KK_eq
  have h0 : 0 ≤ M1 * M2 := Int.mul_nonneg (by omega) (by omega)
  have h1 : M1 * M2 < 340282366920938463463374607431768211456 := by
    have l1 : M1 * M2 ≤ 18446744073709551615 * M2 := Int.mul_le_mul_of_nonneg_right (by omega) (by omega)
    omega
  refine ⟨h0, h1, ?_⟩
  rw [mulp_fin up (by omega) (by rw [infp_fin a5 a6, infp_fin b5 b6]; simp)]
  obtain ⟨nf, ev⟩ := pro_spec a5 a6 b5 b6
  have nfP := mk_nf (sgi (s1 != s2) (M1 * M2)) (E1 + E2)
  have evP := mk_vl (z := sgi (s1 != s2) (M1 * M2)) (e := E1 + E2) (by rw [sgi_abs _ h0]; omega) (by omega) (by omega)
  refine eq_rnd up nfP nf ?_
  refine Int.eq_of_mul_eq_mul_right (Int.ne_of_gt (p2pos KK)) ?_
  rw [ev, evP, a8, b8, Int.mul_assoc, ← Int.pow_add, show (E1 + E2 + (KK : Int)).toNat + KK = (E1 + (KK : Int)).toNat + (E2 + (KK : Int)).toNat by omega, Int.pow_add]
  generalize (2 : Int) ^ (E1 + (KK : Int)).toNat = U
  generalize (2 : Int) ^ (E2 + (KK : Int)).toNat = V
  have e : ∀ a b : Int, a * b * (U * V) = a * U * (b * V) := fun a b => by
    rw [Int.mul_assoc, Int.mul_assoc, ← Int.mul_assoc b, Int.mul_comm b U, Int.mul_assoc U]
  cases s1 <;> cases s2
  · rw [show (false != false) = false from rfl, wsg_f, wsg_f, wsg_f]; exact e _ _
  · rw [show (false != true) = true from rfl, wsg_f, wsg_t, wsg_t, Int.neg_mul, Int.mul_neg]; rw [e]
  · rw [show (true != false) = true from rfl, wsg_f, wsg_t, wsg_t, Int.neg_mul, Int.neg_mul]; rw [e]
  · rw [show (true != true) = false from rfl, wsg_f, wsg_t, wsg_t, Int.neg_mul, Int.mul_neg, Int.neg_neg]; exact e _ _
end Go.Proofs.YtpmakljahhhnfaaDoor
