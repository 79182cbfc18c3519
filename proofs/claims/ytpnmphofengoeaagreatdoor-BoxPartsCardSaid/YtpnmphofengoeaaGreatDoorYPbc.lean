/-
  Contracts and words that the statement's proof rests on: Xe.
-/
import Derived.Lib.SliceRun
import Derived.LoopIn
import Derived.LoopNIn
import Derived.OwnWalkIn
import Derived.Shelf.Abstract
import Derived.Stop.RegionWithIn
import Derived.TacticsInMore
import Derived.Test.YtpnmphofengoeaaGreatDoorYPav
import Derived.Test.YtpnmphofengoeaaGreatDoorYPaw
namespace Go.Proofs.YtpnmphofengoeaaGreatDoor
set_option maxHeartbeats 8000000
open Go.RowKit Go.Shelf
attribute [local go_sem] Oper.semAt_some
set_option linter.unusedVariables false
set_option linter.unusedSimpArgs false
set_option maxRecDepth 100000

abbrev N4 := Int × Bool × Int × Int
def topN : N4 → Prop
  | (_, _, M, _) => M < 18446744073709551616
def Nz (w : World) (A : Option Addr) (n c : Nat) (r : List N4) : Prop :=
  r.length = n ∧ n ≤ c ∧ n ≤ 1099511627776 ∧ (∀ v ∈ r, topN v) ∧ (0 < n → ∃ b o, A = some ⟨b, o, none⟩ ∧ ∀ j u, (nrow r)[j]? = some u → w.cell? ⟨b, o + j, none⟩ = some u)
section
variable {w w' : World} {n c : Nat} {A : Option Addr} {r : List V9} {q : List N4} {l : List Int}
theorem Nz.lt (h : Nz w A n c q) (hn : 0 < n) : ∀ k, ownA A = some k → k < w.heap.size := by
  obtain ⟨h1, h2, h3, h4, h5⟩ := h; obtain ⟨b, o, rfl, hc⟩ := h5 hn
  intro k hk
  cases hk
  obtain ⟨u, hu⟩ : ∃ u, (nrow q)[0]? = some u := ⟨(nrow q)[0]'(by rw [nrow_len]; omega), List.getElem?_eq_getElem (by rw [nrow_len]; omega)⟩; exact block_lt_of_cell (hc 0 u hu)
theorem Iq.at (h : Iq w A n c r) {k : Nat} (hk : k < n) {e s s' : Bool} {K M E K' M' E' : Int} (hv : r[k]? = some (e, K, s, M, E, K', s', M', E')) : ∃ b o, A = some ⟨b, o, none⟩ ∧ w.cell? ⟨b, o + k * 9, none⟩ = some (.bool e) ∧ w.cell? ⟨b, o + k * 9 + 1, none⟩ = some (.int .i64 K) ∧ w.cell? ⟨b, o + k * 9 + 2, none⟩ = some (.bool s) ∧ w.cell? ⟨b, o + k * 9 + 3, none⟩ = some (.int .u64 M) ∧ w.cell? ⟨b, o + k * 9 + 4, none⟩ = some (.int .i64 E) ∧ w.cell? ⟨b, o + k * 9 + 5, none⟩ = some (.int .i64 K') ∧ w.cell? ⟨b, o + k * 9 + 6, none⟩ = some (.bool s') ∧ w.cell? ⟨b, o + k * 9 + 7, none⟩ = some (.int .u64 M') ∧ w.cell? ⟨b, o + k * 9 + 8, none⟩ = some (.int .i64 E') := by
  obtain ⟨h1, h2, h3, h4, h5⟩ := h; obtain ⟨b, o, rfl, hc⟩ := h5 (by omega); obtain ⟨c0, c1, c2, c3, c4, c5, c6, c7, c8⟩ := vrow_getD r k (by omega) _ hv; refine ⟨b, o, rfl, hc _ _ c0, ?_, ?_, ?_, ?_, ?_, ?_, ?_, ?_⟩
  all_goals rw [Nat.add_assoc]; exact hc _ _ (by assumption)
theorem Nz.at (h : Nz w A n c q) {k : Nat} (hk : k < n) {s : Bool} {K M E : Int} (hv : q[k]? = some (K, s, M, E)) : ∃ b o, A = some ⟨b, o, none⟩ ∧ w.cell? ⟨b, o + k * 4, none⟩ = some (.int .i64 K) ∧ w.cell? ⟨b, o + k * 4 + 1, none⟩ = some (.bool s) ∧ w.cell? ⟨b, o + k * 4 + 2, none⟩ = some (.int .u64 M) ∧ w.cell? ⟨b, o + k * 4 + 3, none⟩ = some (.int .i64 E) := by
  obtain ⟨h1, h2, h3, h4, h5⟩ := h; obtain ⟨b, o, rfl, hc⟩ := h5 (by omega); obtain ⟨c0, c1, c2, c3⟩ := nrow_at q k K s M E hv; refine ⟨b, o, rfl, hc _ _ c0, ?_, ?_, ?_⟩
  all_goals rw [Nat.add_assoc]; exact hc _ _ (by assumption)
end
theorem grown_of_below {w w' : World} (h : Below w.heap.size w w') : w.grownBy w' none := ⟨h.os, h.tape, h.output, h.size, fun k hk _ => h.block k hk⟩
theorem KeepsOthers.of_below {w w' : World} (h : Below w.heap.size w w') : KeepsOthers w w' := KeepsOthers.of_grownBy (grown_of_below h) (fun j o e => by cases e)
def KpB (n₀ g : Nat) (W W' : World) : Prop := Below n₀ W W' ∧ W'.heap[g]? = W.heap[g]?
theorem KpB.trans {n₀ g : Nat} {A B C : World} (h : KpB n₀ g A B) (k : KpB n₀ g B C) : KpB n₀ g A C := ⟨h.1.trans k.1, k.2.trans h.2⟩
theorem KpB.of_below {n₀ g : Nat} {A B : World} (h : Below A.heap.size A B) (hn : n₀ ≤ A.heap.size) (hg : g < A.heap.size) : KpB n₀ g A B := ⟨h.mono hn, h.block g hg⟩
theorem KpB.turn {n₀ g : Nat} {w : World} (hn : n₀ ≤ w.heap.size) (hg : g < w.heap.size) (W : World) (l : Nat) (o o' : Obj) (hl : w.heap.size ≤ l) (h : W.heap[l]? = some o) (_ : o.isCells = false) (_ : o.isWalk = false) : KpB n₀ g W (W.putObj l o') :=
  ⟨(Below.refl n₀ W).grown (grownBy_putObj' W l o') (by have := (Array.getElem?_eq_some_iff.1 h).1; omega) (fun k e => by cases e; omega), World.putObj_heap_other (by omega)⟩
abbrev Ziv := { v : V9 × V9 // topV v.1 ∧ topV v.2 }
theorem Ziv.ex : ∀ {r : List V9} {q : List V9}, r.length = q.length → (∀ v ∈ r, topV v) → (∀ v ∈ q, topV v) → ∃ zs : List Ziv, zs.map (·.1.1) = r ∧ zs.map (·.1.2) = q
  | [], [], _, _, _ => ⟨[], rfl, rfl⟩
  | [], _ :: _, h, _, _ => by cases h
  | _ :: _, [], h, _, _ => by cases h
  | v :: r, u :: q, h, h1, h2 => by
    obtain ⟨zs, e1, e2⟩ := Ziv.ex (Nat.succ.inj h) (fun v h => h1 v (List.mem_cons_of_mem _ h)) (fun v h => h2 v (List.mem_cons_of_mem _ h))
    exact ⟨⟨(v, u), h1 v (List.mem_cons_self ..), h2 u (List.mem_cons_self ..)⟩ :: zs, by simp [e1], by simp [e2]⟩
def BInviv (n₀ g : Nat) (W : World) (J : List Ziv → World → Prop) (zs : List Ziv) (k : Nat) (wr : World) : Prop := J (zs.take k) wr ∧ KpB n₀ g W wr ∧ W.heap.size ≤ wr.heap.size
theorem bes1_iv {m l n₀ B1 B2 : Nat} {A B : Option Addr} {n ca cb : Nat} (zs : List Ziv) (J Jx : List Ziv → World → Prop) (W : World) (hJ : AbidesFrom W.heap.size J)
    (hY : ∀ pre x W1, J pre W1 → pre.length < zs.length → YieldAt Fence.wide (m - 1) Tryz.prog l #[valV x.1.1, valV x.1.2] W1 fun e W' => (e = .returned (.bool true) ∧ J (pre ++ [x]) W' ∧ KpB n₀ B2 W1 W') ∨ (e = .returned (.bool false) ∧ Jx (pre ++ [x]) W'))
    (X1 : Bo W B1 #[.slice A n ca] 22) (X2 : Bo W B2 #[.slice B n cb] 22) (qa : Iq W A n ca (zs.map (·.1.1))) (qb : Iq W B n cb (zs.map (·.1.2)))
    (la : 0 < n → ∀ k, ownA A = some k → k < n₀) (lb : 0 < n → ∀ k, ownA B = some k → k < n₀) (h0 : J [] W) (hn₀ : n₀ ≤ W.heap.size) :
    CallsIn Fence.wide m Tryz.prog 74 #[.func (.yield l) #[] #[], .pointer (some ⟨B1, 0, none⟩), .pointer (some ⟨B2, 0, none⟩)] W fun e W' => (∃ v, e = .returned v) ∧ ((∃ ys, ys = zs ∧ J ys W') ∨ (∃ pre, pre <+: zs ∧ Jx pre W')) := by
  have hln : zs.length = n := by
    have := qa.1
    rwa [List.length_map] at this
  have hcap := qa.2.1; have hcap2 := qb.2.1; have hbig := qa.2.2.1; have HJ := Lib.hid hJ; have HY := Lib.hid hY; have HA := Lib.hid qa; have HQ := Lib.hid qb; have LA := Lib.hid la; have LB := Lib.hid lb; have H0 := Lib.hid h0; have hb2 := X2.lt; clear hJ hY qa qb la lb h0; refine callsIn_of_wp Tryz.func74 rfl trivial ?_ rfl; refine wpIn_wide.2 ?_; simp only [Tryz.ntmps74, List.size_toArray, List.length_cons, List.length_nil, Nat.reduceAdd, Nat.reduceSub, Array.replicate_succ, Array.replicate_zero, List.push_toArray, List.append_toArray, List.nil_append, List.cons_append]
  have x10 := X1.a 0 (.slice A n ca) rfl; go_wp2; clear x10
  go_loopw [8] (fun i wr => ∃ k, k ≤ n ∧ i = .int .i64 ((k : Nat) : Int) ∧ BInviv n₀ B2 W J zs k wr) (fun i _ => n - (intOf i).toNat)
  case atStart => exact ⟨0, Nat.zero_le _, rfl, H0.out, ⟨Below.refl _ _, rfl⟩, Nat.le_refl _⟩
  case round =>
    obtain ⟨k, hk, rfl, hJ1, hKp, hsz⟩ := hrel
    by_cases hlt : k < n
    · have tlt : decide ((k : Int) < (n : Int)) = true := by simp; omega
      have i1 : (k : Int) < n := by omega
      have i2 : (0 : Int) ≤ k := by omega
      obtain ⟨x, hx⟩ : ∃ x, zs[k]? = some x := ⟨zs[k], List.getElem?_eq_getElem (by omega)⟩
      have htk : zs.take (k + 1) = zs.take k ++ [x] := by
        rw [List.take_add_one, hx]
        rfl
      have hxa : (zs.map (·.1.1))[k]? = some x.1.1 := by rw [List.getElem?_map, hx]; rfl
      have hxb : (zs.map (·.1.2))[k]? = some x.1.2 := by rw [List.getElem?_map, hx]; rfl
      have qa := HA.out.kept hKp.1 LA.out; have qb := HQ.out.kept hKp.1 LB.out
      have X2k : Bo wr B2 #[.slice B n cb] 22 := hKp.2.trans X2
      have hYk := HY.out (zs.take k) x; have HTK := Lib.hid htk; obtain ⟨⟨⟨e, D, s, M, E, D', s', M', E'⟩, ⟨e2, G, g, P, Q, G', g', P', Q'⟩⟩, hz⟩ := x; obtain ⟨b, o, rfl, x0, x1, x2, x3, x4, x5, x6, x7, x8⟩ := qa.at hlt hxa; obtain ⟨b', o', rfl, y0, y1, y2, y3, y4, y5, y6, y7, y8⟩ := qb.at hlt hxb
      have hlen : (zs.take k).length < zs.length := by rw [List.length_take]; omega
      have HYK := Lib.hid hYk; have HKP := Lib.hid hKp; have HJ1 := Lib.hid hJ1; clear hYk hKp hJ1 HA HQ htk hxa hxb hx qa qb X1 X2
      go_upto_region 3 with (fail)
      clear x0 x1 x2 x3 x4 x5 x6 x7 x8; have HB := Lib.hid (bel1 wr (.cells #[.bool e, .int .i64 D, .bool s, .int .u64 M, .int .i64 E, .int .i64 D', .bool s', .int .u64 M', .int .i64 E'] 34)); have X5 := Bo.new wr #[.bool e, .int .i64 D, .bool s, .int .u64 M, .int .i64 E, .int .i64 D', .bool s', .int .u64 M', .int .i64 E'] 34; have X2n := X2k.below HB.out; replace y0 := (HB.out.cell (block_lt_of_cell y0)).trans y0
      replace y1 := (HB.out.cell (block_lt_of_cell y1)).trans y1; replace y2 := (HB.out.cell (block_lt_of_cell y2)).trans y2; replace y3 := (HB.out.cell (block_lt_of_cell y3)).trans y3; replace y4 := (HB.out.cell (block_lt_of_cell y4)).trans y4; replace y5 := (HB.out.cell (block_lt_of_cell y5)).trans y5; replace y6 := (HB.out.cell (block_lt_of_cell y6)).trans y6; replace y7 := (HB.out.cell (block_lt_of_cell y7)).trans y7
      replace y8 := (HB.out.cell (block_lt_of_cell y8)).trans y8; generalize hw3 : wr.alloc (.cells #[.bool e, .int .i64 D, .bool s, .int .u64 M, .int .i64 E, .int .i64 D', .bool s', .int .u64 M', .int .i64 E'] 34) = w3 at *; clear hw3 X2k
      have hj3 : J (zs.take k) w3.drew := HJ.out _ wr w3.drew none HJ1.out (grown_of_below HB.out.drew) (fun r e => by cases e)
      obtain ⟨fn, tmps, assign, body, hy, hR⟩ := HYK.out w3.drew hj3 hlen
      dsimp only [valV, valV] at hy
      have hx2 := X2n.a 0 (.slice (some ⟨b', o', none⟩) n cb) rfl; have xX5 := X5.cell; clear hj3 HYK hlen
      have hR2 : RoundIn Fence.wide (m - 1) Tryz.prog l fn tmps assign body w3.drew (fun e W' => ∃ q : Bool, e = .returned (.bool q) ∧ ((q = true ∧ J (zs.take (k + 1)) W' ∧ KpB n₀ B2 w3.drew W') ∨ (q = false ∧ Jx (zs.take (k + 1)) W'))) := hR.mono (by
        rintro e W' (⟨rfl, h1, h2⟩ | ⟨rfl, h1⟩)
        · exact ⟨true, rfl, .inl ⟨rfl, by rw [HTK.out]; exact h1, h2⟩⟩
        · exact ⟨false, rfl, .inr ⟨rfl, by rw [HTK.out]; exact h1⟩⟩)
      clear hR; refine (wpIn_wide (n := m)).1 ?_
      gi_region_with (refine ⟨fun c => absurd c Bool.false_ne_true, hR2.mono ?_⟩; rintro e W3 ⟨q, rfl, hq⟩)
      all_goals
        have hsz3 : wr.heap.size ≤ w3.heap.size := HB.out.size
        have hkp := HKP.out.trans (KpB.of_below (g := B2) HB.out.drew (Nat.le_trans hn₀ hsz) (Nat.lt_of_lt_of_le hb2 hsz)); clear HKP hR2 hy
        rcases hq with ⟨rfl, hJ3, hk3⟩ | ⟨rfl, hJx3⟩
        · have hsz4 : w3.heap.size ≤ W3.heap.size := hk3.1.size
          have hkp2 := hkp.trans hk3; clear hkp hk3; go_wp2
          go_roundw
          case rel => exact ⟨k + 1, by omega, by go_num, hJ3, hkp2, by omega⟩
          case measure => simp [intOf]; omega
        · clear hkp; go_wp2; refine bodyPost_ret (results_none rfl _ _ _) rfl ?_; exact ⟨⟨_, rfl⟩, .inr ⟨_, List.take_prefix _ _, hJx3⟩⟩
    · obtain rfl : k = n := by omega
      have tlt : decide ((k : Int) < (k : Int)) = false := by simp
      have e1 : zs.take k = zs := List.take_of_length_le (by omega)
      rw [e1] at hJ1; clear hKp; go_wp2
      go_end0
      exact ⟨⟨_, rfl⟩, .inl ⟨_, rfl, hJ1⟩⟩
theorem bes_iv {w : World} {A B : Option Addr} {n ca m cb : Nat} : Calls Tryz.prog 51 #[.slice A n ca, .slice B m cb] w (fun e w' => e = .returned (.func (.func 74) #[] #[.pointer (some ⟨w.heap.size, 0, none⟩), .pointer (some ⟨w.heap.size + 1, 0, none⟩)]) ∧ w' = (w.alloc (.cells #[.slice A n ca] 22)).alloc (.cells #[.slice B m cb] 22)) := by
  have hmf : ∀ (fn : Fn) (first cap : Array Value) (w : World), (Instr.makeFunc fn first cap).run Tryz.prog w = .ok (.func fn first cap) w := fun _ _ _ _ => rfl
  go_enter Tryz.func51, Tryz.ntmps51
  go_wp2
  go_ret
  exact ⟨by simp, rfl⟩
theorem bes_stops_iv {m n₀ B1 B2 : Nat} {A B : Option Addr} {n ca cb : Nat} {w : World} (zs : List Ziv) (X1 : Bo w B1 #[.slice A n ca] 22) (X2 : Bo w B2 #[.slice B n cb] 22) (qa : Iq w A n ca (zs.map (·.1.1))) (qb : Iq w B n cb (zs.map (·.1.2)))
    (la : 0 < n → ∀ k, ownA A = some k → k < n₀) (lb : 0 < n → ∀ k, ownA B = some k → k < n₀) (hn₀ : n₀ ≤ w.heap.size) :
    SeqStopsK Fence.wide m Tryz.prog 74 #[.pointer (some ⟨B1, 0, none⟩), .pointer (some ⟨B2, 0, none⟩)] (fun x : Ziv => #[valV x.1.1, valV x.1.2]) (KpB n₀ B2) (fun ys => ys = zs) (fun pre => pre <+: zs) zs.length w := fun l J Jx W hW hJ _ hY h0 =>
  bes1_iv zs J Jx W hJ hY (X1.below hW) (X2.below hW) (qa.below hW) (qb.below hW) la lb h0 (Nat.le_trans hn₀ hW.size)
end Go.Proofs.YtpnmphofengoeaaGreatDoor
