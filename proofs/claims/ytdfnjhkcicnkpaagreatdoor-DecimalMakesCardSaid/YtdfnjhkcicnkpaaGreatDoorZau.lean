/-
  Contracts and words that the statements' proofs rest on, several texts in one: Tj, Tk, Tl.
-/
import Derived.Laws.RangeAny
import Derived.WalkMore
import Derived.Test.YtdfnjhkcicnkpaaGreatDoorZat
/-
  What decimal.cutDigits, mayLead, cutFraction answer.
-/
namespace Go.Proofs.YtdfnjhkcicnkpaaGreatDoor
open Go.RowKit
set_option linter.unusedVariables false
set_option linter.unusedSimpArgs false
set_option maxRecDepth 100000

theorem st_get (l : List UInt8) (k : Nat) (h : k < (st l).size) (h2 : k < l.length) : (st l)[k]'h = l[k] := by
  simp [ByteArray.getElem_eq_getElem_data]
theorem st_cut1 (l : List UInt8) (k : Nat) : (st l).extract 0 k = st (l.take k) := by
  rw [Lib.extract_eq, st_data]; simp
theorem st_cut2 (l : List UInt8) (k : Nat) : (st l).extract k (st l).size = st (l.drop k) := by
  rw [Lib.extract_eq, st_data, st_size]
  congr 1
  rw [List.take_of_length_le (by simp)]
theorem sl_head (l : List UInt8) (k : Nat) (h : k ≤ l.length) (w : World) : (Instr.slice 9 (.string (st l)) none (some (.int .i64 (k : Int))) none).run Tryz.prog w = .ok (.string (st (l.take k))) w := by
  rw [run_slice_string_h w 9 (st l) Tryz.underlying9 .i64 (k : Int) (by omega) (by rw [st_size]; omega), Int.toNat_natCast, st_cut1]
theorem sl_tail (l : List UInt8) (k : Nat) (h : k ≤ l.length) (w : World) : (Instr.slice 9 (.string (st l)) (some (.int .i64 (k : Int))) none none).run Tryz.prog w = .ok (.string (st (l.drop k))) w := by
  rw [run_slice_string_l w 9 (st l) Tryz.underlying9 .i64 (k : Int) (by omega) (by rw [st_size]; omega), Int.toNat_natCast, st_cut2]
/-- The next letter of a text: a digit is a digit, and what is none is read as none. -/
theorem next_dig (w : World) (l : List UInt8) (k : Nat) (h : k < l.length) (hd : isDig l[k] = true) (ty : TypeId) :
    (Instr.next (.pointer (some ⟨w.heap.size, 0, none⟩)) true ty).run Tryz.prog (w.iter (st l) k) = .ok (.tuple #[.bool true, .int .i64 k, .int .i32 ((l[k]).toNat : Nat)]) (w.iter (st l) (k + 1)) := by
  have hs : k < (st l).size := by rw [st_size]; exact h
  have e := st_get l k hs h
  have hc := isDig_of hd
  have := run_next_ascii (P := Tryz.prog) w (st l) k ty hs (by rw [e]; omega)
  rw [e] at this
  exact this
theorem next_not (w : World) (l : List UInt8) (k : Nat) (h : k < l.length) (hd : isDig l[k] = false) : ∃ (r p : Nat), ¬ (48 ≤ r ∧ r ≤ 57) ∧ r ≤ 2147483647 ∧ ∀ ty, 
    (Instr.next (.pointer (some ⟨w.heap.size, 0, none⟩)) true ty).run Tryz.prog (w.iter (st l) k) = .ok (.tuple #[.bool true, .int .i64 k, .int .i32 (r : Int)]) (w.iter (st l) p) := by
  have hs : k < (st l).size := by rw [st_size]; exact h
  have e := st_get l k hs h
  have hc := isDig_not hd
  refine ⟨(Utf8.decode (st l) k).1, k + (Utf8.decode (st l) k).2, ?_, decode_le _ _, fun ty => run_next_any (P := Tryz.prog) w (st l) k ty hs⟩
  by_cases ha : ((st l)[k]'hs).toNat < 128
  · rw [decode_ascii (st l) k hs ha, e]
    exact hc
  · have := (decode_high (st l) k hs (by omega)).1
    omega
theorem next_end (w : World) (l : List UInt8) (k : Nat) (h : ¬ k < l.length) (ty : TypeId) : (Instr.next (.pointer (some ⟨w.heap.size, 0, none⟩)) true ty).run Tryz.prog (w.iter (st l) k) = .ok (.tuple #[.bool false]) (w.iter (st l) k) :=
  run_next_end (P := Tryz.prog) w (st l) k ty (by rw [st_size]; exact h)

set_option maxHeartbeats 4000000 in
theorem dCutDigits (l : List UInt8) (w : World) (hl : l.length ≤ 1000) : Calls Tryz.prog 61 #[.string (st l)] w fun e w' => e = .returned (.tuple #[.string (st (l.take (runL l))), .string (st (l.drop (runL l)))]) ∧ Below w.heap.size w w' := by
  go_enter Tryz.func61, Tryz.ntmps61
  go_wp2
  go_step3
  go_wp2
  go_step3
  go_wp2
  go_loopw [4] (fun u wr => ∃ k : Nat, u = .int .i64 k ∧ k ≤ runL l ∧ wr = w.iter (st l) k) (fun u _ => 2000 - (intOf u).toNat)
  case atStart => exact ⟨0, rfl, Nat.zero_le _, rfl⟩
  case round =>
    obtain ⟨k, rfl, hk, rfl⟩ := hrel
    have hle := runL_le l
    by_cases hlt : k < runL l
    · have hd := runL_dig l k hlt (by omega)
      have hc := isDig_of hd
      have hnx := next_dig w l k (by omega) hd
      clear hd
      obtain ⟨c, hcc⟩ : ∃ c, (l[k]'(by omega)).toNat = c := ⟨_, rfl⟩
      rw [hcc] at hnx hc
      clear hcc
      have t1 : decide ((48 : Int) ≤ (c : Int)) = true := by simp; omega
      have t2 : decide ((c : Int) ≤ (57 : Int)) = true := by simp; omega
      go_wp2
      go_roundw
      case rel => exact ⟨k + 1, by simp, by omega, rfl⟩
      case measure => simp [intOf]; omega
    · obtain rfl : k = runL l := by omega
      have hT := fun w => sl_head l (runL l) hle w
      have hD := fun w => sl_tail l (runL l) hle w
      by_cases hend : runL l < l.length
      · obtain ⟨r, p, hr1, hr2, hnx⟩ := next_not w l (runL l) hend (runL_not l hend)
        clear hend
        by_cases h48 : 48 ≤ r
        · have t1 : decide ((48 : Int) ≤ (r : Int)) = true := by simp; omega
          have t2 : decide ((r : Int) ≤ (57 : Int)) = false := by simp; omega
          clear hr1 h48
          go_wp2
          go_region
          all_goals (go_wp2; (try rw [Exit.noGoto_ret]); go_ret2; exact ⟨rfl, (bel1 _ _).drew⟩)
        · have t1 : decide ((48 : Int) ≤ (r : Int)) = false := by simp; omega
          clear hr1 h48
          go_wp2
          go_region
          all_goals (go_wp2; (try rw [Exit.noGoto_ret]); go_ret2; exact ⟨rfl, (bel1 _ _).drew⟩)
      · have hnx := next_end w l (runL l) hend
        clear hend
        go_wp2
        go_region
        all_goals (go_wp2; (try rw [Exit.noGoto_ret]); go_ret2; exact ⟨rfl, (bel1 _ _).drew⟩)
end Go.Proofs.YtdfnjhkcicnkpaaGreatDoor

/-
  What decimal.mayLead, cutFraction answer.
-/
namespace Go.Proofs.YtdfnjhkcicnkpaaGreatDoor
open Go.RowKit
set_option linter.unusedVariables false
set_option linter.unusedSimpArgs false
set_option maxRecDepth 100000

/-- May digits lead? -/
def leadB (l : List UInt8) : Bool := (l == [48]) || (!l.isEmpty && !(l.head? == some 48))
theorem ix_at (l : List UInt8) (k : Nat) (h : k < l.length) (w : World) : (Instr.index 9 (.string (st l)) (.int .i64 (k : Int))).run Tryz.prog w = .ok (.int .u8 ((l[k]).toNat : Int)) w := by
  have hs : k < (st l).size := by rw [st_size]; exact h
  rw [run_index_string w 9 (st l) .i64 (k : Int) Tryz.underlying9, dif_pos ⟨by omega, by omega⟩]
  congr 3
theorem ix_head (c : UInt8) (l : List UInt8) (w : World) : (Instr.index 9 (.string (st (c :: l))) (.int .i64 0)).run Tryz.prog w = .ok (.int .u8 (c.toNat : Int)) w :=
  ix_at (c :: l) 0 (by simp) w
set_option maxHeartbeats 4000000 in
theorem dMayLead (l : List UInt8) (w : World) : Calls Tryz.prog 62 #[.string (st l)] w fun e w' => e = .returned (.bool (leadB l)) ∧ w' = w := by
  cases l with
  | nil =>
    go_enter Tryz.func62, Tryz.ntmps62
    go_wp2
    go_ret
    exact ⟨rfl, rfl⟩
  | cons c l =>
    have hie : (c :: l).isEmpty = false := rfl
    have hix := fun w => ix_head c l w
    by_cases hc : c = 48
    · subst hc
      cases l with
      | nil =>
        go_enter Tryz.func62, Tryz.ntmps62
        go_wp2
        go_ret
        exact ⟨rfl, rfl⟩
      | cons d l =>
        go_enter Tryz.func62, Tryz.ntmps62
        go_wp2
        go_ret
        exact ⟨rfl, rfl⟩
    · have h1 : ((c.toNat : Int) != 48) = true := by
        have : c.toNat ≠ 48 := fun e => hc (UInt8.toNat.inj (by rw [e]; rfl))
        simp; omega
      have h2 : (c == 48) = false := by simpa using hc
      have hl : leadB (c :: l) = true := by simp [leadB, hc]
      go_enter Tryz.func62, Tryz.ntmps62
      go_wp2
      go_ret
      exact ⟨by rw [hl]; rfl, rfl⟩

theorem sCutZ (l : List UInt8) (c : UInt8) (w : World) : Calls Tryz.prog 60 #[.string (st l), .string ⟨#[c]⟩] w fun e w' => e = .returned (.tuple #[.string (st (Lib.trimPrefix l [c])), .bool (Lib.hasPrefix l [c])]) ∧ w' = w := sCut l [c] w
theorem pre_no {l : List UInt8} {c : UInt8} (h : ∀ x, l.head? = some x → x ≠ c) : Lib.hasPrefix l [c] = false ∧ Lib.trimPrefix l [c] = l := by
  have e : Lib.hasPrefix l [c] = false := by
    cases l with
    | nil => rfl
    | cons x l =>
      have := h x rfl
      simp [Lib.hasPrefix, List.isPrefixOf]
      exact fun e => this e.symm
  exact ⟨e, by simp [Lib.trimPrefix, e]⟩
theorem pre_yes (l : List UInt8) (c : UInt8) : Lib.hasPrefix (c :: l) [c] = true ∧ Lib.trimPrefix (c :: l) [c] = l := by
  have e : Lib.hasPrefix (c :: l) [c] = true := by simp [Lib.hasPrefix, List.isPrefixOf]
  exact ⟨e, by simp [Lib.trimPrefix, e]⟩
theorem head_or (l : List UInt8) (c : UInt8) : (∃ r, l = c :: r) ∨ (∀ x, l.head? = some x → x ≠ c) := by
  cases l with
  | nil => exact .inr (by simp)
  | cons x l =>
    by_cases h : x = c
    · exact .inl ⟨l, by rw [h]⟩
    · exact .inr (by simpa using h)
/-- What cutFraction answers. -/
def fracA (l : List UInt8) : List UInt8 × List UInt8 × Bool :=
  if Lib.hasPrefix l [46] then ((Lib.trimPrefix l [46]).take (runL (Lib.trimPrefix l [46])), (Lib.trimPrefix l [46]).drop (runL (Lib.trimPrefix l [46])), !((Lib.trimPrefix l [46]).take (runL (Lib.trimPrefix l [46]))).isEmpty) else ([], l, true)

set_option maxHeartbeats 4000000 in
theorem dCutFraction (l : List UInt8) (w : World) (hl : l.length ≤ 1000) : Calls Tryz.prog 63 #[.string (st l)] w fun e w' => e = .returned (.tuple #[.string (st (fracA l).1), .string (st (fracA l).2.1), .bool (fracA l).2.2]) ∧ Below w.heap.size w w' := by
  rcases head_or l 46 with ⟨r, rfl⟩ | h
  · obtain ⟨e1, e2⟩ := pre_yes r 46
    have hA : fracA (46 :: r) = (r.take (runL r), r.drop (runL r), !(r.take (runL r)).isEmpty) := by unfold fracA; rw [e1, e2, if_pos rfl]
    have hr : r.length ≤ 1000 := by simp at hl; omega
    have hC := fun w => dCutDigits r w hr
    obtain ⟨D, hD⟩ : ∃ D, r.take (runL r) = D := ⟨_, rfl⟩
    obtain ⟨R, hR⟩ : ∃ R, r.drop (runL r) = R := ⟨_, rfl⟩
    rw [hD, hR] at hA
    simp only [hD, hR] at hC
    rw [hA]
    clear hA hD hR
    go_enter Tryz.func63, Tryz.ntmps63
    go_wp2_with fail
    refine (sCutZ _ 46 _).mono ?_
    rintro e w1 ⟨rfl, rfl⟩
    rw [e1, e2]
    go_wp2_with fail
    refine (hC _).mono ?_
    rintro e w2 ⟨rfl, B2⟩
    go_wp2
    go_ret3
    exact ⟨rfl, B2⟩
  · obtain ⟨e1, e2⟩ := pre_no h
    have hA : fracA l = ([], l, true) := by unfold fracA; rw [e1]; rfl
    rw [hA]
    clear hA
    go_enter Tryz.func63, Tryz.ntmps63
    go_wp2_with fail
    refine (sCutZ _ 46 _).mono ?_
    rintro e w1 ⟨rfl, rfl⟩
    rw [e1, e2]
    go_wp2
    go_ret3
    exact ⟨rfl, Below.refl _ _⟩
end Go.Proofs.YtdfnjhkcicnkpaaGreatDoor

/-
  What decimal.cutPower answers.
-/
namespace Go.Proofs.YtdfnjhkcicnkpaaGreatDoor
open Go.RowKit
set_option linter.unusedVariables false
set_option linter.unusedSimpArgs false
set_option maxRecDepth 100000

/-- What cutPower answers behind the e and the sign. -/
def powB (neg : Bool) (l : List UInt8) : Int × List UInt8 × Bool :=
  if (l.take (runL l)).isEmpty || decide (3 < (l.take (runL l)).length) then (0, [], false) else ((if neg then -(dval (l.take (runL l)) : Int) else dval (l.take (runL l))), l.drop (runL l), true)
/-- What cutPower answers. -/
def powA (l : List UInt8) : Int × List UInt8 × Bool :=
  if Lib.hasPrefix l [101] then powB (Lib.hasPrefix (Lib.trimPrefix l [101]) [45]) (Lib.trimPrefix (Lib.trimPrefix l [101]) [45]) else (0, l, true)
/-- The call answers a number, a text and a bool. -/
def P3S (w : World) (r : Int × List UInt8 × Bool) (e : Ending) (w' : World) : Prop := e = .returned (.tuple #[.int .i64 r.1, .string (st r.2.1), .bool r.2.2]) ∧ Below w.heap.size w w'

set_option maxHeartbeats 4000000 in
theorem dCutPower_no (l : List UInt8) (w : World) (h : ∀ x, l.head? = some x → x ≠ 101) : Calls Tryz.prog 64 #[.string (st l)] w (P3S w (0, l, true)) := by
  obtain ⟨e1, e2⟩ := pre_no h
  go_enter Tryz.func64, Tryz.ntmps64
  go_wp2_with fail
  refine (sCutZ _ 101 _).mono ?_
  rintro e w1 ⟨rfl, rfl⟩
  rw [e1, e2]
  go_wp2
  go_ret3
  exact ⟨rfl, Below.refl _ _⟩

set_option maxHeartbeats 4000000 in
theorem dCutPower_te {l1 l2 D R : List UInt8} (w : World) (e1 : Lib.hasPrefix l1 [45] = true) (e2 : Lib.trimPrefix l1 [45] = l2) (hl : l2.length ≤ 1000) (hD : l2.take (runL l2) = D) (hR : l2.drop (runL l2) = R) (hie : D.isEmpty = true) :
    Calls Tryz.prog 64 #[.string (st (101 :: l1))] w (P3S w (0, [], false)) := by
  obtain ⟨p1, p2⟩ := pre_yes l1 101
  have hC := fun w => dCutDigits l2 w hl
  simp only [hD, hR] at hC
  have hsz : (st D).size = D.length := st_size D
  clear hD hR
  go_enter Tryz.func64, Tryz.ntmps64
  go_wp2_with fail
  refine (sCutZ _ 101 _).mono ?_
  rintro e w1 ⟨rfl, rfl⟩
  rw [p1, p2]
  go_wp2_with fail
  refine (sCutZ _ 45 _).mono ?_
  rintro e w1 ⟨rfl, rfl⟩
  rw [e1, e2]
  go_wp2_with fail
  refine (hC _).mono ?_
  rintro e w2 ⟨rfl, B2⟩
  go_wp2
  go_ret3
  exact ⟨rfl, B2⟩

set_option maxHeartbeats 4000000 in
theorem dCutPower_tl {l1 l2 D R : List UInt8} (w : World) (e1 : Lib.hasPrefix l1 [45] = true) (e2 : Lib.trimPrefix l1 [45] = l2) (hl : l2.length ≤ 1000) (hD : l2.take (runL l2) = D) (hR : l2.drop (runL l2) = R) (hie : D.isEmpty = false) (h3 : 3 < D.length) :
    Calls Tryz.prog 64 #[.string (st (101 :: l1))] w (P3S w (0, [], false)) := by
  obtain ⟨p1, p2⟩ := pre_yes l1 101
  have hC := fun w => dCutDigits l2 w hl
  simp only [hD, hR] at hC
  have hsz : (st D).size = D.length := st_size D
  obtain ⟨d, hd⟩ : ∃ d, D.length = d := ⟨_, rfl⟩
  rw [hd] at hsz h3
  clear hd
  have t3 : decide ((3 : Int) < (d : Int)) = true := by simp; omega
  clear hD hR
  go_enter Tryz.func64, Tryz.ntmps64
  go_wp2_with fail
  refine (sCutZ _ 101 _).mono ?_
  rintro e w1 ⟨rfl, rfl⟩
  rw [p1, p2]
  go_wp2_with fail
  refine (sCutZ _ 45 _).mono ?_
  rintro e w1 ⟨rfl, rfl⟩
  rw [e1, e2]
  go_wp2_with fail
  refine (hC _).mono ?_
  rintro e w2 ⟨rfl, B2⟩
  go_wp2
  go_ret3
  exact ⟨rfl, B2⟩

set_option maxHeartbeats 4000000 in
theorem dCutPower_ty {l1 l2 D R : List UInt8} (w : World) (e1 : Lib.hasPrefix l1 [45] = true) (e2 : Lib.trimPrefix l1 [45] = l2) (hl : l2.length ≤ 1000) (hD : l2.take (runL l2) = D) (hR : l2.drop (runL l2) = R) (hie : D.isEmpty = false) (h3 : D.length ≤ 3) (hdg : ∀ c ∈ D, isDig c = true) :
    Calls Tryz.prog 64 #[.string (st (101 :: l1))] w (P3S w (-(dval D : Int), R, true)) := by
  obtain ⟨p1, p2⟩ := pre_yes l1 101
  have hC := fun w => dCutDigits l2 w hl
  simp only [hD, hR] at hC
  have hsz : (st D).size = D.length := st_size D
  have hA := fun w => sAtoi D w hdg (fun e => by rw [e] at hie; cases hie) h3
  have hv : dval D < 1000 := by
    have h1 := dval_lt D hdg
    have h2 := Nat.pow_le_pow_right (by decide : 0 < 10) h3
    omega
  obtain ⟨v, hv'⟩ : ∃ v, dval D = v := ⟨_, rfl⟩
  rw [hv'] at hv
  simp only [hv'] at hA
  rw [hv']
  clear hv' hdg
  obtain ⟨d, hd⟩ : ∃ d, D.length = d := ⟨_, rfl⟩
  rw [hd] at hsz h3
  clear hd
  have t3 : decide ((3 : Int) < (d : Int)) = false := by simp; omega
  clear hD hR
  go_enter Tryz.func64, Tryz.ntmps64
  go_wp2_with fail
  refine (sCutZ _ 101 _).mono ?_
  rintro e w1 ⟨rfl, rfl⟩
  rw [p1, p2]
  go_wp2_with fail
  refine (sCutZ _ 45 _).mono ?_
  rintro e w1 ⟨rfl, rfl⟩
  rw [e1, e2]
  go_wp2_with fail
  refine (hC _).mono ?_
  rintro e w2 ⟨rfl, B2⟩
  go_wp2_with fail
  refine (hA _).mono ?_
  rintro e w3 ⟨rfl, B3⟩
  go_wp2
  go_ret3
  exact ⟨rfl, bt B2 B3⟩

set_option maxHeartbeats 4000000 in
theorem dCutPower_fe {l1 l2 D R : List UInt8} (w : World) (e1 : Lib.hasPrefix l1 [45] = false) (e2 : Lib.trimPrefix l1 [45] = l2) (hl : l2.length ≤ 1000) (hD : l2.take (runL l2) = D) (hR : l2.drop (runL l2) = R) (hie : D.isEmpty = true) :
    Calls Tryz.prog 64 #[.string (st (101 :: l1))] w (P3S w (0, [], false)) := by
  obtain ⟨p1, p2⟩ := pre_yes l1 101
  have hC := fun w => dCutDigits l2 w hl
  simp only [hD, hR] at hC
  have hsz : (st D).size = D.length := st_size D
  clear hD hR
  go_enter Tryz.func64, Tryz.ntmps64
  go_wp2_with fail
  refine (sCutZ _ 101 _).mono ?_
  rintro e w1 ⟨rfl, rfl⟩
  rw [p1, p2]
  go_wp2_with fail
  refine (sCutZ _ 45 _).mono ?_
  rintro e w1 ⟨rfl, rfl⟩
  rw [e1, e2]
  go_wp2_with fail
  refine (hC _).mono ?_
  rintro e w2 ⟨rfl, B2⟩
  go_wp2
  go_ret3
  exact ⟨rfl, B2⟩

set_option maxHeartbeats 4000000 in
theorem dCutPower_fl {l1 l2 D R : List UInt8} (w : World) (e1 : Lib.hasPrefix l1 [45] = false) (e2 : Lib.trimPrefix l1 [45] = l2) (hl : l2.length ≤ 1000) (hD : l2.take (runL l2) = D) (hR : l2.drop (runL l2) = R) (hie : D.isEmpty = false) (h3 : 3 < D.length) :
    Calls Tryz.prog 64 #[.string (st (101 :: l1))] w (P3S w (0, [], false)) := by
  obtain ⟨p1, p2⟩ := pre_yes l1 101
  have hC := fun w => dCutDigits l2 w hl
  simp only [hD, hR] at hC
  have hsz : (st D).size = D.length := st_size D
  obtain ⟨d, hd⟩ : ∃ d, D.length = d := ⟨_, rfl⟩
  rw [hd] at hsz h3
  clear hd
  have t3 : decide ((3 : Int) < (d : Int)) = true := by simp; omega
  clear hD hR
  go_enter Tryz.func64, Tryz.ntmps64
  go_wp2_with fail
  refine (sCutZ _ 101 _).mono ?_
  rintro e w1 ⟨rfl, rfl⟩
  rw [p1, p2]
  go_wp2_with fail
  refine (sCutZ _ 45 _).mono ?_
  rintro e w1 ⟨rfl, rfl⟩
  rw [e1, e2]
  go_wp2_with fail
  refine (hC _).mono ?_
  rintro e w2 ⟨rfl, B2⟩
  go_wp2
  go_ret3
  exact ⟨rfl, B2⟩

set_option maxHeartbeats 4000000 in
theorem dCutPower_fy {l1 l2 D R : List UInt8} (w : World) (e1 : Lib.hasPrefix l1 [45] = false) (e2 : Lib.trimPrefix l1 [45] = l2) (hl : l2.length ≤ 1000) (hD : l2.take (runL l2) = D) (hR : l2.drop (runL l2) = R) (hie : D.isEmpty = false) (h3 : D.length ≤ 3) (hdg : ∀ c ∈ D, isDig c = true) :
    Calls Tryz.prog 64 #[.string (st (101 :: l1))] w (P3S w ((dval D : Int), R, true)) := by
  obtain ⟨p1, p2⟩ := pre_yes l1 101
  have hC := fun w => dCutDigits l2 w hl
  simp only [hD, hR] at hC
  have hsz : (st D).size = D.length := st_size D
  have hA := fun w => sAtoi D w hdg (fun e => by rw [e] at hie; cases hie) h3
  have hv : dval D < 1000 := by
    have h1 := dval_lt D hdg
    have h2 := Nat.pow_le_pow_right (by decide : 0 < 10) h3
    omega
  obtain ⟨v, hv'⟩ : ∃ v, dval D = v := ⟨_, rfl⟩
  rw [hv'] at hv
  simp only [hv'] at hA
  rw [hv']
  clear hv' hdg
  obtain ⟨d, hd⟩ : ∃ d, D.length = d := ⟨_, rfl⟩
  rw [hd] at hsz h3
  clear hd
  have t3 : decide ((3 : Int) < (d : Int)) = false := by simp; omega
  clear hD hR
  go_enter Tryz.func64, Tryz.ntmps64
  go_wp2_with fail
  refine (sCutZ _ 101 _).mono ?_
  rintro e w1 ⟨rfl, rfl⟩
  rw [p1, p2]
  go_wp2_with fail
  refine (sCutZ _ 45 _).mono ?_
  rintro e w1 ⟨rfl, rfl⟩
  rw [e1, e2]
  go_wp2_with fail
  refine (hC _).mono ?_
  rintro e w2 ⟨rfl, B2⟩
  go_wp2_with fail
  refine (hA _).mono ?_
  rintro e w3 ⟨rfl, B3⟩
  go_wp2
  go_ret3
  exact ⟨rfl, bt B2 B3⟩

theorem dCutPower (l : List UInt8) (w : World) (hl : l.length ≤ 1000) : Calls Tryz.prog 64 #[.string (st l)] w (P3S w (powA l)) := by
  rcases head_or l 101 with ⟨l1, rfl⟩ | h
  · obtain ⟨p1, p2⟩ := pre_yes l1 101
    unfold powA
    rw [p1, p2, if_pos rfl]
    have hl2 : (Lib.trimPrefix l1 [45]).length ≤ 1000 := by
      have := Lib.trimPrefix_le l1 [45]
      simp at hl
      omega
    cases e1 : Lib.hasPrefix l1 [45]
    all_goals
      obtain ⟨l2, e2⟩ : ∃ x, Lib.trimPrefix l1 [45] = x := ⟨_, rfl⟩
      rw [e2] at hl2 ⊢
      unfold powB
      have hdg := runL_take l2
      obtain ⟨D, hD⟩ : ∃ D, l2.take (runL l2) = D := ⟨_, rfl⟩
      obtain ⟨R, hR⟩ : ∃ R, l2.drop (runL l2) = R := ⟨_, rfl⟩
      rw [hD] at hdg
      rw [hD, hR]
      cases hie : D.isEmpty
      · by_cases h3 : 3 < D.length
        · rw [show decide (3 < D.length) = true by simpa using h3, Bool.false_or, if_pos rfl]
          first
            | exact dCutPower_fl w e1 e2 hl2 hD hR hie h3
            | exact dCutPower_tl w e1 e2 hl2 hD hR hie h3
        · rw [show decide (3 < D.length) = false by simpa using h3, Bool.false_or, if_neg (by decide)]
          first
            | exact dCutPower_fy w e1 e2 hl2 hD hR hie (by omega) hdg
            | exact dCutPower_ty w e1 e2 hl2 hD hR hie (by omega) hdg
      · rw [Bool.true_or, if_pos rfl]
        first
          | exact dCutPower_fe w e1 e2 hl2 hD hR hie
          | exact dCutPower_te w e1 e2 hl2 hD hR hie
  · have := dCutPower_no l w h
    unfold powA
    rw [(pre_no h).1]
    exact this
end Go.Proofs.YtdfnjhkcicnkpaaGreatDoor
