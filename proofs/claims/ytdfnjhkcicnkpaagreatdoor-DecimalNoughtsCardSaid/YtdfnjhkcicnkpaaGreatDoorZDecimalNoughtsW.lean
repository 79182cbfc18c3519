/-
  The walk of DecimalNoughts: for all arguments, where the table lies as it was laid, the call answers true, and nothing that was there has turned.
-/
import Derived.Test.YtdfnjhkcicnkpaaGreatDoorZai
import Derived.Test.YtdfnjhkcicnkpaaGreatDoorZak
import Derived.Test.YtdfnjhkcicnkpaaGreatDoorZbf
import Derived.Test.YtdfnjhkcicnkpaaGreatDoorZbg
namespace Go.Proofs.YtdfnjhkcicnkpaaGreatDoor
open Go.RowKit
set_option linter.unusedVariables false
set_option linter.unusedSimpArgs false
set_option maxRecDepth 100000

/-- What was seen of a text's first bytes: no e, no sign; whether a point. -/
def ScanP (l : List UInt8) (k : Nat) (b : Bool) : Prop := (∀ c ∈ l.take k, c ≠ 101 ∧ c ≠ 45) ∧ (b = true → ∃ c ∈ l.take k, c = 46)
theorem scan_next {l : List UInt8} {k : Nat} {b b' : Bool} (h : ScanP l k b) (hk : k < l.length) (h1 : l[k] ≠ 101) (h2 : l[k] ≠ 45) (h3 : b' = true → b = true ∨ l[k] = 46) : ScanP l (k + 1) b' := by
  have e := List.take_succ_eq_append_getElem hk
  refine ⟨fun c hc => ?_, fun hb => ?_⟩
  · rw [e] at hc
    rcases List.mem_append.1 hc with hc | hc
    · exact h.1 c hc
    · obtain rfl : c = l[k] := by simpa using hc
      exact ⟨h1, h2⟩
  · rw [e]
    rcases h3 hb with hb | hb
    · obtain ⟨c, hc, e2⟩ := h.2 hb
      exact ⟨c, List.mem_append.2 (.inl hc), e2⟩
    · exact ⟨l[k], List.mem_append.2 (.inr (by simp)), hb⟩
theorem u8_int {c : UInt8} {m : Nat} (hm : m < 256) : ((c.toNat : Int) == (m : Int)) = decide (c = UInt8.ofNat m) := by
  rw [Bool.eq_iff_iff]
  simp only [beq_iff_eq, decide_eq_true_eq]
  constructor
  · intro h
    apply UInt8.toNat.inj
    rw [UInt8.toNat_ofNat']
    omega
  · rintro rfl
    rw [UInt8.toNat_ofNat']
    omega

set_option maxHeartbeats 2000000 in
theorem decimalNoughts_long (l0 : List UInt8) (w : World) (hT : Pt w) (hl : 40 < l0.length) :
    Calls Tryz.prog 7 #[.string (st l0)] w (PB w true) := by
  have hsz : (st l0).size = l0.length := st_size l0
  obtain ⟨d, hd⟩ : ∃ d, l0.length = d := ⟨_, rfl⟩
  rw [hd] at hsz hl
  have t1 : decide ((40 : Int) < (d : Int)) = true := by simp; omega
  clear hd
  go_enter Tryz.func7, Tryz.ntmps7
  have HB := Lib.hid (Below.refl w.heap.size w)
  go_wp2_with fail
  refine (awake4 _ hT).mono ?_
  rintro ee w2 ⟨rfl, B⟩
  replace hT := hT.below B
  replace HB := Lib.hid (bt HB.out B)
  clear B
  go_wp2
  go_ret
  exact ⟨rfl, HB.out⟩

set_option maxHeartbeats 8000000 in
theorem decimalNoughts_n (l0 : List UInt8) (w : World) (hT : Pt w) (hl : l0.length ≤ 40) (z t x : Int) (hp : tparse l0 = ((z, t), x)) (hx : x ≠ 0) :
    Calls Tryz.prog 7 #[.string (st l0)] w (PB w true) := by
  have hstep : ∀ k, k < l0.length → ∃ c : Nat, (∀ w, (Instr.index 9 (.string (st l0)) (.int .i64 (k : Int))).run Tryz.prog w = .ok (.int .u8 (c : Int)) w) ∧ ∀ b, ScanP l0 k b → ((c : Int) == 101) = false → ((c : Int) == 45) = false → (b = true → ScanP l0 (k + 1) true) ∧ (((c : Int) == 46) = true → ScanP l0 (k + 1) true) ∧ ScanP l0 (k + 1) b := by
    intro k hk
    refine ⟨_, fun w => ix_at l0 k hk w, fun b hS h1 h2 => ?_⟩
    have e1 := u8_int (c := l0[k]) (m := 101) (by decide)
    have e2 := u8_int (c := l0[k]) (m := 45) (by decide)
    have e3 := u8_int (c := l0[k]) (m := 46) (by decide)
    have n1 : l0[k] ≠ 101 := by
      have := e1.symm.trans h1
      simpa using this
    have n2 : l0[k] ≠ 45 := by
      have := e2.symm.trans h2
      simpa using this
    refine ⟨fun hb => scan_next hS hk n1 n2 (fun _ => .inl hb), fun h => scan_next hS hk n1 n2 (fun _ => .inr ?_), scan_next hS hk n1 n2 (fun h => .inl h)⟩
    have := e3.symm.trans h
    simpa using this
  have hsz : (st l0).size = l0.length := st_size l0
  obtain ⟨d, hd⟩ : ∃ d, l0.length = d := ⟨_, rfl⟩
  rw [hd] at hsz hl
  have t1 : decide ((40 : Int) < (d : Int)) = false := by simp; omega
  have HP := Lib.hid (fun w => vParseE w hp)
  have tx : (x == 0) = false := by simpa using hx
  have tx2 : decide (x = 0) = false := by simpa using hx
  have tx3 : (x = 0) = False := by simpa using hx
  rw [hd] at hstep
  have HS := Lib.hid hstep
  clear hstep hd hp
  go_enter Tryz.func7, Tryz.ntmps7
  have HB := Lib.hid (Below.refl w.heap.size w)
  go_wp2_with fail
  refine (awake4 _ hT).mono ?_
  rintro ee w2 ⟨rfl, B⟩
  replace hT := hT.below B
  replace HB := Lib.hid (bt HB.out B)
  clear B
  go_wp2
  go_loopw [4, 5] (fun pt i wr => ∃ (k : Nat) (b : Bool), i = .int .i64 k ∧ k ≤ d ∧ pt = .bool b ∧ ScanP l0 k b ∧ wr = w2) (fun _ i _ => 2000 - (intOf i).toNat)
  case atStart => exact ⟨0, false, rfl, Nat.zero_le _, rfl, ⟨by simp, by simp⟩, rfl⟩
  case round =>
    obtain ⟨k, b, rfl, hk, rfl, hS, rfl⟩ := hrel
    by_cases hlt : k < d
    · have tlt : decide ((k : Int) < (d : Int)) = true := by simp; omega
      obtain ⟨c, hix, hnx⟩ := HS.out k hlt
      have HN := Lib.hid (hnx b hS)
      clear hnx hS
      by_cases h1 : ((c : Int) == 101) = true
      · cases b
        · cases h4 : ((c : Int) == 46)
          · go_wp2
            go_ret
            exact ⟨rfl, HB.out⟩
          · go_wp2
            go_ret
            exact ⟨rfl, HB.out⟩
        · go_wp2
          go_ret
          exact ⟨rfl, HB.out⟩
      · replace h1 := Bool.eq_false_iff.2 h1
        by_cases h2 : ((c : Int) == 45) = true
        · cases b
          · cases h4 : ((c : Int) == 46)
            · go_wp2
              go_ret
              exact ⟨rfl, HB.out⟩
            · go_wp2
              go_ret
              exact ⟨rfl, HB.out⟩
          · go_wp2
            go_ret
            exact ⟨rfl, HB.out⟩
        · replace h2 := Bool.eq_false_iff.2 h2
          have HN2 := Lib.hid (HN.out h1 h2)
          clear HN
          cases b
          · cases h4 : ((c : Int) == 46)
            · go_wp2
              go_roundw
              case rel => exact ⟨k + 1, false, by simp, by omega, rfl, HN2.out.2.2, trivial⟩
              case measure => simp [intOf]; omega
            · have HN3 := Lib.hid (HN2.out.2.1 h4)
              clear HN2
              go_wp2
              go_roundw
              case rel => exact ⟨k + 1, true, by simp, by omega, rfl, HN3.out, trivial⟩
              case measure => simp [intOf]; omega
          · go_wp2
            go_roundw
            case rel => exact ⟨k + 1, true, by simp, by omega, rfl, HN2.out.1 rfl, trivial⟩
            case measure => simp [intOf]; omega
    · have tlt : decide ((k : Int) < (d : Int)) = false := by simp; omega
      obtain rfl : k = d := by omega
      go_wp2_with fail
      refine (HP.out _).mono ?_
      rintro ee w3 ⟨s3, A3, n3, c3, rfl, p3, k3, B⟩
      replace hT := hT.below B
      replace HB := Lib.hid (bt HB.out B)
      clear B
      go_upto_region 12 with (fail)
      clear p3
      have lXa := Nat.le_refl (World.heap w3).size
      replace hT := hT.below (bel1 _ (.cells #[.bool s3, .slice A3 n3 c3, .int .i64 t] 27))
      replace HB := Lib.hid (bt HB.out (bel1 _ (.cells #[.bool s3, .slice A3 n3 c3, .int .i64 t] 27)))
      have Xa := Bo.new w3 #[.bool s3, .slice A3 n3 c3, .int .i64 t] 27
      generalize hWn : World.alloc w3 (.cells #[.bool s3, .slice A3 n3 c3, .int .i64 t] 27) = w4 at *
      clear hWn
      cases b
      all_goals
        go_wp2
        go_ret
        exact ⟨rfl, HB.out⟩

set_option maxHeartbeats 8000000 in
theorem decimalNoughts_y (l0 : List UInt8) (w : World) (hT : Pt w) (hl : l0.length ≤ 40) (z t : Int) (hp : tparse l0 = ((z, t), 0)) :
    Calls Tryz.prog 7 #[.string (st l0)] w (PB w true) := by
  have hstep : ∀ k, k < l0.length → ∃ c : Nat, (∀ w, (Instr.index 9 (.string (st l0)) (.int .i64 (k : Int))).run Tryz.prog w = .ok (.int .u8 (c : Int)) w) ∧ ∀ b, ScanP l0 k b → ((c : Int) == 101) = false → ((c : Int) == 45) = false → (b = true → ScanP l0 (k + 1) true) ∧ (((c : Int) == 46) = true → ScanP l0 (k + 1) true) ∧ ScanP l0 (k + 1) b := by
    intro k hk
    refine ⟨_, fun w => ix_at l0 k hk w, fun b hS h1 h2 => ?_⟩
    have e1 := u8_int (c := l0[k]) (m := 101) (by decide)
    have e2 := u8_int (c := l0[k]) (m := 45) (by decide)
    have e3 := u8_int (c := l0[k]) (m := 46) (by decide)
    have n1 : l0[k] ≠ 101 := by
      have := e1.symm.trans h1
      simpa using this
    have n2 : l0[k] ≠ 45 := by
      have := e2.symm.trans h2
      simpa using this
    refine ⟨fun hb => scan_next hS hk n1 n2 (fun _ => .inl hb), fun h => scan_next hS hk n1 n2 (fun _ => .inr ?_), scan_next hS hk n1 n2 (fun h => .inl h)⟩
    have := e3.symm.trans h
    simpa using this
  have hend : ∀ b, ScanP l0 l0.length b → b = true → tparse (l0 ++ [48]) = ((z, t), 0) ∧ tparse (45 :: l0) = ((-z, t), 0) := by
    intro b hS hb
    unfold ScanP at hS
    rw [List.take_of_length_le (Nat.le_refl _)] at hS
    exact noughts hl hp hS.1 (hS.2 hb)
  have hc1 := st_cat l0 [48]
  have hc2 := st_cat [45] l0
  have hs1 : (st (l0 ++ [48])).size = l0.length + 1 := by rw [st_size]; simp
  have hs2 : (st ([45] ++ l0)).size = l0.length + 1 := by rw [st_size]; simp
  obtain ⟨D1, hD1⟩ : ∃ D, l0 ++ [48] = D := ⟨_, rfl⟩
  obtain ⟨D2, hD2⟩ : ∃ D, [45] ++ l0 = D := ⟨_, rfl⟩
  rw [show 45 :: l0 = D2 from hD2, hD1] at hend
  rw [hD1] at hc1 hs1
  rw [hD2] at hc2 hs2
  clear hD1 hD2
  have hsz : (st l0).size = l0.length := st_size l0
  obtain ⟨d, hd⟩ : ∃ d, l0.length = d := ⟨_, rfl⟩
  rw [hd] at hsz hl
  have t1 : decide ((40 : Int) < (d : Int)) = false := by simp; omega
  have HP := Lib.hid (fun w => vParseE w hp)
  rw [hd] at hend hs1 hs2
  have HE := Lib.hid hend
  clear hend
  rw [hd] at hstep
  have HS := Lib.hid hstep
  clear hstep hd hp
  go_enter Tryz.func7, Tryz.ntmps7
  have HB := Lib.hid (Below.refl w.heap.size w)
  go_wp2_with fail
  refine (awake4 _ hT).mono ?_
  rintro ee w2 ⟨rfl, B⟩
  replace hT := hT.below B
  replace HB := Lib.hid (bt HB.out B)
  clear B
  go_wp2
  go_loopw [4, 5] (fun pt i wr => ∃ (k : Nat) (b : Bool), i = .int .i64 k ∧ k ≤ d ∧ pt = .bool b ∧ ScanP l0 k b ∧ wr = w2) (fun _ i _ => 2000 - (intOf i).toNat)
  case atStart => exact ⟨0, false, rfl, Nat.zero_le _, rfl, ⟨by simp, by simp⟩, rfl⟩
  case round =>
    obtain ⟨k, b, rfl, hk, rfl, hS, rfl⟩ := hrel
    by_cases hlt : k < d
    · have tlt : decide ((k : Int) < (d : Int)) = true := by simp; omega
      obtain ⟨c, hix, hnx⟩ := HS.out k hlt
      have HN := Lib.hid (hnx b hS)
      clear hnx hS
      by_cases h1 : ((c : Int) == 101) = true
      · cases b
        · cases h4 : ((c : Int) == 46)
          · go_wp2
            go_ret
            exact ⟨rfl, HB.out⟩
          · go_wp2
            go_ret
            exact ⟨rfl, HB.out⟩
        · go_wp2
          go_ret
          exact ⟨rfl, HB.out⟩
      · replace h1 := Bool.eq_false_iff.2 h1
        by_cases h2 : ((c : Int) == 45) = true
        · cases b
          · cases h4 : ((c : Int) == 46)
            · go_wp2
              go_ret
              exact ⟨rfl, HB.out⟩
            · go_wp2
              go_ret
              exact ⟨rfl, HB.out⟩
          · go_wp2
            go_ret
            exact ⟨rfl, HB.out⟩
        · replace h2 := Bool.eq_false_iff.2 h2
          have HN2 := Lib.hid (HN.out h1 h2)
          clear HN
          cases b
          · cases h4 : ((c : Int) == 46)
            · go_wp2
              go_roundw
              case rel => exact ⟨k + 1, false, by simp, by omega, rfl, HN2.out.2.2, trivial⟩
              case measure => simp [intOf]; omega
            · have HN3 := Lib.hid (HN2.out.2.1 h4)
              clear HN2
              go_wp2
              go_roundw
              case rel => exact ⟨k + 1, true, by simp, by omega, rfl, HN3.out, trivial⟩
              case measure => simp [intOf]; omega
          · go_wp2
            go_roundw
            case rel => exact ⟨k + 1, true, by simp, by omega, rfl, HN2.out.1 rfl, trivial⟩
            case measure => simp [intOf]; omega
    · have tlt : decide ((k : Int) < (d : Int)) = false := by simp; omega
      obtain rfl : k = d := by omega
      go_wp2_with fail
      refine (HP.out _).mono ?_
      rintro ee w3 ⟨s3, A3, n3, c3, rfl, p3, k3, B⟩
      replace hT := hT.below B
      replace HB := Lib.hid (bt HB.out B)
      clear B
      go_upto_region 12 with (fail)
      have lXa := Nat.le_refl (World.heap w3).size
      replace hT := hT.below (bel1 _ (.cells #[.bool s3, .slice A3 n3 c3, .int .i64 t] 27))
      replace p3 := p3.below (bel1 _ (.cells #[.bool s3, .slice A3 n3 c3, .int .i64 t] 27))
      replace HB := Lib.hid (bt HB.out (bel1 _ (.cells #[.bool s3, .slice A3 n3 c3, .int .i64 t] 27)))
      have Xa := Bo.new w3 #[.bool s3, .slice A3 n3 c3, .int .i64 t] 27
      generalize hWn : World.alloc w3 (.cells #[.bool s3, .slice A3 n3 c3, .int .i64 t] 27) = w4 at *
      clear hWn
      cases b
      · go_wp2
        go_ret
        exact ⟨rfl, HB.out⟩
      obtain ⟨q1, q2⟩ := HE.out _ hS rfl
      have HP1 := Lib.hid (fun w => vParseE w q1)
      have HP2 := Lib.hid (fun w => vParseE w q2)
      clear q1 q2 hS HE HS
      go_wp2_with fail
      refine (HP1.out _).mono ?_
      rintro ee w5 ⟨s5, A5, n5, c5, rfl, p5, k5, B⟩
      replace Xa := Xa.below B
      replace hT := hT.below B
      replace p3 := p3.below B
      replace HB := Lib.hid (bt HB.out B)
      clear B
      go_upto_region 15 with (fail)
      have lXb := Nat.le_refl (World.heap w5).size
      have nXbXa := Xa.lt
      replace Xa := Xa.below (bel1 _ (.cells #[.bool s5, .slice A5 n5 c5, .int .i64 t] 27))
      replace hT := hT.below (bel1 _ (.cells #[.bool s5, .slice A5 n5 c5, .int .i64 t] 27))
      replace p3 := p3.below (bel1 _ (.cells #[.bool s5, .slice A5 n5 c5, .int .i64 t] 27))
      replace p5 := p5.below (bel1 _ (.cells #[.bool s5, .slice A5 n5 c5, .int .i64 t] 27))
      replace HB := Lib.hid (bt HB.out (bel1 _ (.cells #[.bool s5, .slice A5 n5 c5, .int .i64 t] 27)))
      have Xb := Bo.new w5 #[.bool s5, .slice A5 n5 c5, .int .i64 t] 27
      generalize hWn : World.alloc w5 (.cells #[.bool s5, .slice A5 n5 c5, .int .i64 t] 27) = w6 at *
      clear hWn
      go_wp2_with fail
      refine (HP2.out _).mono ?_
      rintro ee w7 ⟨s7, A7, n7, c7, rfl, p7, k7, B⟩
      replace Xa := Xa.below B
      replace Xb := Xb.below B
      replace hT := hT.below B
      replace p3 := p3.below B
      replace p5 := p5.below B
      replace HB := Lib.hid (bt HB.out B)
      clear B
      go_upto_region 16 with (fail)
      have lXc := Nat.le_refl (World.heap w7).size
      have nXcXa := Xa.lt
      have nXcXb := Xb.lt
      replace Xa := Xa.below (bel1 _ (.cells #[.bool s7, .slice A7 n7 c7, .int .i64 t] 27))
      replace Xb := Xb.below (bel1 _ (.cells #[.bool s7, .slice A7 n7 c7, .int .i64 t] 27))
      replace hT := hT.below (bel1 _ (.cells #[.bool s7, .slice A7 n7 c7, .int .i64 t] 27))
      replace p3 := p3.below (bel1 _ (.cells #[.bool s7, .slice A7 n7 c7, .int .i64 t] 27))
      replace p5 := p5.below (bel1 _ (.cells #[.bool s7, .slice A7 n7 c7, .int .i64 t] 27))
      replace p7 := p7.below (bel1 _ (.cells #[.bool s7, .slice A7 n7 c7, .int .i64 t] 27))
      replace HB := Lib.hid (bt HB.out (bel1 _ (.cells #[.bool s7, .slice A7 n7 c7, .int .i64 t] 27)))
      have Xc := Bo.new w7 #[.bool s7, .slice A7 n7 c7, .int .i64 t] 27
      generalize hWn : World.alloc w7 (.cells #[.bool s7, .slice A7 n7 c7, .int .i64 t] 27) = w8 at *
      clear hWn
      have xXa0 := Xa.at (i := 0) (v := .bool s3) rfl
      have xXa1 := Xa.at (i := 1) (v := .slice A3 n3 c3) rfl
      have xXa2 := Xa.at (i := 2) (v := .int .i64 t) rfl
      have xXb0 := Xb.at (i := 0) (v := .bool s5) rfl
      have xXb1 := Xb.at (i := 1) (v := .slice A5 n5 c5) rfl
      have xXb2 := Xb.at (i := 2) (v := .int .i64 t) rfl
      go_wp2_with fail
      refine (uAlike p3 p5).mono ?_
      rintro ee w9 ⟨rfl, B⟩
      clear xXa0 xXa1 xXa2 xXb0 xXb1 xXb2
      replace Xa := Xa.below B
      replace Xb := Xb.below B
      replace Xc := Xc.below B
      replace hT := hT.below B
      replace p3 := p3.below B
      replace p5 := p5.below B
      replace p7 := p7.below B
      replace HB := Lib.hid (bt HB.out B)
      clear B
      clear p5
      go_upto_region 17 with (fail)
      refine Jo.region_joint (T := [0, 1, 2, 3, 4, 5, 6, 7, 8, 9, 10, 11, 12, 13, 14, 15, 16, 17, 18, 19, 20, 21, 22, 23, 24]) (ds := [some 71, some 72, some 73, some 74, some 75, some 76, some 77, some 78, some 79, some 80, some 81, some 82, some 83, some 84, some 85, some 86, some 87, some 88, some 89, some 90, some 91, some 92, some 93, some 94, some 2]) (ls := [[], [0], [1], [2], [2, 3], [4], [5], [5, 6], [5, 7], [8], [9], [9, 10], [9], [9, 12], [9, 11, 13], [9, 14], [15], [16], [16, 17], [16], [16, 19], [16, 20], [16, 18, 21], [16, 22], [23]]) (k := 25) (L := [(some 71, 0), (some 72, 1), (some 73, 2), (some 74, 3), (some 75, 4), (some 76, 5), (some 77, 6), (some 78, 7), (some 79, 8), (some 80, 9), (some 81, 10), (some 82, 11), (some 83, 12), (some 84, 13), (some 85, 14), (some 86, 15), (some 87, 16), (some 88, 17), (some 89, 18), (some 90, 19), (some 91, 20), (some 92, 21), (some 93, 22), (some 94, 23), (some 2, 24)]) (fuel := 0) (J := fun wj => Below (World.heap w9).size w9 wj)
        (F := [Jo.Fact.eq (.int .i64 0), Jo.Fact.eq (.bool true), Jo.Fact.eq (.bool true), Jo.Fact.eq (.bool true), Jo.Fact.eq (.bool true), Jo.Fact.eq (.bool true), Jo.Fact.eq (.int .i64 0), Jo.Fact.eq (.bool true), Jo.Fact.eq (.bool true), Jo.Fact.eq (.bool true), Jo.Fact.eq (.pointer (some ⟨w7.heap.size, 2, none⟩)), Jo.Fact.eq (.int .i64 t), Jo.Fact.eq (.pointer (some ⟨w3.heap.size, 2, none⟩)), Jo.Fact.eq (.int .i64 t), Jo.Fact.eq (.bool true), Jo.Fact.eq (.bool true), Jo.Fact.eq (.bool true), Jo.Fact.eq (.pointer (some ⟨w7.heap.size, 0, none⟩)), Jo.Fact.eq (.agg #[.bool s7, .slice A7 n7 c7]), Jo.Fact.eq (.pointer (some ⟨w3.heap.size, 0, none⟩)), Jo.Fact.eq (.agg #[.bool s3, .slice A3 n3 c3]), Jo.Fact.wn (-z) n3, Jo.Fact.eq (.bool true), Jo.Fact.eq (.bool true), Jo.Fact.eq (.bool true)])
        (by kernel_rfl) (by kernel_rfl) (by decide) rfl rfl (fun _ _ h b => bt h b) ((Below.refl _ _).drew) ?_ (fun vs w10 hJ hd => ?_)
      · refine Jo.jcons (i := 0) (o := ⟨some 71, _, _, _, _, _⟩) (di := some 71) (L := []) (f := Jo.Fact.eq (.int .i64 0)) rfl rfl rfl rfl (fun vs wj hJ hd K hK => ?_) ?_
        · clear hd
          simp only [Jo.putl, List.foldl_nil, Act.put, List.setIfInBounds_toArray, List.set_cons_zero, List.set_cons_succ] at hK ⊢
          go_simp
          exact hK.out _ _ rfl (Below.refl _ _)
        refine Jo.jcons (i := 1) (o := ⟨some 72, _, _, _, _, _⟩) (di := some 72) (L := [(some 71, 0)]) (f := Jo.Fact.eq (.bool true)) rfl rfl rfl rfl (fun vs wj hJ hd K hK => ?_) ?_
        · have d0 : (Jo.Fact.eq (.int .i64 0)).P (vs 0) wj := hd 0 (by decide)
          clear hd
          simp only [Jo.putl, List.foldl_cons, List.foldl_nil, Act.put, List.setIfInBounds_toArray, List.set_cons_zero, List.set_cons_succ] at hK ⊢
          generalize vs 0 = u0 at hK d0 ⊢
          replace d0 : u0 = _ := d0
          subst d0
          go_simp
          exact hK.out _ _ (by first | rfl | simp) (Below.refl _ _)
        refine Jo.jcons (i := 2) (o := ⟨some 73, _, _, _, _, _⟩) (di := some 73) (L := [(some 72, 1)]) (f := Jo.Fact.eq (.bool true)) rfl rfl rfl rfl (fun vs wj hJ hd K hK => ?_) ?_
        · have d1 : (Jo.Fact.eq (.bool true)).P (vs 1) wj := hd 1 (by decide)
          clear hd
          simp only [Jo.putl, List.foldl_cons, List.foldl_nil, Act.put, List.setIfInBounds_toArray, List.set_cons_zero, List.set_cons_succ] at hK ⊢
          generalize vs 1 = u1 at hK d1 ⊢
          replace d1 : u1 = _ := d1
          subst d1
          go_simp
          exact hK.out _ _ rfl (Below.refl _ _)
        refine Jo.jcons (i := 3) (o := ⟨some 74, _, _, _, _, _⟩) (di := some 74) (L := [(some 73, 2)]) (f := Jo.Fact.eq (.bool true)) rfl rfl rfl rfl (fun vs wj hJ hd K hK => ?_) ?_
        · have d2 : (Jo.Fact.eq (.bool true)).P (vs 2) wj := hd 2 (by decide)
          clear hd
          simp only [Jo.putl, List.foldl_cons, List.foldl_nil, Act.put, List.setIfInBounds_toArray, List.set_cons_zero, List.set_cons_succ] at hK ⊢
          generalize vs 2 = u2 at hK d2 ⊢
          replace d2 : u2 = _ := d2
          subst d2
          go_simp
          exact hK.out _ _ rfl (Below.refl _ _)
        refine Jo.jcons (i := 4) (o := ⟨some 75, _, _, _, _, _⟩) (di := some 75) (L := [(some 73, 2), (some 74, 3)]) (f := Jo.Fact.eq (.bool true)) rfl rfl rfl rfl (fun vs wj hJ hd K hK => ?_) ?_
        · have d2 : (Jo.Fact.eq (.bool true)).P (vs 2) wj := hd 2 (by decide)
          have d3 : (Jo.Fact.eq (.bool true)).P (vs 3) wj := hd 3 (by decide)
          clear hd
          simp only [Jo.putl, List.foldl_cons, List.foldl_nil, Act.put, List.setIfInBounds_toArray, List.set_cons_zero, List.set_cons_succ] at hK ⊢
          generalize vs 2 = u2 at hK d2 ⊢
          generalize vs 3 = u3 at hK d3 ⊢
          replace d2 : u2 = _ := d2
          subst d2
          replace d3 : u3 = _ := d3
          subst d3
          go_simp
          exact hK.out _ _ rfl (Below.refl _ _)
        refine Jo.jcons (i := 5) (o := ⟨some 76, _, _, _, _, _⟩) (di := some 76) (L := [(some 75, 4)]) (f := Jo.Fact.eq (.bool true)) rfl rfl rfl rfl (fun vs wj hJ hd K hK => ?_) ?_
        · have d4 : (Jo.Fact.eq (.bool true)).P (vs 4) wj := hd 4 (by decide)
          clear hd
          simp only [Jo.putl, List.foldl_cons, List.foldl_nil, Act.put, List.setIfInBounds_toArray, List.set_cons_zero, List.set_cons_succ] at hK ⊢
          generalize vs 4 = u4 at hK d4 ⊢
          replace d4 : u4 = _ := d4
          subst d4
          go_simp
          exact hK.out _ _ rfl (Below.refl _ _)
        refine Jo.jcons (i := 6) (o := ⟨some 77, _, _, _, _, _⟩) (di := some 77) (L := [(some 76, 5)]) (f := Jo.Fact.eq (.int .i64 0)) rfl rfl rfl rfl (fun vs wj hJ hd K hK => ?_) ?_
        · have d5 : (Jo.Fact.eq (.bool true)).P (vs 5) wj := hd 5 (by decide)
          clear hd
          simp only [Jo.putl, List.foldl_cons, List.foldl_nil, Act.put, List.setIfInBounds_toArray, List.set_cons_zero, List.set_cons_succ] at hK ⊢
          generalize vs 5 = u5 at hK d5 ⊢
          replace d5 : u5 = _ := d5
          subst d5
          go_simp
          exact hK.out _ _ rfl (Below.refl _ _)
        refine Jo.jcons (i := 7) (o := ⟨some 78, _, _, _, _, _⟩) (di := some 78) (L := [(some 76, 5), (some 77, 6)]) (f := Jo.Fact.eq (.bool true)) rfl rfl rfl rfl (fun vs wj hJ hd K hK => ?_) ?_
        · have d5 : (Jo.Fact.eq (.bool true)).P (vs 5) wj := hd 5 (by decide)
          have d6 : (Jo.Fact.eq (.int .i64 0)).P (vs 6) wj := hd 6 (by decide)
          clear hd
          simp only [Jo.putl, List.foldl_cons, List.foldl_nil, Act.put, List.setIfInBounds_toArray, List.set_cons_zero, List.set_cons_succ] at hK ⊢
          generalize vs 5 = u5 at hK d5 ⊢
          generalize vs 6 = u6 at hK d6 ⊢
          replace d5 : u5 = _ := d5
          subst d5
          replace d6 : u6 = _ := d6
          subst d6
          go_simp
          exact hK.out _ _ (by first | rfl | simp) (Below.refl _ _)
        refine Jo.jcons (i := 8) (o := ⟨some 79, _, _, _, _, _⟩) (di := some 79) (L := [(some 76, 5), (some 78, 7)]) (f := Jo.Fact.eq (.bool true)) rfl rfl rfl rfl (fun vs wj hJ hd K hK => ?_) ?_
        · have d5 : (Jo.Fact.eq (.bool true)).P (vs 5) wj := hd 5 (by decide)
          have d7 : (Jo.Fact.eq (.bool true)).P (vs 7) wj := hd 7 (by decide)
          clear hd
          simp only [Jo.putl, List.foldl_cons, List.foldl_nil, Act.put, List.setIfInBounds_toArray, List.set_cons_zero, List.set_cons_succ] at hK ⊢
          generalize vs 5 = u5 at hK d5 ⊢
          generalize vs 7 = u7 at hK d7 ⊢
          replace d5 : u5 = _ := d5
          subst d5
          replace d7 : u7 = _ := d7
          subst d7
          go_simp
          exact hK.out _ _ rfl (Below.refl _ _)
        refine Jo.jcons (i := 9) (o := ⟨some 80, _, _, _, _, _⟩) (di := some 80) (L := [(some 79, 8)]) (f := Jo.Fact.eq (.bool true)) rfl rfl rfl rfl (fun vs wj hJ hd K hK => ?_) ?_
        · have d8 : (Jo.Fact.eq (.bool true)).P (vs 8) wj := hd 8 (by decide)
          clear hd
          simp only [Jo.putl, List.foldl_cons, List.foldl_nil, Act.put, List.setIfInBounds_toArray, List.set_cons_zero, List.set_cons_succ] at hK ⊢
          generalize vs 8 = u8 at hK d8 ⊢
          replace d8 : u8 = _ := d8
          subst d8
          go_simp
          exact hK.out _ _ rfl (Below.refl _ _)
        refine Jo.jcons (i := 10) (o := ⟨some 81, _, _, _, _, _⟩) (di := some 81) (L := [(some 80, 9)]) (f := Jo.Fact.eq (.pointer (some ⟨w7.heap.size, 2, none⟩))) rfl rfl rfl rfl (fun vs wj hJ hd K hK => ?_) ?_
        · have d9 : (Jo.Fact.eq (.bool true)).P (vs 9) wj := hd 9 (by decide)
          clear hd
          simp only [Jo.putl, List.foldl_cons, List.foldl_nil, Act.put, List.setIfInBounds_toArray, List.set_cons_zero, List.set_cons_succ] at hK ⊢
          generalize vs 9 = u9 at hK d9 ⊢
          replace d9 : u9 = _ := d9
          subst d9
          go_simp
          exact hK.out _ _ rfl (Below.refl _ _)
        refine Jo.jcons (i := 11) (o := ⟨some 82, _, _, _, _, _⟩) (di := some 82) (L := [(some 80, 9), (some 81, 10)]) (f := Jo.Fact.eq (.int .i64 t)) rfl rfl rfl rfl (fun vs wj hJ hd K hK => ?_) ?_
        · have d9 : (Jo.Fact.eq (.bool true)).P (vs 9) wj := hd 9 (by decide)
          have d10 : (Jo.Fact.eq (.pointer (some ⟨w7.heap.size, 2, none⟩))).P (vs 10) wj := hd 10 (by decide)
          clear hd
          simp only [Jo.putl, List.foldl_cons, List.foldl_nil, Act.put, List.setIfInBounds_toArray, List.set_cons_zero, List.set_cons_succ] at hK ⊢
          generalize vs 9 = u9 at hK d9 ⊢
          generalize vs 10 = u10 at hK d10 ⊢
          replace d9 : u9 = _ := d9
          subst d9
          replace d10 : u10 = _ := d10
          subst d10
          have xXc0 : World.cell? wj ⟨w7.heap.size, 0, none⟩ = some (.bool s7) := (Xc.below hJ).cell 0
          have xXc1 : World.cell? wj ⟨w7.heap.size, 1, none⟩ = some (.slice A7 n7 c7) := (Xc.below hJ).cell 1
          have xXc2 : World.cell? wj ⟨w7.heap.size, 2, none⟩ = some (.int .i64 t) := (Xc.below hJ).cell 2
          go_simp
          exact hK.out _ _ rfl (Below.refl _ _)
        refine Jo.jcons (i := 12) (o := ⟨some 83, _, _, _, _, _⟩) (di := some 83) (L := [(some 80, 9)]) (f := Jo.Fact.eq (.pointer (some ⟨w3.heap.size, 2, none⟩))) rfl rfl rfl rfl (fun vs wj hJ hd K hK => ?_) ?_
        · have d9 : (Jo.Fact.eq (.bool true)).P (vs 9) wj := hd 9 (by decide)
          clear hd
          simp only [Jo.putl, List.foldl_cons, List.foldl_nil, Act.put, List.setIfInBounds_toArray, List.set_cons_zero, List.set_cons_succ] at hK ⊢
          generalize vs 9 = u9 at hK d9 ⊢
          replace d9 : u9 = _ := d9
          subst d9
          go_simp
          exact hK.out _ _ rfl (Below.refl _ _)
        refine Jo.jcons (i := 13) (o := ⟨some 84, _, _, _, _, _⟩) (di := some 84) (L := [(some 80, 9), (some 83, 12)]) (f := Jo.Fact.eq (.int .i64 t)) rfl rfl rfl rfl (fun vs wj hJ hd K hK => ?_) ?_
        · have d9 : (Jo.Fact.eq (.bool true)).P (vs 9) wj := hd 9 (by decide)
          have d12 : (Jo.Fact.eq (.pointer (some ⟨w3.heap.size, 2, none⟩))).P (vs 12) wj := hd 12 (by decide)
          clear hd
          simp only [Jo.putl, List.foldl_cons, List.foldl_nil, Act.put, List.setIfInBounds_toArray, List.set_cons_zero, List.set_cons_succ] at hK ⊢
          generalize vs 9 = u9 at hK d9 ⊢
          generalize vs 12 = u12 at hK d12 ⊢
          replace d9 : u9 = _ := d9
          subst d9
          replace d12 : u12 = _ := d12
          subst d12
          have xXa0 : World.cell? wj ⟨w3.heap.size, 0, none⟩ = some (.bool s3) := (Xa.below hJ).cell 0
          have xXa1 : World.cell? wj ⟨w3.heap.size, 1, none⟩ = some (.slice A3 n3 c3) := (Xa.below hJ).cell 1
          have xXa2 : World.cell? wj ⟨w3.heap.size, 2, none⟩ = some (.int .i64 t) := (Xa.below hJ).cell 2
          go_simp
          exact hK.out _ _ rfl (Below.refl _ _)
        refine Jo.jcons (i := 14) (o := ⟨some 85, _, _, _, _, _⟩) (di := some 85) (L := [(some 80, 9), (some 82, 11), (some 84, 13)]) (f := Jo.Fact.eq (.bool true)) rfl rfl rfl rfl (fun vs wj hJ hd K hK => ?_) ?_
        · have d9 : (Jo.Fact.eq (.bool true)).P (vs 9) wj := hd 9 (by decide)
          have d11 : (Jo.Fact.eq (.int .i64 t)).P (vs 11) wj := hd 11 (by decide)
          have d13 : (Jo.Fact.eq (.int .i64 t)).P (vs 13) wj := hd 13 (by decide)
          clear hd
          simp only [Jo.putl, List.foldl_cons, List.foldl_nil, Act.put, List.setIfInBounds_toArray, List.set_cons_zero, List.set_cons_succ] at hK ⊢
          generalize vs 9 = u9 at hK d9 ⊢
          generalize vs 11 = u11 at hK d11 ⊢
          generalize vs 13 = u13 at hK d13 ⊢
          replace d9 : u9 = _ := d9
          subst d9
          replace d11 : u11 = _ := d11
          subst d11
          replace d13 : u13 = _ := d13
          subst d13
          go_simp
          exact hK.out _ _ (by first | rfl | simp) (Below.refl _ _)
        refine Jo.jcons (i := 15) (o := ⟨some 86, _, _, _, _, _⟩) (di := some 86) (L := [(some 80, 9), (some 85, 14)]) (f := Jo.Fact.eq (.bool true)) rfl rfl rfl rfl (fun vs wj hJ hd K hK => ?_) ?_
        · have d9 : (Jo.Fact.eq (.bool true)).P (vs 9) wj := hd 9 (by decide)
          have d14 : (Jo.Fact.eq (.bool true)).P (vs 14) wj := hd 14 (by decide)
          clear hd
          simp only [Jo.putl, List.foldl_cons, List.foldl_nil, Act.put, List.setIfInBounds_toArray, List.set_cons_zero, List.set_cons_succ] at hK ⊢
          generalize vs 9 = u9 at hK d9 ⊢
          generalize vs 14 = u14 at hK d14 ⊢
          replace d9 : u9 = _ := d9
          subst d9
          replace d14 : u14 = _ := d14
          subst d14
          go_simp
          exact hK.out _ _ rfl (Below.refl _ _)
        refine Jo.jcons (i := 16) (o := ⟨some 87, _, _, _, _, _⟩) (di := some 87) (L := [(some 86, 15)]) (f := Jo.Fact.eq (.bool true)) rfl rfl rfl rfl (fun vs wj hJ hd K hK => ?_) ?_
        · have d15 : (Jo.Fact.eq (.bool true)).P (vs 15) wj := hd 15 (by decide)
          clear hd
          simp only [Jo.putl, List.foldl_cons, List.foldl_nil, Act.put, List.setIfInBounds_toArray, List.set_cons_zero, List.set_cons_succ] at hK ⊢
          generalize vs 15 = u15 at hK d15 ⊢
          replace d15 : u15 = _ := d15
          subst d15
          go_simp
          exact hK.out _ _ rfl (Below.refl _ _)
        refine Jo.jcons (i := 17) (o := ⟨some 88, _, _, _, _, _⟩) (di := some 88) (L := [(some 87, 16)]) (f := Jo.Fact.eq (.pointer (some ⟨w7.heap.size, 0, none⟩))) rfl rfl rfl rfl (fun vs wj hJ hd K hK => ?_) ?_
        · have d16 : (Jo.Fact.eq (.bool true)).P (vs 16) wj := hd 16 (by decide)
          clear hd
          simp only [Jo.putl, List.foldl_cons, List.foldl_nil, Act.put, List.setIfInBounds_toArray, List.set_cons_zero, List.set_cons_succ] at hK ⊢
          generalize vs 16 = u16 at hK d16 ⊢
          replace d16 : u16 = _ := d16
          subst d16
          go_simp
          exact hK.out _ _ rfl (Below.refl _ _)
        refine Jo.jcons (i := 18) (o := ⟨some 89, _, _, _, _, _⟩) (di := some 89) (L := [(some 87, 16), (some 88, 17)]) (f := Jo.Fact.eq (.agg #[.bool s7, .slice A7 n7 c7])) rfl rfl rfl rfl (fun vs wj hJ hd K hK => ?_) ?_
        · have d16 : (Jo.Fact.eq (.bool true)).P (vs 16) wj := hd 16 (by decide)
          have d17 : (Jo.Fact.eq (.pointer (some ⟨w7.heap.size, 0, none⟩))).P (vs 17) wj := hd 17 (by decide)
          clear hd
          simp only [Jo.putl, List.foldl_cons, List.foldl_nil, Act.put, List.setIfInBounds_toArray, List.set_cons_zero, List.set_cons_succ] at hK ⊢
          generalize vs 16 = u16 at hK d16 ⊢
          generalize vs 17 = u17 at hK d17 ⊢
          replace d16 : u16 = _ := d16
          subst d16
          replace d17 : u17 = _ := d17
          subst d17
          have xXc0 : World.cell? wj ⟨w7.heap.size, 0, none⟩ = some (.bool s7) := (Xc.below hJ).cell 0
          have xXc1 : World.cell? wj ⟨w7.heap.size, 1, none⟩ = some (.slice A7 n7 c7) := (Xc.below hJ).cell 1
          have xXc2 : World.cell? wj ⟨w7.heap.size, 2, none⟩ = some (.int .i64 t) := (Xc.below hJ).cell 2
          go_simp
          exact hK.out _ _ rfl (Below.refl _ _)
        refine Jo.jcons (i := 19) (o := ⟨some 90, _, _, _, _, _⟩) (di := some 90) (L := [(some 87, 16)]) (f := Jo.Fact.eq (.pointer (some ⟨w3.heap.size, 0, none⟩))) rfl rfl rfl rfl (fun vs wj hJ hd K hK => ?_) ?_
        · have d16 : (Jo.Fact.eq (.bool true)).P (vs 16) wj := hd 16 (by decide)
          clear hd
          simp only [Jo.putl, List.foldl_cons, List.foldl_nil, Act.put, List.setIfInBounds_toArray, List.set_cons_zero, List.set_cons_succ] at hK ⊢
          generalize vs 16 = u16 at hK d16 ⊢
          replace d16 : u16 = _ := d16
          subst d16
          go_simp
          exact hK.out _ _ rfl (Below.refl _ _)
        refine Jo.jcons (i := 20) (o := ⟨some 91, _, _, _, _, _⟩) (di := some 91) (L := [(some 87, 16), (some 90, 19)]) (f := Jo.Fact.eq (.agg #[.bool s3, .slice A3 n3 c3])) rfl rfl rfl rfl (fun vs wj hJ hd K hK => ?_) ?_
        · have d16 : (Jo.Fact.eq (.bool true)).P (vs 16) wj := hd 16 (by decide)
          have d19 : (Jo.Fact.eq (.pointer (some ⟨w3.heap.size, 0, none⟩))).P (vs 19) wj := hd 19 (by decide)
          clear hd
          simp only [Jo.putl, List.foldl_cons, List.foldl_nil, Act.put, List.setIfInBounds_toArray, List.set_cons_zero, List.set_cons_succ] at hK ⊢
          generalize vs 16 = u16 at hK d16 ⊢
          generalize vs 19 = u19 at hK d19 ⊢
          replace d16 : u16 = _ := d16
          subst d16
          replace d19 : u19 = _ := d19
          subst d19
          have xXa0 : World.cell? wj ⟨w3.heap.size, 0, none⟩ = some (.bool s3) := (Xa.below hJ).cell 0
          have xXa1 : World.cell? wj ⟨w3.heap.size, 1, none⟩ = some (.slice A3 n3 c3) := (Xa.below hJ).cell 1
          have xXa2 : World.cell? wj ⟨w3.heap.size, 2, none⟩ = some (.int .i64 t) := (Xa.below hJ).cell 2
          go_simp
          exact hK.out _ _ rfl (Below.refl _ _)
        refine Jo.jcons (i := 21) (o := ⟨some 92, _, _, _, _, _⟩) (di := some 92) (L := [(some 87, 16), (some 91, 20)]) (f := Jo.Fact.wn (-z) n3) rfl rfl rfl rfl (fun vs wj hJ hd K hK => ?_) ?_
        · have d16 : (Jo.Fact.eq (.bool true)).P (vs 16) wj := hd 16 (by decide)
          have d20 : (Jo.Fact.eq (.agg #[.bool s3, .slice A3 n3 c3])).P (vs 20) wj := hd 20 (by decide)
          clear hd
          simp only [Jo.putl, List.foldl_cons, List.foldl_nil, Act.put, List.setIfInBounds_toArray, List.set_cons_zero, List.set_cons_succ] at hK ⊢
          generalize vs 16 = u16 at hK d16 ⊢
          generalize vs 20 = u20 at hK d20 ⊢
          replace d16 : u16 = _ := d16
          subst d16
          replace d20 : u20 = _ := d20
          subst d20
          go_simp
          refine (wNeg (p3.below hJ).wr rfl).mono ?_
          rintro ee wk ⟨s8, A8, n8, c8, rfl, p8, k8, B⟩
          exact hK.out _ _ ⟨_, _, _, _, rfl, p8, k8⟩ B
        refine Jo.jcons (i := 22) (o := ⟨some 93, _, _, _, _, _⟩) (di := some 93) (L := [(some 87, 16), (some 89, 18), (some 92, 21)]) (f := Jo.Fact.eq (.bool true)) rfl rfl rfl rfl (fun vs wj hJ hd K hK => ?_) ?_
        · have d16 : (Jo.Fact.eq (.bool true)).P (vs 16) wj := hd 16 (by decide)
          have d18 : (Jo.Fact.eq (.agg #[.bool s7, .slice A7 n7 c7])).P (vs 18) wj := hd 18 (by decide)
          have d21 : (Jo.Fact.wn (-z) n3).P (vs 21) wj := hd 21 (by decide)
          clear hd
          simp only [Jo.putl, List.foldl_cons, List.foldl_nil, Act.put, List.setIfInBounds_toArray, List.set_cons_zero, List.set_cons_succ] at hK ⊢
          generalize vs 16 = u16 at hK d16 ⊢
          generalize vs 18 = u18 at hK d18 ⊢
          generalize vs 21 = u21 at hK d21 ⊢
          replace d16 : u16 = _ := d16
          subst d16
          replace d18 : u18 = _ := d18
          subst d18
          obtain ⟨s8, A8, n8, c8, rfl, p8, k8⟩ := d21
          go_simp
          refine (wSame (r := true) (p7.below hJ).wr p8.wr (decide_eq_true rfl)).mono ?_
          rintro ee wk ⟨rfl, B⟩
          exact hK.out _ _ rfl B
        refine Jo.jcons (i := 23) (o := ⟨some 94, _, _, _, _, _⟩) (di := some 94) (L := [(some 87, 16), (some 93, 22)]) (f := Jo.Fact.eq (.bool true)) rfl rfl rfl rfl (fun vs wj hJ hd K hK => ?_) ?_
        · have d16 : (Jo.Fact.eq (.bool true)).P (vs 16) wj := hd 16 (by decide)
          have d22 : (Jo.Fact.eq (.bool true)).P (vs 22) wj := hd 22 (by decide)
          clear hd
          simp only [Jo.putl, List.foldl_cons, List.foldl_nil, Act.put, List.setIfInBounds_toArray, List.set_cons_zero, List.set_cons_succ] at hK ⊢
          generalize vs 16 = u16 at hK d16 ⊢
          generalize vs 22 = u22 at hK d22 ⊢
          replace d16 : u16 = _ := d16
          subst d16
          replace d22 : u22 = _ := d22
          subst d22
          go_simp
          exact hK.out _ _ rfl (Below.refl _ _)
        refine Jo.jcons (i := 24) (o := ⟨some 2, _, _, _, _, _⟩) (di := some 2) (L := [(some 94, 23)]) (f := Jo.Fact.eq (.bool true)) rfl rfl rfl rfl (fun vs wj hJ hd K hK => ?_) ?_
        · have d23 : (Jo.Fact.eq (.bool true)).P (vs 23) wj := hd 23 (by decide)
          clear hd
          simp only [Jo.putl, List.foldl_cons, List.foldl_nil, Act.put, List.setIfInBounds_toArray, List.set_cons_zero, List.set_cons_succ] at hK ⊢
          generalize vs 23 = u23 at hK d23 ⊢
          replace d23 : u23 = _ := d23
          subst d23
          go_simp
          exact hK.out _ _ rfl (Below.refl _ _)
        exact Jo.Steps.nil
      have d0 : (Jo.Fact.eq (.int .i64 0)).P (vs 0) w10 := hd 0 (by decide)
      have d1 : (Jo.Fact.eq (.bool true)).P (vs 1) w10 := hd 1 (by decide)
      have d2 : (Jo.Fact.eq (.bool true)).P (vs 2) w10 := hd 2 (by decide)
      have d3 : (Jo.Fact.eq (.bool true)).P (vs 3) w10 := hd 3 (by decide)
      have d4 : (Jo.Fact.eq (.bool true)).P (vs 4) w10 := hd 4 (by decide)
      have d5 : (Jo.Fact.eq (.bool true)).P (vs 5) w10 := hd 5 (by decide)
      have d6 : (Jo.Fact.eq (.int .i64 0)).P (vs 6) w10 := hd 6 (by decide)
      have d7 : (Jo.Fact.eq (.bool true)).P (vs 7) w10 := hd 7 (by decide)
      have d8 : (Jo.Fact.eq (.bool true)).P (vs 8) w10 := hd 8 (by decide)
      have d9 : (Jo.Fact.eq (.bool true)).P (vs 9) w10 := hd 9 (by decide)
      have d10 : (Jo.Fact.eq (.pointer (some ⟨w7.heap.size, 2, none⟩))).P (vs 10) w10 := hd 10 (by decide)
      have d11 : (Jo.Fact.eq (.int .i64 t)).P (vs 11) w10 := hd 11 (by decide)
      have d12 : (Jo.Fact.eq (.pointer (some ⟨w3.heap.size, 2, none⟩))).P (vs 12) w10 := hd 12 (by decide)
      have d13 : (Jo.Fact.eq (.int .i64 t)).P (vs 13) w10 := hd 13 (by decide)
      have d14 : (Jo.Fact.eq (.bool true)).P (vs 14) w10 := hd 14 (by decide)
      have d15 : (Jo.Fact.eq (.bool true)).P (vs 15) w10 := hd 15 (by decide)
      have d16 : (Jo.Fact.eq (.bool true)).P (vs 16) w10 := hd 16 (by decide)
      have d17 : (Jo.Fact.eq (.pointer (some ⟨w7.heap.size, 0, none⟩))).P (vs 17) w10 := hd 17 (by decide)
      have d18 : (Jo.Fact.eq (.agg #[.bool s7, .slice A7 n7 c7])).P (vs 18) w10 := hd 18 (by decide)
      have d19 : (Jo.Fact.eq (.pointer (some ⟨w3.heap.size, 0, none⟩))).P (vs 19) w10 := hd 19 (by decide)
      have d20 : (Jo.Fact.eq (.agg #[.bool s3, .slice A3 n3 c3])).P (vs 20) w10 := hd 20 (by decide)
      have d21 : (Jo.Fact.wn (-z) n3).P (vs 21) w10 := hd 21 (by decide)
      have d22 : (Jo.Fact.eq (.bool true)).P (vs 22) w10 := hd 22 (by decide)
      have d23 : (Jo.Fact.eq (.bool true)).P (vs 23) w10 := hd 23 (by decide)
      have d24 : (Jo.Fact.eq (.bool true)).P (vs 24) w10 := hd 24 (by decide)
      clear hd
      simp only [Jo.putl, List.foldl_cons, List.foldl_nil, Act.put, List.setIfInBounds_toArray, List.set_cons_zero, List.set_cons_succ]
      generalize vs 0 = u0 at d0 ⊢
      generalize vs 1 = u1 at d1 ⊢
      generalize vs 2 = u2 at d2 ⊢
      generalize vs 3 = u3 at d3 ⊢
      generalize vs 4 = u4 at d4 ⊢
      generalize vs 5 = u5 at d5 ⊢
      generalize vs 6 = u6 at d6 ⊢
      generalize vs 7 = u7 at d7 ⊢
      generalize vs 8 = u8 at d8 ⊢
      generalize vs 9 = u9 at d9 ⊢
      generalize vs 10 = u10 at d10 ⊢
      generalize vs 11 = u11 at d11 ⊢
      generalize vs 12 = u12 at d12 ⊢
      generalize vs 13 = u13 at d13 ⊢
      generalize vs 14 = u14 at d14 ⊢
      generalize vs 15 = u15 at d15 ⊢
      generalize vs 16 = u16 at d16 ⊢
      generalize vs 17 = u17 at d17 ⊢
      generalize vs 18 = u18 at d18 ⊢
      generalize vs 19 = u19 at d19 ⊢
      generalize vs 20 = u20 at d20 ⊢
      generalize vs 21 = u21 at d21 ⊢
      generalize vs 22 = u22 at d22 ⊢
      generalize vs 23 = u23 at d23 ⊢
      generalize vs 24 = u24 at d24 ⊢
      clear vs
      replace d0 : u0 = _ := d0
      subst d0
      replace d1 : u1 = _ := d1
      subst d1
      replace d2 : u2 = _ := d2
      subst d2
      replace d3 : u3 = _ := d3
      subst d3
      replace d4 : u4 = _ := d4
      subst d4
      replace d5 : u5 = _ := d5
      subst d5
      replace d6 : u6 = _ := d6
      subst d6
      replace d7 : u7 = _ := d7
      subst d7
      replace d8 : u8 = _ := d8
      subst d8
      replace d9 : u9 = _ := d9
      subst d9
      replace d10 : u10 = _ := d10
      subst d10
      replace d11 : u11 = _ := d11
      subst d11
      replace d12 : u12 = _ := d12
      subst d12
      replace d13 : u13 = _ := d13
      subst d13
      replace d14 : u14 = _ := d14
      subst d14
      replace d15 : u15 = _ := d15
      subst d15
      replace d16 : u16 = _ := d16
      subst d16
      replace d17 : u17 = _ := d17
      subst d17
      replace d18 : u18 = _ := d18
      subst d18
      replace d19 : u19 = _ := d19
      subst d19
      replace d20 : u20 = _ := d20
      subst d20
      obtain ⟨s8, A8, n8, c8, rfl, _, _⟩ := d21
      replace d22 : u22 = _ := d22
      subst d22
      replace d23 : u23 = _ := d23
      subst d23
      replace d24 : u24 = _ := d24
      subst d24
      replace Xa := Xa.below hJ
      replace Xb := Xb.below hJ
      replace Xc := Xc.below hJ
      replace hT := hT.below hJ
      replace p3 := p3.below hJ
      replace p7 := p7.below hJ
      replace HB := Lib.hid (bt HB.out hJ)
      refine Jo.jdone (by kernel_rfl) ?_
      go_wp2
      go_ret
      exact ⟨rfl, HB.out⟩

theorem decimalNoughts_walk (l0 : List UInt8) (w : World) (hT : Pt w) :
    Calls Tryz.prog 7 #[.string (st l0)] w fun e w' => e = .returned (.bool true) ∧ Below w.heap.size w w' := by
  by_cases hl : l0.length ≤ 40
  · obtain ⟨z, t, x, hp⟩ : ∃ z t x, tparse l0 = ((z, t), x) := ⟨_, _, _, rfl⟩
    by_cases hx : x = 0
    · subst hx
      exact decimalNoughts_y l0 w hT hl z t hp
    · exact decimalNoughts_n l0 w hT hl z t x hp hx
  · exact decimalNoughts_long l0 w hT (by omega)
end Go.Proofs.YtdfnjhkcicnkpaaGreatDoor
